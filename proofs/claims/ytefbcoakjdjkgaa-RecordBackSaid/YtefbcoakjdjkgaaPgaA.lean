/- The landed page: its bytes as an array; lay. -/
import Derived.Test.YtefbcoakjdjkgaaPagQ
import Derived.Test.YtefbcoakjdjkgaaRoc
import Derived.Test.YtefbcoakjdjkgaaLaxH
import Derived.Test.YtefbcoakjdjkgaaLaxF
import Derived.Great.Walk
import Derived.Laws.BitsAllLaws
namespace Go.Own
open Go.RowKit
section
variable {B : Nat} {w0 w : World} {Ps : List Asn} {b : Nat} {t : TypeId} {vs : List Value}
/-- some of its cells are written -/
theorem St.setMid (i : Nat) : ∀ (r : List Value) (o : Nat) (w : World) (Ps : List Asn) (vs : List Value), St B w0 w Ps → Ps[i]? = some (AVals b t vs) → o + r.length ≤ vs.length →
    St B w0 (w.setCells b o r) (Ps.set i (AVals b t (vs.take o ++ r ++ vs.drop (o + r.length))))
  | [], o, w, Ps, l, h, hi, hl => by
    have ee : l.take o ++ [] ++ l.drop (o + ([] : List Value).length) = l := by simp
    rw [ee]
    have hs : Ps.set i (AVals b t l) = Ps := by
      apply List.ext_getElem?
      intro j
      by_cases hj : j = i
      · subst hj
        rw [List.getElem?_set_self (List.getElem?_eq_some_iff.1 hi).1, hi]
      · rw [List.getElem?_set_ne (Ne.symm hj)]
    rw [hs]
    exact h
  | c :: r, o, w, Ps, l, h, hi, hl => by
    have put := h.storeV i hi o c
    have hlt : i < Ps.length := (List.getElem?_eq_some_iff.1 hi).1
    have h2 := St.setMid i r (o + 1) _ _ (l.set o c) put (by rw [List.getElem?_set_self hlt]) (by simp at hl ⊢; omega)
    rw [List.set_set] at h2
    have ho : o < l.length := by simp at hl; omega
    have ee : (l.set o c).take (o + 1) ++ r ++ (l.set o c).drop (o + 1 + r.length) = l.take o ++ (c :: r) ++ l.drop (o + (c :: r).length) := by
      have e0 : (l.set o c).take o = l.take o := by
        apply List.ext_getElem?
        intro j
        by_cases hj : j < o
        · rw [List.getElem?_take_of_lt hj, List.getElem?_take_of_lt hj, List.getElem?_set_ne (by omega)]
        · rw [List.getElem?_eq_none (by simp; omega), List.getElem?_eq_none (by simp; omega)]
      have e1 : (l.set o c).drop (o + 1 + r.length) = l.drop (o + (c :: r).length) := by
        apply List.ext_getElem?
        intro j
        rw [List.getElem?_drop, List.getElem?_drop, List.getElem?_set_ne (by omega)]
        congr 1
        simp
        omega
      rw [List.take_succ_eq_append_getElem (by simpa using ho), e0, e1]
      simp
    rw [ee] at h2
    exact h2
/-- an array of one's own, whole, as a slice of one's own -/
theorem St.valsRow {n : Nat} (H : St B w0 w (AVals b t vs :: Ps)) (hn : vs.length = n) (hm : n ≤ maxLen) : St B w0 w (ARow t 1 (.slice (some ⟨b, 0, none⟩) n n) n vs :: Ps) := by
  obtain ⟨S, hS, _, put⟩ := H.at 0 rfl
  refine put S w (ARow t 1 (.slice (some ⟨b, 0, none⟩) n n) n vs) ⟨⟨by rw [hn]; omega, .inr ⟨b, n, vs.toArray, rfl, Nat.zero_le _, hS.1, Nat.le_refl _, hm, by simp [hn], by simp [← hn]⟩⟩, fun k => ?_⟩ (Step.refl S w)
  rw [hS.2 k]
  simp [Value.ownBlock, eq_comm]
end
end Go.Own
namespace Go.PagM
/-- the page as it stands ahead of the bits -/
def raw (c d : UInt8) : Bs := c :: d :: (List.replicate 125 0 ++ [90])
theorem raw_len (c d : UInt8) : (raw c d).length = 128 := by simp [raw]
theorem raw_set (c d e : UInt8) : (raw c d).set 0 e = raw e d := rfl
theorem raw_laid (f : Frm) (h : f.data.length ≤ 125) : (raw (UInt8.ofNat (headN f)) (UInt8.ofNat f.data.length)).take 2 ++ f.data ++ (raw (UInt8.ofNat (headN f)) (UInt8.ofNat f.data.length)).drop (2 + f.data.length) = laid f := by
  unfold raw laid
  rw [Nat.add_comm 2, List.drop_succ_cons, List.drop_succ_cons, List.drop_append_of_le_length (by simp; omega), List.drop_replicate]
  rfl
end Go.PagM
namespace Go.Proofs.Ytefbcoakjdjkgaa
open Go.RowKit Go.Own
namespace Pag
open Go.PagM Byt

set_option maxRecDepth 100000 in
theorem or64 : ∀ k : Nat, k < 64 → bits .or .u8 (k : Int) 64 = ((k + 64 : Nat) : Int) := by decide
set_option maxRecDepth 100000 in
theorem or128 : ∀ k : Nat, k < 128 → bits .or .u8 (k : Int) 128 = ((k + 128 : Nat) : Int) := by decide
set_option maxRecDepth 100000 in
theorem and63 : ∀ k : Nat, k < 256 → bits .and .u8 (k : Int) 63 = ((k % 64 : Nat) : Int) := by decide
set_option maxRecDepth 100000 in
theorem and64 : ∀ k : Nat, k < 256 → (bits .and .u8 (k : Int) 64 != 0) = decide (k / 64 % 2 = 1) := by decide
set_option maxRecDepth 100000 in
theorem and128 : ∀ k : Nat, k < 256 → (bits .and .u8 (k : Int) 128 != 0) = decide (k / 128 = 1) := by decide
/-- copy onto a part of an array of one's own -/
theorem wpList_a8_copy {ops : Array Oper} {rest : List Oper} {o : Oper} {a : Act} {w : World} {Q : Exit → Act → World → Prop} {B : Nat} {w0 : World} {Ps : List Asn} (hgd : o.guard = none) (d s : Operand)
    (ho : o.op = .call { callee := .builtin .copy, args := #[d, s], argTypes := #[28, 28] }) (H : Own.St B w0 w Ps) (i : Nat) {b k nn cc : Nat} {t : TypeId} {l : List UInt8} (hi : Ps[i]? = some (A8 b t l)) (hd : a.eval d = .slice (some ⟨b, k, none⟩) nn cc)
    (bo : Option Addr) (m c : Nat) (news : List UInt8) (hx : a.eval s = .slice bo m c) (hl : news.length = m) (hmn : m ≤ nn) (hkl : k + nn ≤ l.length) (hno : bo = none → m = 0)
    (hc : ∀ a, bo = some a → ∀ j u, (news.map byteV)[j]? = some u → w.cell? (a.add j) = some u)
    (h : ∀ w', Own.St B w0 w' (Ps.set i (A8 b t (l.take k ++ news ++ l.drop (k + m)))) → wpList Try.prog ops Q rest (a.put o.dst (goInt m)) w') : wpList Try.prog ops Q (o :: rest) a w := by
  refine wpList_plain hgd fun K hK => ?_
  have hset := Own.St.setMid i (news.map byteV) k w Ps (l.map byteV) H hi (by simp; omega)
  have e : AVals b t ((l.map byteV).take k ++ news.map byteV ++ (l.map byteV).drop (k + (news.map byteV).length)) = A8 b t (l.take k ++ news ++ l.drop (k + m)) := by
    unfold A8
    rw [List.map_append, List.map_append, List.map_take, List.map_drop, List.length_map, hl]
  rw [e] at hset
  have hcells : ∀ j, j < (news.map byteV).length → (w.cell? ⟨b, k + j, none⟩).isSome = true ∧ w.frozen? ⟨b, k + j, none⟩ = false := by
    intro j hj
    rw [List.length_map] at hj
    obtain ⟨h1, h2⟩ := A8.cell H i hi (k + j) (by omega)
    exact ⟨by rw [h1]; rfl, h2⟩
  have hrun : (Builtin.copy_ #[28, 28] o.type #[.slice (some ⟨b, k, none⟩) nn cc, .slice bo m c]).run Try.prog w = .ok (goInt m) (w.setCells b k (news.map byteV)) := by
    cases bo with
    | none =>
      have hm := hno rfl
      subst hm
      obtain rfl : news = [] := List.eq_nil_of_length_eq_zero hl
      exact run_copy_none (P := Try.prog) w 28 28 o.type 5 _ none nn cc 0 c Try.underlying28 info8 (Nat.min_eq_left (Nat.zero_le _))
    | some ad =>
      have := run_copy_cells (P := Try.prog) w 28 28 o.type 5 b k nn cc ad m c (news.map byteV) Try.underlying28 info8 (by rw [List.length_map, hl]; exact (Nat.min_eq_left hmn).symm) (hc ad rfl) (fun j hj => (hcells j hj).1) (fun j hj => (hcells j hj).2) (byteV_one _)
      rw [List.length_map, hl] at this
      exact this
  unfold Oper.wp
  simp [execOp, ho, resolve, invoke, builtin, hd, hx, hrun, Result.andThen]
  exact hK _ _ (h _ hset)

end Pag
end Go.Proofs.Ytefbcoakjdjkgaa
