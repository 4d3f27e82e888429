/- copy onto bytes of one's own; what a drawn region made is taken among the objects. -/
import Derived.Test.YtefbcoakjdjkgaaGiv
import Derived.Test.YtefbcoakjdjkgaaObj
import Derived.Test.YtefbcoakjdjkgaaLax
import Derived.Laws.IdiomCopy
namespace Go.Own
open Go.RowKit
section
variable {B : Nat} {w0 w w1 w2 : World} {Ps : List Asn}
/-- something that came behind w1 -/
theorem St.adopt (H : St B w0 w1 Ps) (g : Below w1.heap.size w1 w2) {T : Nat → Prop} (Q : Asn) (hQ : Q.holds T w2) (hT : ∀ k, T k → w1.heap.size ≤ k) : St B w0 w2 (Q :: Ps) := by
  obtain ⟨hb, hs, S, ha, hB⟩ := H
  have hst : Step (fun _ => False) (fun _ => False) w1 w2 := ⟨g.os, g.tape, g.output, g.size, fun k hk _ => g.block k hk, fun _ h => h.elim⟩
  refine ⟨hb.trans (g.mono hs), Nat.le_trans hs g.size, fun k => T k ∨ S k, ⟨T, S, hQ, ha.keep hst (fun _ _ h => h), fun k h1 h2 => ?_, fun k => Iff.rfl⟩, fun k hk => hk.elim (fun h => Nat.le_trans hs (hT k h)) (hB k)⟩
  have := hT k h1
  have := ha.lt k h2
  omega
/-- the second is let go -/
theorem St.drop2 {P Q : Asn} (H : St B w0 w (P :: Q :: Ps)) : St B w0 w (P :: Ps) := (H.perm (List.Perm.swap Q P Ps)).drop 1
theorem St.swap2 {P Q : Asn} (H : St B w0 w (P :: Q :: Ps)) : St B w0 w (Q :: P :: Ps) := H.perm (List.Perm.swap Q P Ps)
end
end Go.Own
namespace Go.Proofs.Ytefbcoakjdjkgaa
open Go.RowKit Go.Own
namespace Byt

section
variable {B : Nat} {w0 : World}
theorem ab_setCells {g n cap : Nat} (i : Nat) : ∀ (r : List UInt8) (o : Nat) (w : World) (Ps : List Asn) (l : List UInt8), Own.St B w0 w Ps → Ps[i]? = some (AB (some ⟨g, 0, none⟩) n cap l) → o + r.length ≤ n →
    Own.St B w0 (w.setCells g o (r.map byteV)) (Ps.set i (AB (some ⟨g, 0, none⟩) n cap (l.take o ++ r ++ l.drop (o + r.length))))
  | [], o, w, Ps, l, h, hi, hl => by
    have e : l.take o ++ [] ++ l.drop (o + ([] : List UInt8).length) = l := by simp
    rw [e]
    have hs : Ps.set i (AB (some ⟨g, 0, none⟩) n cap l) = Ps := by
      apply List.ext_getElem?
      intro j
      by_cases hj : j = i
      · subst hj
        rw [List.getElem?_set_self (List.getElem?_eq_some_iff.1 hi).1, hi]
      · rw [List.getElem?_set_ne (Ne.symm hj)]
    rw [hs]
    exact h
  | c :: r, o, w, Ps, l, h, hi, hl => by
    have hlen := (ab_len h i hi).1
    have hon : o < n := by simp at hl; omega
    obtain ⟨g', hg', _, _, put⟩ := ab_byte h i hi o hon
    cases hg'
    have hlt : i < Ps.length := (List.getElem?_eq_some_iff.1 hi).1
    have h2 := ab_setCells i r (o + 1) _ _ (l.set o c) (put c) (by rw [List.getElem?_set_self hlt]) (by simp at hl ⊢; omega)
    rw [List.set_set] at h2
    have e : (l.set o c).take (o + 1) ++ r ++ (l.set o c).drop (o + 1 + r.length) = l.take o ++ (c :: r) ++ l.drop (o + (c :: r).length) := by
      have ho : o < l.length := by omega
      have e0 : (l.set o c).take o = l.take o := by
        apply List.ext_getElem?
        intro j
        by_cases hj : j < o
        · rw [List.getElem?_take_of_lt hj, List.getElem?_take_of_lt hj, List.getElem?_set_ne (by omega)]
        · rw [List.getElem?_eq_none (by simp; omega), List.getElem?_eq_none (by simp; omega)]
      have e1 : (l.set o c).drop (o + 1 + r.length) = l.drop (o + (c :: r).length) := by
        apply List.ext_getElem?
        intro j
        rw [List.getElem?_drop, List.getElem?_drop, List.getElem?_set_ne (by omega)]
        congr 1
        simp
        omega
      rw [List.take_succ_eq_append_getElem (by simpa using ho), e0, e1]
      simp
    rw [e] at h2
    exact h2
theorem info8 : (Try.prog.info? 5).map (·.size) = some 1 := by kernel_rfl
/-- copy(x, b): b is not longer than x -/
theorem wpList_ab_copy {ops : Array Oper} {rest : List Oper} {o : Oper} {a : Act} {w : World} {Q : Exit → Act → World → Prop} {Ps : List Asn} (hgd : o.guard = none) (d s : Operand)
    (ho : o.op = .call { callee := .builtin .copy, args := #[d, s], argTypes := #[28, 28] }) (H : Own.St B w0 w Ps) (i : Nat) {g n cap : Nat} {l : List UInt8} (hi : Ps[i]? = some (AB (some ⟨g, 0, none⟩) n cap l)) (hd : a.eval d = .slice (some ⟨g, 0, none⟩) n cap)
    (bo : Option Addr) (m c : Nat) (news : List UInt8) (hx : a.eval s = .slice bo m c) (hl : news.length = m) (hmn : m ≤ n) (hno : bo = none → m = 0)
    (hc : ∀ a, bo = some a → ∀ j u, (news.map byteV)[j]? = some u → w.cell? (a.add j) = some u)
    (h : ∀ w', Own.St B w0 w' (Ps.set i (AB (some ⟨g, 0, none⟩) n cap (news ++ l.drop m))) → wpList Try.prog ops Q rest (a.put o.dst (goInt m)) w') : wpList Try.prog ops Q (o :: rest) a w := by
  refine wpList_plain hgd fun K hK => ?_
  have hset := ab_setCells i news 0 w Ps l H hi (by omega)
  rw [List.take_zero, List.nil_append, Nat.zero_add, hl] at hset
  have hlen := (ab_len H i hi).1
  have hcells : ∀ j, j < (news.map byteV).length → (w.cell? ⟨g, 0 + j, none⟩).isSome = true ∧ w.frozen? ⟨g, 0 + j, none⟩ = false := by
    intro j hj
    rw [List.length_map] at hj
    obtain ⟨g', hg', h1, h2, _⟩ := ab_byte H i hi j (by omega)
    cases hg'
    rw [Nat.zero_add]
    exact ⟨by rw [h1]; rfl, h2⟩
  have hrun : (Builtin.copy_ #[28, 28] o.type #[.slice (some ⟨g, 0, none⟩) n cap, .slice bo m c]).run Try.prog w = .ok (goInt m) (w.setCells g 0 (news.map byteV)) := by
    cases bo with
    | none =>
      have hm := hno rfl
      subst hm
      obtain rfl : news = [] := List.eq_nil_of_length_eq_zero hl
      exact run_copy_none (P := Try.prog) w 28 28 o.type 5 _ none n cap 0 c Try.underlying28 info8 (Nat.min_eq_left (Nat.zero_le _))
    | some ad =>
      have := run_copy_cells (P := Try.prog) w 28 28 o.type 5 g 0 n cap ad m c (news.map byteV) Try.underlying28 info8 (by rw [List.length_map, hl]; exact (Nat.min_eq_left hmn).symm) (hc ad rfl) (fun j hj => (hcells j hj).1) (fun j hj => (hcells j hj).2) (byteV_one _)
      rw [List.length_map, hl] at this
      exact this
  unfold Oper.wp
  simp [execOp, ho, resolve, invoke, builtin, hd, hx, hrun, Result.andThen]
  exact hK _ _ (h _ hset)
end
/-- a slot that reads as these bytes -/
def tyG (l : List UInt8) : Ty := ⟨fun v w => ∃ ao c, v = .slice ao l.length c ∧ Given w ao l.length c l, fun ⟨ao, c, h1, h2⟩ g => ⟨ao, c, h1, h2.later g⟩⟩
theorem tyG_str {l : List UInt8} {v : Value} {w : World} (h : (tyG l).holds v w) : (convert 28 9 v).run Try.prog w = .ok (.string (strB l)) w := by
  obtain ⟨ao, c, rfl, g⟩ := h
  exact run_str (P := Try.prog) 28 5 9 Try.underlying28 Try.underlying5 Try.underlying9 g.view c
end Byt
end Go.Proofs.Ytefbcoakjdjkgaa
