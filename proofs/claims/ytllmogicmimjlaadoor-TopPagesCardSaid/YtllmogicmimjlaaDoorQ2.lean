/- Merged: Byt Giv Obj Lax Cpy Gri StrS PagR LaxG PagT PagG PagJ PagQ ArrEq Roc -/
import Derived.Test.YtllmogicmimjlaaDoorRows
import Derived.WalkKit
import Derived.OwnWalk
import Derived.Still
import Derived.Laws.IdiomCopy
import Derived.BigRegion
import Derived.BigQuiet
import Derived.Deep.QuietTactic
import Derived.Lib.Hide
import Derived.Laws.Rows
import Derived.Laws.StructEq
import Derived.Laws.Cover2
import Derived.Deep.MidRow
import Derived.Test.YtllmogicmimjlaaDoorQ1
set_option linter.unusedVariables false
section
namespace Go.Proofs.YtllmogicmimjlaaDoor
open Go.RowKit Go.Own
namespace Byt

theorem infoU8 : (Tryd.prog.info? 5).map (fun i => (i.zero, i.size, i.bytes)) = some (some (.int .u8 0), 1, 1) := by kernel_rfl

theorem vat {w : World} {D : Nat → Prop} {ao : Option Addr} {l : List UInt8} (hV : View w D ao l) {k : Nat} (hk : k < l.length) :
    ∃ b o, ao = some ⟨b, o, none⟩ ∧ D b ∧ b < w.heap.size ∧ w.cell? ⟨b, o + k, none⟩ = some (.int .u8 ((l.getD k 0).toNat : Int)) := by
  rcases hV with h | ⟨b, o, e, h1, h2, h3⟩
  · rw [h] at hk; simp at hk
  · exact ⟨b, o, e, h1, h2, h3 k hk⟩
theorem vcells {w : World} {D : Nat → Prop} {ao : Option Addr} {bs : List UInt8} (h : View w D ao bs) : ∀ a, ao = some a → ∀ j u, (bs.map byteV)[j]? = some u → w.cell? (a.add j) = some u := by
  intro a ha j u hu
  have hj := (List.getElem?_eq_some_iff.1 hu).1
  rw [List.length_map] at hj
  rcases h with rfl | ⟨b, o, hab, _, _, hc⟩
  · simp at hj
  · rw [ha] at hab
    cases hab
    have e : (⟨b, o, none⟩ : Addr).add j = ⟨b, o + j, none⟩ := by unfold Addr.add; split <;> simp_all
    rw [e, hc j hj]
    rw [← hu]
    simp [byteV, hj]
/-- new memory does not touch what is read -/
theorem vlater {w w' : World} {D : Nat → Prop} {ao : Option Addr} {l : List UInt8} (h : View w D ao l) (g : Below w.heap.size w w') : View w' D ao l := by
  rcases h with h | ⟨b, o, e, hS, hb, hc⟩
  · exact .inl h
  · exact .inr ⟨b, o, e, hS, Nat.lt_of_lt_of_le hb g.size, fun j hj => (World.cell?_of_block (w := w) (g.block b hb)).trans (hc j hj)⟩

/-- a slice of bytes of one's own -/
def AB (ao : Option Addr) (n cap : Nat) (l : List UInt8) : Asn := ARow 5 1 (.slice ao n cap) n (l.map byteV)
theorem AB.view {w : World} {S : Nat → Prop} {ao : Option Addr} {n cap : Nat} {l : List UInt8} (h : (AB ao n cap l).holds S w) : View w S ao l := Row.view h
theorem AB.len {w : World} {S : Nat → Prop} {ao : Option Addr} {n cap : Nat} {l : List UInt8} (h : (AB ao n cap l).holds S w) : l.length = n ∧ n ≤ cap ∧ cap ≤ maxLen ∧ (ao = none → n = 0 ∧ cap = 0) := by
  obtain ⟨ao', cap', hv, h1, h2, h3, _⟩ := Row.form h
  simp only [Value.slice.injEq, true_and] at hv
  obtain ⟨rfl, rfl⟩ := hv
  exact ⟨by have := h.own.1; simpa using this, h1, h2, fun e => ⟨(h3 e).1, (h3 e).2.1⟩⟩
section
variable {B : Nat} {w0 w : World} {Ps : List Asn} {ao : Option Addr} {n cap : Nat} {l : List UInt8}
theorem ab_len (H : St B w0 w Ps) (i : Nat) (hi : Ps[i]? = some (AB ao n cap l)) : l.length = n ∧ n ≤ cap ∧ cap ≤ maxLen ∧ (ao = none → n = 0 ∧ cap = 0) := by
  obtain ⟨S, hS, _⟩ := H.at i hi
  exact AB.len hS
theorem ab_view (H : St B w0 w Ps) (i : Nat) (hi : Ps[i]? = some (AB ao n cap l)) : View w (fun k => B ≤ k) ao l := by
  obtain ⟨S, hS, hB, _⟩ := H.at i hi
  exact (AB.view hS).mono hB
/-- the nil slice, as one of one's own -/
theorem ab_nil (H : St B w0 w Ps) : St B w0 w (AB none 0 0 [] :: Ps) :=
  H.new (S' := fun _ => False) (AB none 0 0 []) (Row.nil _ _ _) ((Step.refl (fun _ => False) w))
/-- one byte of a slice of one's own -/
theorem ab_byte (H : St B w0 w Ps) (i : Nat) (hi : Ps[i]? = some (AB ao n cap l)) (j : Nat) (hj : j < n) :
    ∃ g, ao = some ⟨g, 0, none⟩ ∧ w.cell? ⟨g, j, none⟩ = some (.int .u8 ((l.getD j 0).toNat : Int)) ∧ w.frozen? ⟨g, j, none⟩ = false ∧
      ∀ c : UInt8, St B w0 (w.setCell ⟨g, j, none⟩ (.int .u8 (c.toNat : Int))) (Ps.set i (AB ao n cap (l.set j c))) := by
  obtain ⟨S, hS, _, put⟩ := H.at i hi
  have hlen := (AB.len hS).1
  obtain ⟨hown, hset⟩ := hS
  rcases hown.2 with ⟨hv, rfl⟩ | ⟨g, cap', cur, hv, h0, hb, hnc, hcm, hcs, htake⟩
  · omega
  · simp only [Value.slice.injEq, true_and] at hv
    obtain ⟨rfl, rfl⟩ := hv
    simp only [Nat.mul_one] at hcs htake
    have hcur : cur[j]? = some (byteV (l.getD j 0)) := by
      have : (cur.toList.take n)[j]? = (l.map byteV)[j]? := by rw [htake]
      rw [List.getElem?_take_of_lt hj] at this
      rw [← Array.getElem?_toList, this]
      simp [hlen, hj]
    refine ⟨g, rfl, cell_of_block hb hcur, frozen_of_block hb, fun c => ?_⟩
    refine put S _ (AB (some ⟨g, 0, none⟩) n cap (l.set j c)) ?_ ((Step.refl S w).setCell (a := ⟨g, j, none⟩) (Or.inl ((hset g).2 rfl)) _)
    have := (hown.stored j (byteV c)).1
    rw [← List.map_set] at this
    exact ⟨this, hset⟩
theorem madeBytes (n : Nat) : (madeCells (Value.int .u8 0).cells (n * 1)).toList = (List.replicate n (0 : UInt8)).map byteV := by
  unfold madeCells
  apply List.ext_getElem?
  intro i
  by_cases hi : i < n
  · simp [hi, Value.cells, byteV, Nat.mod_one]
  · simp [hi]
/-- make([]byte, n) -/
theorem ab_make (H : St B w0 w Ps) (kl kc : IntKind) (n : Nat) (hn : n ≤ 1000000000) :
    ∃ w', (Instr.makeSlice 22 (.int kl (n : Int)) (.int kc (n : Int))).run Tryd.prog w = .ok (.slice (some ⟨w.heap.size, 0, none⟩) n n) w' ∧ St B w0 w' (AB (some ⟨w.heap.size, 0, none⟩) n n (List.replicate n 0) :: Ps) := by
  obtain ⟨i0, hi, hz0, hz1, hz2⟩ := info_parts infoU8
  obtain ⟨w', hr, hown, hg⟩ := run_make_full (P := Tryd.prog) w 0 22 5 i0 (.int .u8 0) 1 Tryd.underlying22 hi hz0 hz1 kl kc n (by rw [hz2]; omega) (by unfold maxLen; omega) (Nat.zero_le _)
  rw [madeBytes] at hown
  refine ⟨w', hr, H.new (S' := fun k => k = w.heap.size) (AB _ n n _) ⟨hown, fun k => by simp [Value.ownBlock, eq_comm]⟩ ?_⟩
  exact ((Step.refl (fun _ => False) w).grown hg (by intro k hk; cases hk)).to (fun k hk => .inr (Nat.le_of_eq hk.symm))
/-- append(x, news...) onto a slice of one's own -/
theorem ab_append (H : St B w0 w Ps) (i : Nat) (hi : Ps[i]? = some (AB ao n cap l)) (ty : TypeId) (bo : Option Addr) (m c : Nat) (news : List UInt8) (hno : bo = none → m = 0 ∧ c = 0) (hl : news.length = m)
    (hc : ∀ a, bo = some a → ∀ j u, (news.map byteV)[j]? = some u → w.cell? (a.add j) = some u) (b1 : n + m ≤ 1000000000) :
    ∃ ao' cap' w', (Builtin.append_ #[22, 22] ty #[.slice ao n cap, .slice bo m c]).run Tryd.prog w = .ok (.slice ao' (n + m) cap') w' ∧ St B w0 w' (Ps.set i (AB ao' (n + m) cap' (l ++ news))) := by
  obtain ⟨i0, hi0, hz0, hz1, hz2⟩ := info_parts infoU8
  obtain ⟨S, hS, _, put⟩ := H.at i hi
  obtain ⟨v', w', T', hr, hrow, hst⟩ := run_append_row (P := Tryd.prog) w 22 ty 5 i0 (.int .u8 0) 1 1 Tryd.underlying22 hi0 hz0 hz1 hz2 rfl (by decide) (.slice ao n cap) n (l.map byteV) hS bo m c (news.map byteV) hno (by rw [List.length_map, hl, Nat.mul_one]) hc (byteV_one _) (by unfold maxLen; omega) (by omega)
  obtain ⟨ao', cap', rfl, _⟩ := hrow.form
  rw [← List.map_append] at hrow
  exact ⟨ao', cap', w', hr, put T' w' (AB ao' (n + m) cap' (l ++ news)) hrow hst⟩
theorem wpList_ab_append {ops : Array Oper} {rest : List Oper} {o : Oper} {a : Act} {Q : Exit → Act → World → Prop} (hgd : o.guard = none) (s x : Operand)
    (ho : o.op = .call { callee := .builtin .append, args := #[s, x], argTypes := #[22, 22] }) (H : St B w0 w Ps) (i : Nat) (hi : Ps[i]? = some (AB ao n cap l)) (hs : a.eval s = .slice ao n cap)
    (bo : Option Addr) (m c : Nat) (news : List UInt8) (hx : a.eval x = .slice bo m c) (hno : bo = none → m = 0 ∧ c = 0) (hl : news.length = m)
    (hc : ∀ a, bo = some a → ∀ j u, (news.map byteV)[j]? = some u → w.cell? (a.add j) = some u) (b1 : n + m ≤ 1000000000)
    (h : ∀ ao' cap' w', St B w0 w' (Ps.set i (AB ao' (n + m) cap' (l ++ news))) → wpList Tryd.prog ops Q rest (a.put o.dst (.slice ao' (n + m) cap')) w') : wpList Tryd.prog ops Q (o :: rest) a w := by
  refine wpList_plain hgd fun K hK => ?_
  obtain ⟨ao', cap', w', hrun, h1⟩ := ab_append H i hi o.type bo m c news hno hl hc b1
  unfold Oper.wp
  simp [execOp, ho, resolve, invoke, builtin, hs, hx, hrun, Result.andThen]
  exact hK _ _ (h ao' cap' w' h1)
/-- a new byte, as append takes it -/
theorem one_cells8 (w : World) (c : UInt8) (t : TypeId) : ∀ a, some (⟨w.heap.size, 0, none⟩ : Addr) = some a → ∀ j u, ([c].map byteV)[j]? = some u → (w.alloc (.cells #[.int .u8 (c.toNat : Int)] t)).cell? (a.add j) = some u := cell_new_byte w c t
end

/-- an array of bytes in a block of one's own -/
def A8 (b : Nat) (t : TypeId) (l : List UInt8) : Asn := AVals b t (l.map byteV)
section
variable {B : Nat} {w0 w : World} {Ps : List Asn} {b : Nat} {t : TypeId} {l : List UInt8}
theorem A8.cell (h : St B w0 w Ps) (i : Nat) (hi : Ps[i]? = some (A8 b t l)) (j : Nat) (hj : j < l.length) : w.cell? ⟨b, j, none⟩ = some (.int .u8 ((l.getD j 0).toNat : Int)) ∧ w.frozen? ⟨b, j, none⟩ = false :=
  h.cellV i hi j (by simp [byteV, hj])
theorem A8.store (h : St B w0 w Ps) (i : Nat) (hi : Ps[i]? = some (A8 b t l)) (j : Nat) (c : UInt8) : St B w0 (w.setCell ⟨b, j, none⟩ (.int .u8 (c.toNat : Int))) (Ps.set i (A8 b t (l.set j c))) := by
  have := h.storeV i hi j (byteV c)
  unfold A8
  rw [List.map_set]
  exact this
theorem A8.box (h : St B w0 w Ps) (t : TypeId) (l : List UInt8) : St B w0 (w.alloc (.cells (l.map byteV).toArray t)) (A8 w.heap.size t l :: Ps) := h.boxV t _
theorem A8.row (h : St B w0 w Ps) (i : Nat) (hi : Ps[i]? = some (A8 b t l)) : w.heap[b]? = some (.cells (l.map byteV).toArray t (0, 0)) := h.rowV i hi
theorem A8.there (h : St B w0 w Ps) (i : Nat) (hi : Ps[i]? = some (A8 b t l)) (r : List UInt8) (hl : r.length = l.length) : w.there b 0 (r.map byteV).toArray.size := h.thereV i hi (by simp [hl])
theorem A8.setAll (h : St B w0 w Ps) (i : Nat) (hi : Ps[i]? = some (A8 b t l)) (r : List UInt8) (hl : r.length = l.length) : St B w0 (w.setCells b 0 (r.map byteV).toArray.toList) (Ps.set i (A8 b t r)) := by
  have := Own.St.setAll i (r.map byteV) 0 w Ps (l.map byteV) h hi (by simp [hl])
  simpa [A8] using this
theorem A8.view (h : St B w0 w Ps) (i : Nat) (hi : Ps[i]? = some (A8 b t l)) : View w (fun k => B ≤ k) (some ⟨b, 0, none⟩) l := by
  obtain ⟨h1, h2⟩ := h.ltV i hi
  exact .inr ⟨b, 0, rfl, h1, h2, fun j hj => by rw [Nat.zero_add]; exact (A8.cell h i hi j hj).1⟩
end
theorem one8 (l : List UInt8) : (l.map byteV).toArray.all (·.oneCell') = true := all_oneCell_toArray (fun v hv => byteV_one l v hv)
/-- how many cells a fingerprint has -/
theorem info_sum (l : List UInt8) (h : l.length = 32) : (Tryd.prog.info? 29).map (·.size) = some (l.map byteV).toArray.size := by
  have e : (l.map byteV).toArray.size = 32 := by simp [h]
  have h0 : (Tryd.prog.info? 29).map (fun i => i.size) = some 32 := by kernel_rfl
  rw [e]
  exact h0

/-- an operation that is carried out, also behind a guard -/
theorem wpList_want {P : Program} {ops : Array Oper} {rest : List Oper} {o : Oper} {a : Act} {w : World} {Q : Exit → Act → World → Prop} (hw : Region.wanted o (yielded ops a.tmps) = true) (h : o.wp P a w (fun a' w' => wpList P ops Q rest a' w') Q) : wpList P ops Q (o :: rest) a w := by
  unfold wpList
  rw [if_pos hw]
  exact .inl h
theorem vtake {w : World} {D : Nat → Prop} {ao : Option Addr} {l : List UInt8} (h : View w D ao l) (k : Nat) : View w D ao (l.take k) := by
  rcases h with rfl | ⟨b, o, e, hS, hb, hc⟩
  · exact .inl (by simp)
  · refine .inr ⟨b, o, e, hS, hb, fun j hj => ?_⟩
    have hj2 : j < l.length ∧ j < k := by rw [List.length_take] at hj; omega
    rw [hc j hj2.1]
    simp [List.getD, hj2.2]
/-- b[k:] begins k cells on -/
theorem vdrop {w : World} {D : Nat → Prop} {b o : Nat} {l : List UInt8} (h : View w D (some ⟨b, o, none⟩) l) (k : Nat) : View w D (some ⟨b, o + k, none⟩) (l.drop k) := by
  rcases h with rfl | ⟨b', o', e, hS, hb, hc⟩
  · exact .inl (by simp)
  · cases e
    refine .inr ⟨b, o + k, rfl, hS, hb, fun j hj => ?_⟩
    rw [List.length_drop] at hj
    rw [Nat.add_assoc, hc (k + j) (by omega)]
    simp [List.getD, List.getElem?_drop]

/-- an operation whose value is known -/
theorem wpList_val {P : Program} {ops : Array Oper} {rest : List Oper} {o : Oper} {a : Act} {w : World} {Q : Exit → Act → World → Prop} (hw : Region.wanted o (yielded ops a.tmps) = true) {v : Value} (hrun : (execOp a.eval o).run P w = .ok (.value v) w) (h : wpList P ops Q rest (a.put o.dst v) w) : wpList P ops Q (o :: rest) a w := by
  refine wpList_want hw ?_
  unfold Oper.wp
  rw [hrun]
  exact h
/-- what a part of bytes is, whatever memory they lie in -/
structure Cut (ao : Option Addr) (l : List UInt8) (a' : Option Addr) (l' : List UInt8) (m' c' : Nat) : Prop where
  view : ∀ w D, View w D ao l → View w D a' l'
  len : l'.length = m'
  cap : m' ≤ c' ∧ c' ≤ maxLen
  none : a' = none → c' = 0
section
variable {ao : Option Addr} {l : List UInt8} {m cap : Nat}
theorem cutTo (k : Nat) (hl : l.length = m) (hk : k ≤ m) (hm : m ≤ cap) (hc : cap ≤ maxLen) (hno : ao = none → cap = 0) :
    (∀ (o : Oper) (x y : Operand), o.op = .slice 22 x none (some y) none → ∀ (ρ : Operand → Value) w, ρ x = .slice ao m cap → ρ y = .int .i64 (k : Int) → (execOp ρ o).run Tryd.prog w = .ok (.value (.slice ao k cap)) w) ∧ Cut ao l ao (l.take k) k cap := by
  refine ⟨fun o x y ho ρ w h0 h1 => ?_, fun w D h => vtake h k, by rw [List.length_take]; omega, ⟨by omega, hc⟩, hno⟩
  unfold maxLen at hc
  cases ao with
  | none =>
    obtain rfl := hno rfl
    obtain rfl : m = 0 := by omega
    obtain rfl : k = 0 := by omega
    simp [execOp, ho, h0, h1, go_sem]
  | some a =>
    simp [execOp, ho, h0, h1, go_sem]
    omega
theorem cutFrom (k : Nat) (hl : l.length = m) (hk : k ≤ m) (hm : m ≤ cap) (hc : cap ≤ maxLen) (hno : ao = none → cap = 0) :
    ∃ a' c', (∀ (o : Oper) (x y : Operand), o.op = .slice 22 x (some y) none none → ∀ (ρ : Operand → Value) w, ρ x = .slice ao m cap → ρ y = .int .i64 (k : Int) → (execOp ρ o).run Tryd.prog w = .ok (.value (.slice a' (m - k) c')) w) ∧ Cut ao l a' (l.drop k) (m - k) c' := by
  have hc0 := hc
  unfold maxLen at hc
  cases ao with
  | none =>
    obtain rfl := hno rfl
    obtain rfl : m = 0 := by omega
    obtain rfl : k = 0 := by omega
    exact ⟨none, 0, fun o x y ho ρ w h0 h1 => by simp [execOp, ho, h0, h1, go_sem], fun w D h => by simpa using h, by simp [hl], ⟨Nat.le_refl _, Nat.zero_le _⟩, fun _ => rfl⟩
  | some a =>
    by_cases hck : cap = k
    · refine ⟨some a, 0, fun o x y ho ρ w h0 h1 => ?_, fun w D h => .inl (List.drop_eq_nil_of_le (by omega)), by rw [List.length_drop, hl], ⟨by omega, Nat.zero_le _⟩, fun h => by cases h⟩
      simp [execOp, ho, h0, h1, go_sem]
      rw [if_pos hk, if_pos hck, hck]; simp
    · refine ⟨some (a.add k), cap - k, fun o x y ho ρ w h0 h1 => ?_, fun w D h => ?_, by rw [List.length_drop, hl], ⟨by omega, by omega⟩, fun h => by cases h⟩
      · simp [execOp, ho, h0, h1, go_sem]
        rw [if_pos hk, if_neg hck]
      · rcases h with h | ⟨b, o, e, h1, h2, h3⟩
        · exact .inl (by rw [h, List.drop_nil])
        · obtain rfl : a = ⟨b, o, none⟩ := by simpa using e
          rw [add_of]
          exact vdrop (.inr ⟨b, o, rfl, h1, h2, h3⟩) k
theorem cutMid (j k : Nat) (hl : l.length = m) (hjk : j ≤ k) (hk : k ≤ m) (hm : m ≤ cap) (hc : cap ≤ maxLen) (hno : ao = none → cap = 0) :
    ∃ a' c', (∀ (o : Oper) (x y z : Operand), o.op = .slice 22 x (some y) (some z) none → ∀ (ρ : Operand → Value) w, ρ x = .slice ao m cap → ρ y = .int .i64 (j : Int) → ρ z = .int .i64 (k : Int) → (execOp ρ o).run Tryd.prog w = .ok (.value (.slice a' (k - j) c')) w) ∧ Cut ao l a' ((l.take k).drop j) (k - j) c' := by
  have hc0 := hc
  unfold maxLen at hc
  have hlk : ((l.take k).drop j).length = k - j := by rw [List.length_drop, List.length_take]; omega
  cases ao with
  | none =>
    obtain rfl := hno rfl
    obtain rfl : m = 0 := by omega
    obtain rfl : k = 0 := by omega
    obtain rfl : j = 0 := by omega
    exact ⟨none, 0, fun o x y z ho ρ w h0 h1 h2 => by simp [execOp, ho, h0, h1, h2, go_sem], fun w D h => .inl (by simp), hlk, ⟨Nat.le_refl _, Nat.zero_le _⟩, fun _ => rfl⟩
  | some a =>
    by_cases hck : cap = j
    · refine ⟨some a, 0, fun o x y z ho ρ w h0 h1 h2 => ?_, fun w D h => .inl (List.eq_nil_of_length_eq_zero (by omega)), hlk, ⟨by omega, Nat.zero_le _⟩, fun h => by cases h⟩
      simp [execOp, ho, h0, h1, h2, go_sem]
      rw [if_pos (by omega)]
      subst hck
      simp
      omega
    · refine ⟨some (a.add j), cap - j, fun o x y z ho ρ w h0 h1 h2 => ?_, fun w D h => ?_, hlk, ⟨by omega, by omega⟩, fun h => by cases h⟩
      · simp [execOp, ho, h0, h1, h2, go_sem]
        rw [if_pos (by omega)]
        simp [hck]
        omega
      · rcases vtake h k with h | ⟨b, o, e, h1, h2, h3⟩
        · exact .inl (by rw [h, List.drop_nil])
        · obtain rfl : a = ⟨b, o, none⟩ := by simpa using e
          rw [add_of]
          exact vdrop (.inr ⟨b, o, rfl, h1, h2, h3⟩) j
end

/-- the length of a slice -/
def lenV : Value → Nat
  | .slice _ n _ => n
  | _ => 0

end Byt
end Go.Proofs.YtllmogicmimjlaaDoor

end
section
namespace Go.Proofs.YtllmogicmimjlaaDoor
open Go.RowKit Go.Own
namespace Byt

/-- bytes that a call may be given -/
structure Given (w : World) (ao : Option Addr) (len cap : Nat) (l : List UInt8) : Prop where
  view : View w (fun k => k < w.heap.size) ao l
  size : l.length = len
  room : len ≤ cap ∧ cap ≤ maxLen
  nil : ao = none → cap = 0
theorem Given.later {w w' : World} {ao : Option Addr} {len cap : Nat} {l : List UInt8} (h : Given w ao len cap l) (g : Below w.heap.size w w') : Given w' ao len cap l :=
  ⟨(View.below h.view g).mono (fun k hk => by have := g.size; omega), h.size, h.room, h.nil⟩

theorem i64_in {a : Int} (h : (Lit.int .i64 a).wf = true) : -9223372036854775808 ≤ a ∧ a ≤ 9223372036854775807 := by
  simp [Lit.wf, IntKind.min, IntKind.max, IntKind.signed, IntKind.bits] at h
  omega

/-- the first k bytes are laid -/
def ones (c : UInt8) (N k : Nat) : List UInt8 := List.replicate k c ++ List.replicate (N - k) 0
theorem ones_zero (c : UInt8) (N : Nat) : ones c N 0 = List.replicate N 0 := by simp [ones]
theorem ones_all (c : UInt8) (N : Nat) : ones c N N = List.replicate N c := by simp [ones]
theorem ones_set (c : UInt8) (N k : Nat) (h : k < N) : (ones c N k).set k c = ones c N (k + 1) := by
  unfold ones
  obtain ⟨r, hr⟩ : ∃ r, N - k = r + 1 := ⟨N - k - 1, by omega⟩
  rw [hr, show N - (k + 1) = r by omega, List.replicate_succ, List.replicate_succ']
  simp
theorem u8_byte {a : Int} (h : (Lit.int .u8 a).wf = true) : ∃ c : UInt8, a = (c.toNat : Int) := by
  have h' : 0 ≤ a ∧ a ≤ 255 := by simpa [Lit.wf, IntKind.min, IntKind.max, IntKind.signed, IntKind.bits] using h
  exact ⟨UInt8.ofNat a.toNat, by simp; omega⟩
/-- bytes of one's own may be given -/
theorem given_own {B : Nat} {w0 w : World} {Ps : List Asn} {ao : Option Addr} {n cap : Nat} {l : List UInt8} (H : St B w0 w Ps) (i : Nat) (hi : Ps[i]? = some (AB ao n cap l)) : Given w ao n cap l := by
  obtain ⟨h1, h2, h3, h4⟩ := ab_len H i hi
  exact ⟨(ab_view H i hi).live.mono (fun k hk => hk.2), h1, ⟨h2, h3⟩, fun h => (h4 h).2⟩

theorem given_nil {w : World} {ao : Option Addr} {n cap : Nat} {l : List UInt8} (h : Given w ao n cap l) : ao = none → n = 0 ∧ cap = 0 := fun e => ⟨by have := h.room.1; rw [h.nil e] at this; omega, h.nil e⟩
theorem two_cells (w : World) (c d : UInt8) (t : TypeId) : ∀ a, some (⟨w.heap.size, 0, none⟩ : Addr) = some a → ∀ j u, ([c, d].map byteV)[j]? = some u → (w.alloc (.cells #[.int .u8 (c.toNat : Int), .int .u8 (d.toNat : Int)] t)).cell? (a.add j) = some u := by
  intro a ha j u hj
  cases ha
  match j, hj with
  | 0, hj => simp at hj; subst hj; simp [Addr.add, byteV]
  | 1, hj => simp at hj; subst hj; simp [Addr.add, byteV]

/-- a slice of one byte, as it is built -/
theorem ab_one {B : Nat} {w0 w : World} {Ps : List Asn} (H : St B w0 w Ps) (c : UInt8) : St B w0 (w.alloc (.cells #[.int .u8 (c.toNat : Int)] 5)) (AB (some ⟨w.heap.size, 0, none⟩) 1 1 [c] :: Ps) :=
  H.new (S' := fun k => k = w.heap.size) (AB _ 1 1 [c]) (Row.made w #[.int .u8 (c.toNat : Int)] 5 1 1 (by unfold maxLen; omega) rfl) (((Step.refl (fun _ => False) w).alloc _).to (fun k hk => Or.inr (Nat.le_of_eq hk.symm)))

theorem vcell {w : World} {D : Nat → Prop} {b o : Nat} {l : List UInt8} (h : View w D (some ⟨b, o, none⟩) l) {k : Nat} (hk : k < l.length) : w.cell? ⟨b, o + k, none⟩ = some (.int .u8 ((l.getD k 0).toNat : Int)) := by
  obtain ⟨b', o', e, _, _, hc⟩ := vat h hk
  cases e
  exact hc

theorem in_given {l : List UInt8} {w : World} {ao : Option Addr} {n cap : Nat} (h : inBytes l w.heap.size w [.slice ao n cap]) : Given w ao n cap l := by
  obtain ⟨ao', cap', h1, h2, h3, h4, h5⟩ := h
  simp only [List.cons.injEq, Value.slice.injEq, and_true] at h1
  obtain ⟨rfl, rfl, rfl⟩ := h1
  exact ⟨h5, rfl, ⟨h2, h3⟩, h4⟩
theorem given_take {w : World} {ao : Option Addr} {n cap : Nat} {l : List UInt8} (h : Given w ao n cap l) (m : Nat) (hm : m ≤ n) : Given w ao m cap (l.take m) :=
  ⟨vtake h.view m, by rw [List.length_take, h.size]; omega, ⟨Nat.le_trans hm h.room.1, h.room.2⟩, h.nil⟩
theorem cellLater {W w : World} {a : Addr} {v : Value} (h : W.cell? a = some v) (hb : Below W.heap.size W w) : w.cell? a = some v := by
  rw [hb.cell (World.block_lt_of_cell? W a h)]; exact h

end Byt
end Go.Proofs.YtllmogicmimjlaaDoor

end
section
namespace Go.Own
open Go.RowKit

theorem Apart.iff {w : World} : ∀ {Ps : List Asn} {S T : Nat → Prop}, Apart w Ps S → (∀ k, S k ↔ T k) → Apart w Ps T
  | [], _, _, h, e => fun k hk => h k ((e k).2 hk)
  | _ :: _, _, _, ⟨S1, S2, h1, h2, h3, h4⟩, e => ⟨S1, S2, h1, h2, h3, fun k => (e k).symm.trans (h4 k)⟩
theorem Apart.append {w : World} : ∀ {Ps Qs : List Asn} {S T : Nat → Prop}, Apart w Ps S → Apart w Qs T → Dis S T → Apart w (Ps ++ Qs) (fun k => S k ∨ T k)
  | [], Qs, S, T, h, g, _ => g.iff fun k => ⟨.inr, fun x => x.elim (fun y => (h k y).elim) id⟩
  | P :: Ps, Qs, S, T, ⟨S1, S2, h1, h2, h3, h4⟩, g, hd => ⟨S1, fun k => S2 k ∨ T k, h1, Apart.append h2 g (fun k hk => hd k ((h4 k).2 (.inr hk))), fun k hk hk' => hk'.elim (h3 k hk) (hd k ((h4 k).2 (.inl hk))), fun k => by show (S k ∨ T k) ↔ (S1 k ∨ S2 k ∨ T k); rw [h4 k, or_assoc]⟩
theorem Apart.split {w : World} : ∀ {Ps Qs : List Asn} {S : Nat → Prop}, Apart w (Ps ++ Qs) S → ∃ S1 S2, Apart w Ps S1 ∧ Apart w Qs S2 ∧ Dis S1 S2 ∧ ∀ k, S k ↔ (S1 k ∨ S2 k)
  | [], Qs, S, h => ⟨fun _ => False, S, fun _ h => h, h, fun _ h => h.elim, fun k => ⟨.inr, fun x => x.elim (fun y => y.elim) id⟩⟩
  | P :: Ps, Qs, S, ⟨S1, S2, h1, h2, h3, h4⟩ => by
    obtain ⟨T1, T2, g1, g2, g3, g4⟩ := Apart.split h2
    exact ⟨fun k => S1 k ∨ T1 k, T2, ⟨S1, T1, h1, g1, fun k hk hk' => h3 k hk ((g4 k).2 (.inl hk')), fun k => Iff.rfl⟩, g2, fun k hk hk' => hk.elim (fun x => h3 k x ((g4 k).2 (.inr hk'))) (fun x => g3 k x hk'), fun k => by rw [h4 k, g4 k, or_assoc]⟩

theorem Apart.perm {w : World} {Ps Qs : List Asn} (h : Ps.Perm Qs) : ∀ {S : Nat → Prop}, Apart w Ps S → Apart w Qs S := by
  induction h with
  | nil => exact fun h => h
  | cons x _ ih => rintro S ⟨S1, S2, h1, h2, h3, h4⟩; exact ⟨S1, S2, h1, ih h2, h3, h4⟩
  | swap x y l =>
    rintro S ⟨S1, S2, h1, ⟨T1, T2, g1, g2, g3, g4⟩, h3, h4⟩
    refine ⟨T1, fun k => S1 k ∨ T2 k, g1, ⟨S1, T2, h1, g2, fun k a b => h3 k a ((g4 k).2 (.inr b)), fun k => Iff.rfl⟩, fun k a b => b.elim (fun c => h3 k c ((g4 k).2 (.inl a))) (g3 k a), fun k => ?_⟩
    rw [h4 k, g4 k]
    constructor
    · rintro (a | a | a)
      · exact .inr (.inl a)
      · exact .inl a
      · exact .inr (.inr a)
    · rintro (a | a | a)
      · exact .inr (.inl a)
      · exact .inl a
      · exact .inr (.inr a)
  | trans _ _ ih1 ih2 => exact fun h => ih2 (ih1 h)

/-- an object made of objects -/
def AJoin (Qs : List Asn) : Asn := ⟨fun S w => Apart w Qs S, fun h g hd => h.keep g hd, fun h => h.lt⟩

section
variable {B : Nat} {w0 w w' : World} {Ps Qs : List Asn}
theorem St.perm (h : St B w0 w Ps) (e : Ps.Perm Qs) : St B w0 w Qs := by
  obtain ⟨hb, hs, S, ha, hB⟩ := h
  exact ⟨hb, hs, S, ha.perm e, hB⟩
theorem St.openJ (h : St B w0 w (AJoin Qs :: Ps)) : St B w0 w (Qs ++ Ps) := by
  obtain ⟨hb, hs, S, ⟨S1, S2, h1, h2, h3, h4⟩, hB⟩ := h
  exact ⟨hb, hs, _, Apart.append h1 h2 h3, fun k hk => hB k ((h4 k).2 hk)⟩
theorem St.closeJ (h : St B w0 w (Qs ++ Ps)) : St B w0 w (AJoin Qs :: Ps) := by
  obtain ⟨hb, hs, S, ha, hB⟩ := h
  obtain ⟨S1, S2, h1, h2, h3, h4⟩ := ha.split
  exact ⟨hb, hs, S, ⟨S1, S2, h1, h2, h3, h4⟩, hB⟩
end
end Go.Own

end
section
namespace Go.Own
open Go.RowKit

/-- what is so of a slot's value; new memory does not touch it -/
structure Ty where
  holds : Value → World → Prop
  keep : ∀ {v : Value} {w w' : World}, holds v w → Below w.heap.size w w' → holds v w'

def Ty.is (c : Value) : Ty := ⟨fun v _ => v = c, fun h _ => h⟩

abbrev Lx := List (Tmp × Ty)

/-- what is so of slot t -/
def slotIs (I : Lx) (a : Act) (t : Tmp) (v : Value) (w : World) : Prop :=
  match I.lookup t with
  | some R => R.holds v w
  | none => v = a.tmps.getD t undef

section
variable {P : Program} {ops : Array Oper} {C : World → Prop}

theorem slotIs.keep {I : Lx} {a : Act} {t : Tmp} {v : Value} {w w' : World} (h : slotIs I a t v w) (g : Below w.heap.size w w') : slotIs I a t v w' := by
  unfold slotIs at *
  split at h
  · rename_i R e; exact R.keep h g
  · exact h

/-- an operation gives what R says, wherever it is carried out -/
def Gives (P : Program) (ops : Array Oper) (C : World → Prop) (o : Oper) (I : Lx) (a : Act) (R : Ty) : Prop :=
  ∀ a1 w, C w → (∀ t ∈ o.looksAt ops, slotIs I a t (a1.tmps.getD t undef) w) → ∀ (K : Act → World → Prop) (Q : Exit → Act → World → Prop),
    (∀ v w', R.holds v w' → Below w.heap.size w w' → K (a1.put o.dst v) w') → o.wp P a1 w K Q

/-- the guard is not one of the slots that are not known -/
def guardKnown (ops : Array Oper) (o : Oper) (I : Lx) : Bool :=
  match o.guard with
  | none => true
  | some (g, _) => match (ops[g]?).bind (·.dst) with
    | some d => (I.lookup d).isNone
    | none => true

inductive StepT (P : Program) (ops : Array Oper) (C : World → Prop) (o : Oper) : Lx → Act → Lx → Act → Prop
  | skip {I a} (hg : guardKnown ops o I = true) (hw : Region.wanted o (yielded ops a.tmps) = false) : StepT P ops C o I a I (a.put o.dst undef)
  | val {I a} (v : Value) (hg : guardKnown ops o I = true) (hw : Region.wanted o (yielded ops a.tmps) = true) (h : Gives P ops C o I a (Ty.is v)) : StepT P ops C o I a I (a.put o.dst v)
  | ty {I a} (d : Tmp) (R : Ty) (hd : o.dst = some d) (hg : guardKnown ops o I = true) (hw : Region.wanted o (yielded ops a.tmps) = true) (h : Gives P ops C o I a R) : StepT P ops C o I a ((d, R) :: I) a

/-- what the frame may be -/
structure Rep (C : World → Prop) (I : Lx) (a a1 : Act) (w1 : World) : Prop where
  world : C w1
  defers : a1.defers = a.defers
  size : a1.tmps.size = a.tmps.size
  slot : ∀ t, slotIs I a t (a1.tmps.getD t undef) w1

/-- THE WALK, in the order of the text -/
def wpT (P : Program) (ops : Array Oper) (C : World → Prop) (Q : Act → World → Prop) : List Oper → Lx → Act → Prop
  | [], I, a => ∀ a1 w1, Rep C I a a1 w1 → Q a1 w1
  | o :: rest, I, a => ∃ I' a', StepT P ops C o I a I' a' ∧ wpT P ops C Q rest I' a'

theorem wpT_path {Q : Act → World → Prop} : ∀ (l : List Oper) (I : Lx) (a : Act), wpT P ops C Q l I a →
    ∃ S : Nat → Lx × Act, S 0 = (I, a) ∧ (∀ k o, l[k]? = some o → StepT P ops C o (S k).1 (S k).2 (S (k + 1)).1 (S (k + 1)).2) ∧ ∀ a1 w1, Rep C (S l.length).1 (S l.length).2 a1 w1 → Q a1 w1
  | [], I, a, h => ⟨fun _ => (I, a), rfl, fun k o hk => by simp at hk, h⟩
  | o :: rest, I, a, ⟨I', a', h1, h2⟩ => by
    obtain ⟨S, g0, g1, g2⟩ := wpT_path rest I' a' h2
    refine ⟨fun k => match k with | 0 => (I, a) | k + 1 => S k, rfl, fun k o' hk => ?_, fun a1 w1 hr => g2 a1 w1 (by simpa using hr)⟩
    cases k with
    | zero =>
      obtain rfl : o = o' := by simpa using hk
      show StepT P ops C o I a (S 0).1 (S 0).2
      rw [g0]; exact h1
    | succ k => exact g1 k o' (by simpa using hk)

theorem put_getD (a : Act) (d t : Tmp) (v : Value) (hd : d < a.tmps.size) : (a.put (some d) v).tmps.getD t undef = if t = d then v else a.tmps.getD t undef := by
  show (a.tmps.setIfInBounds d v).getD t undef = _
  by_cases h : t = d
  · subst h; simp [hd]
  · simp [h, Array.getElem?_setIfInBounds_ne (Ne.symm h)]
theorem put_size (a : Act) (d : Option Tmp) (v : Value) : (a.put d v).tmps.size = a.tmps.size := by cases d <;> simp [Act.put]
theorem put_defers (a : Act) (d : Option Tmp) (v : Value) : (a.put d v).defers = a.defers := by cases d <;> rfl

theorem StepT.size {o : Oper} {I I' : Lx} {a a' : Act} (h : StepT P ops C o I a I' a') : a'.tmps.size = a.tmps.size ∧ a'.defers = a.defers := by
  cases h
  · exact ⟨put_size _ _ _, put_defers _ _ _⟩
  · exact ⟨put_size _ _ _, put_defers _ _ _⟩
  · exact ⟨rfl, rfl⟩

/-- a slot that the operation does not write stays -/
theorem StepT.other {o : Oper} {I I' : Lx} {a a' : Act} (h : StepT P ops C o I a I' a') {t : Tmp} (hin : ∀ d, o.dst = some d → d < a.tmps.size) (ht : o.dst ≠ some t) (v : Value) (w : World) : slotIs I' a' t v w ↔ slotIs I a t v w := by
  have hput : ∀ u, (a.put o.dst u).tmps.getD t undef = a.tmps.getD t undef := by
    intro u
    cases hd : o.dst with
    | none => rfl
    | some d => rw [put_getD a d t u (hin d hd), if_neg (fun e => ht (by rw [hd, e]))]
  cases h
  · unfold slotIs; rw [hput]
  · unfold slotIs; rw [hput]
  · rename_i d R hd hg hw h
    unfold slotIs
    rw [List.lookup_cons]
    have : (t == d) = false := by simp; intro e; exact ht (by rw [hd, e])
    simp only [this]

/-- slots of the region: each is written once, and is there -/
def dstsB (l : List Oper) (n : Nat) : Bool := (l.filterMap (·.dst)).Nodup && (l.filterMap (·.dst)).all (· < n)

theorem dsts_lt {l : List Oper} {n : Nat} (h : dstsB l n = true) {k : Nat} {o : Oper} {d : Tmp} (hk : l[k]? = some o) (hd : o.dst = some d) : d < n := by
  simp only [dstsB, Bool.and_eq_true, List.all_eq_true, decide_eq_true_eq] at h
  exact h.2 d (List.mem_filterMap.2 ⟨o, List.mem_of_getElem? hk, hd⟩)

theorem dsts_one {n : Nat} : ∀ {l : List Oper}, dstsB l n = true → ∀ {j k : Nat} {x y : Oper} {d : Tmp}, l[j]? = some x → l[k]? = some y → x.dst = some d → y.dst = some d → j = k
  | [], _, j, _, _, _, _, hj, _, _, _ => by simp at hj
  | o :: l, h, j, k, x, y, d, hj, hk, hx, hy => by
    have hrest : dstsB l n = true := by
      simp only [dstsB, Bool.and_eq_true, decide_eq_true_eq] at h ⊢
      cases ho : o.dst <;> simp_all
    have hnot : ∀ (i : Nat) (z : Oper), l[i]? = some z → o.dst = some d → z.dst ≠ some d := by
      intro i z hi hod hz
      simp only [dstsB, Bool.and_eq_true, decide_eq_true_eq, List.filterMap_cons, hod, List.nodup_cons] at h
      exact h.1.1 (List.mem_filterMap.2 ⟨z, List.mem_of_getElem? hi, hz⟩)
    cases j with
    | zero =>
      cases k with
      | zero => rfl
      | succ k =>
        obtain rfl : o = x := by simpa using hj
        exact absurd hy (hnot k y (by simpa using hk) hx)
    | succ j =>
      cases k with
      | zero =>
        obtain rfl : o = y := by simpa using hk
        exact absurd hx (hnot j x (by simpa using hj) hy)
      | succ k => rw [dsts_one hrest (j := j) (k := k) (by simpa using hj) (by simpa using hk) hx hy]

theorem wanted_looks {o : Oper} {I : Lx} {a a1 : Act} {w : World} (hg : guardKnown ops o I = true) (hs : a1.tmps.size = a.tmps.size) (h : ∀ t ∈ o.looksAt ops, slotIs I a t (a1.tmps.getD t undef) w) :
    Region.wanted o (yielded ops a1.tmps) = Region.wanted o (yielded ops a.tmps) := by
  unfold Region.wanted
  cases hgd : o.guard with
  | none => rfl
  | some gw =>
    obtain ⟨g, want⟩ := gw
    have : yielded ops a1.tmps g = yielded ops a.tmps g := by
      unfold yielded
      cases hd : (ops[g]?).bind (·.dst) with
      | none => rfl
      | some d =>
        have hm : d ∈ o.looksAt ops := by
          unfold Oper.looksAt
          refine List.mem_append_right _ ?_
          rw [hgd]
          simp [hd]
        have h1 := h d hm
        unfold slotIs at h1
        have hn : I.lookup d = none := by simpa [guardKnown, hgd, hd] using hg
        rw [hn] at h1
        simp only at h1
        simp only [Option.bind_some]
        have : a1.tmps[d]? = a.tmps[d]? := by
          by_cases hlt : d < a.tmps.size
          · have hlt1 : d < a1.tmps.size := hs ▸ hlt
            simp only [Array.getD, hlt, hlt1, dif_pos] at h1
            rw [Array.getElem?_eq_getElem hlt, Array.getElem?_eq_getElem hlt1]
            exact congrArg some h1
          · rw [Array.getElem?_eq_none (Nat.le_of_not_lt hlt), Array.getElem?_eq_none (Nat.le_of_not_lt (hs ▸ hlt))]
        rw [this]
    simp only [this]

/-- which operations a slot waits for: read off the Bool over the region -/
theorem lexFrom_free {md : Region.Mode} : ∀ (fuel k : Nat) (listed : Array Bool), Region.lexFrom md ops fuel k listed = true → k + fuel = ops.size → (∀ i, listed.getD i true = decide (i < k ∨ ops.size ≤ i)) → listed.size = ops.size →
    ∀ i oi, k ≤ i → ops[i]? = some oi → (∀ e ∈ oi.after, Region.binds md e = true → e.on < i) ∧ ∀ j oj, i < j → ops[j]? = some oj → (∃ e ∈ oj.after, Region.binds md e = true ∧ e.on = i) ∨ oi.apart ops oj = true
  | 0, k, listed, _, hk, _, _, i, oi, hi, ho => by
    have := (Array.getElem?_eq_some_iff.1 ho).1
    omega
  | fuel + 1, k, listed, h, hk, hl, hsz, i, oi, hi, ho => by
    simp only [Region.lexFrom, Bool.and_eq_true] at h
    obtain ⟨⟨hr, hf⟩, hB⟩ := h
    by_cases hik : i = k
    · subst hik
      refine ⟨fun e he hb => ?_, fun j oj hj hoj => ?_⟩
      · have hr' : i ∈ Region.ready md ops listed := by simpa using hr
        obtain ⟨_, o', ho', hall⟩ := mem_ready.1 hr'
        obtain rfl : oi = o' := by rw [ho] at ho'; simpa using ho'
        have h1 := hall e he hb
        rcases Nat.lt_or_ge e.on i with h2 | h2
        · exact h2
        · exfalso
          rcases Nat.lt_or_ge e.on ops.size with h3 | h3
          · have h4 := hl e.on
            have h5 : e.on < listed.size := by omega
            simp [h5] at h4 h1
            rw [h1] at h4
            simp at h4
            omega
          · simp [Array.getElem?_eq_none (show listed.size ≤ e.on by omega)] at h1
      · by_cases hw : ∃ e ∈ oj.after, Region.binds md e = true ∧ e.on = i
        · exact .inl hw
        · refine .inr (Region.free_spec ho hf j oj hoj (by omega) ?_ (fun e he hb heq => hw ⟨e, he, hb, heq⟩))
          rw [hl]
          have := (Array.getElem?_eq_some_iff.1 hoj).1
          simp; omega
    · refine lexFrom_free fuel (k + 1) _ hB (by omega) (fun j => ?_) (by simpa using hsz) i oi (by omega) ho
      by_cases hjk : j = k
      · subst hjk
        have : j < listed.size := by omega
        simp [this]
      · rw [getD_set_ne true (Ne.symm hjk), hl]
        exact decide_eq_decide.2 (by omega)

/-- the state of a run: what has come up, and what the frame holds -/
structure RunInv (md : Region.Mode) (n : Nat) (ops : Array Oper) (C : World → Prop) (a0 : Act) (S : Nat → Lx × Act) (listed : Array Bool) (a1 : Act) (w1 : World) : Prop where
  world : C w1
  defers : a1.defers = a0.defers
  size : a1.tmps.size = a0.tmps.size
  lsize : listed.size = ops.size
  closed : ∀ (j : Nat) (oj : Oper), ops[j]? = some oj → listed.getD j false = true → ∀ e ∈ oj.after, Region.binds md e = true → listed.getD e.on false = true
  tail : ∀ j, n ≤ j → j < ops.size → listed.getD j true = false
  done : ∀ (j : Nat) (oj : Oper) (d : Tmp), ops[j]? = some oj → listed.getD j false = true → oj.dst = some d → slotIs (S (j + 1)).1 (S (j + 1)).2 d (a1.tmps.getD d undef) w1
  rest : ∀ t, (∀ (j : Nat) (oj : Oper), ops[j]? = some oj → listed.getD j false = true → oj.dst ≠ some t) → a1.tmps.getD t undef = a0.tmps.getD t undef

theorem path_sizes {a0 : Act} {S : Nat → Lx × Act} (hS0 : S 0 = ([], a0)) {n : Nat} (hn : n ≤ ops.size) (hst : ∀ (k : Nat) (o : Oper), k < n → ops[k]? = some o → StepT P ops C o (S k).1 (S k).2 (S (k + 1)).1 (S (k + 1)).2) :
    ∀ k, k ≤ n → (S k).2.tmps.size = a0.tmps.size ∧ (S k).2.defers = a0.defers
  | 0, _ => by rw [hS0]; exact ⟨rfl, rfl⟩
  | k + 1, hk => by
    have h := path_sizes hS0 hn hst k (by omega)
    have g := (hst k ops[k] (by omega) (Array.getElem?_eq_getElem (by omega))).size
    exact ⟨g.1.trans h.1, g.2.trans h.2⟩

theorem path_other {a0 : Act} {S : Nat → Lx × Act} (hS0 : S 0 = ([], a0)) {n : Nat} (hn : n ≤ ops.size) (hst : ∀ (k : Nat) (o : Oper), k < n → ops[k]? = some o → StepT P ops C o (S k).1 (S k).2 (S (k + 1)).1 (S (k + 1)).2)
    (hin : ∀ (k : Nat) (o : Oper) (d : Tmp), ops[k]? = some o → o.dst = some d → d < a0.tmps.size) {t : Tmp} (v : Value) (w : World) (m : Nat) :
    ∀ q, m + q ≤ n → (∀ j oj, m ≤ j → j < m + q → ops[j]? = some oj → oj.dst ≠ some t) → (slotIs (S (m + q)).1 (S (m + q)).2 t v w ↔ slotIs (S m).1 (S m).2 t v w)
  | 0, _, _ => Iff.rfl
  | q + 1, hq, hno => by
    have ih := path_other hS0 hn hst hin (t := t) v w m q (by omega) (fun j oj h1 h2 => hno j oj h1 (by omega))
    have hk : ops[m + q]? = some ops[m + q] := Array.getElem?_eq_getElem (by omega)
    have hs := path_sizes hS0 hn hst (m + q) (by omega)
    exact ((hst (m + q) _ (by omega) hk).other (fun d hd => by rw [hs.1]; exact hin _ _ d hk hd) (hno (m + q) _ (by omega) (by omega) hk) v w).trans ih

theorem slot0 {a0 : Act} {S : Nat → Lx × Act} (hS0 : S 0 = ([], a0)) (t : Tmp) (v : Value) (w : World) : slotIs (S 0).1 (S 0).2 t v w ↔ v = a0.tmps.getD t undef := by
  rw [hS0]; exact Iff.rfl

theorem path_keys {a0 : Act} {S : Nat → Lx × Act} (hS0 : S 0 = ([], a0)) {n : Nat} (hn : n ≤ ops.size) (hst : ∀ (k : Nat) (o : Oper), k < n → ops[k]? = some o → StepT P ops C o (S k).1 (S k).2 (S (k + 1)).1 (S (k + 1)).2) {t : Tmp} :
    ∀ k, k ≤ n → (∀ (j : Nat) (oj : Oper), j < k → ops[j]? = some oj → oj.dst ≠ some t) → (S k).1.lookup t = none
  | 0, _, _ => by rw [hS0]; rfl
  | k + 1, hk, hno => by
    have ih := path_keys hS0 hn hst k (by omega) (fun j oj h1 h2 => hno j oj (by omega) h2)
    have hs := hst k ops[k] (by omega) (Array.getElem?_eq_getElem (by omega))
    have hd := hno k ops[k] (by omega) (Array.getElem?_eq_getElem (by omega))
    generalize S k = si at *
    generalize S (k + 1) = sj at *
    obtain ⟨Ii, ai⟩ := si
    obtain ⟨Ij, aj⟩ := sj
    cases hs with
    | skip => exact ih
    | val => exact ih
    | ty d R hdd =>
      show List.lookup t ((d, R) :: Ii) = none
      rw [List.lookup_cons]
      have : (t == d) = false := by simp; intro e; exact hd (by rw [hdd, e])
      simp only [this]
      exact ih

/-- WHATEVER ORDER IS DRAWN -/
theorem wpAny_lax {md : Region.Mode} {Q' : Exit → Act → World → Prop} (hC : ∀ w w', C w → Below w.heap.size w w' → C w') {a0 : Act} {S : Nat → Lx × Act} (hS0 : S 0 = ([], a0))
    {n : Nat} (hn : n ≤ ops.size) (hst : ∀ (k : Nat) (o : Oper), k < n → ops[k]? = some o → StepT P ops C o (S k).1 (S k).2 (S (k + 1)).1 (S (k + 1)).2)
    (hin : ∀ (k : Nat) (o : Oper) (d : Tmp), ops[k]? = some o → o.dst = some d → d < a0.tmps.size)
    (hone : ∀ (j k : Nat) (x y : Oper) (d : Tmp), ops[j]? = some x → ops[k]? = some y → x.dst = some d → y.dst = some d → j = k)
    (hlex : ∀ (i : Nat) (oi : Oper), ops[i]? = some oi → (∀ e ∈ oi.after, Region.binds md e = true → e.on < i) ∧ ∀ j oj, i < j → ops[j]? = some oj → (∃ e ∈ oj.after, Region.binds md e = true ∧ e.on = i) ∨ oi.apart ops oj = true)
    (hwait : ∀ (i : Nat) (oi : Oper), n ≤ i → ops[i]? = some oi → ∀ j, j < n → ∃ e ∈ oi.after, Region.binds md e = true ∧ e.on = j)
    (hfin : ∀ (fuel : Nat) (listed : Array Bool) (a1 : Act) (w1 : World), (∃ s, (List.range ops.size).filter (fun i => !listed.getD i true) = s ∧ s.length = fuel) → listed.size = ops.size → (∀ i, i < n → listed.getD i true = true) → (∀ j, n ≤ j → j < ops.size → listed.getD j true = false) → Rep C (S n).1 (S n).2 a1 w1 → wpAny P md ops Q' fuel listed a1 w1) :
    ∀ (fuel : Nat) (listed : Array Bool) (a1 : Act) (w1 : World), (∃ s, (List.range ops.size).filter (fun i => !listed.getD i true) = s ∧ s.length = fuel) → RunInv md n ops C a0 S listed a1 w1 → wpAny P md ops Q' fuel listed a1 w1 := by
  -- all that is not listed: none is ready only if none is left
  have hready : ∀ listed : Array Bool, listed.size = ops.size → Region.ready md ops listed = [] → ∀ i, i < ops.size → listed.getD i true = true := by
    intro listed hls hr i
    induction i using Nat.strongRecOn with
    | _ i ih =>
      intro hi
      rcases hb : listed.getD i true with _ | _
      · exfalso
        have : i ∈ Region.ready md ops listed := by
          refine mem_ready.2 ⟨hb, ops[i], Array.getElem?_eq_getElem hi, fun e he hbd => ?_⟩
          have h1 := (hlex i _ (Array.getElem?_eq_getElem hi)).1 e he hbd
          have h2 := ih e.on h1 (by omega)
          have h3 : e.on < listed.size := by omega
          simpa [h3] using h2
        rw [hr] at this
        cases this
      · rfl
  have hend : ∀ (fuel : Nat) (listed : Array Bool) (a1 : Act) (w1 : World), (∃ s, (List.range ops.size).filter (fun i => !listed.getD i true) = s ∧ s.length = fuel) → RunInv md n ops C a0 S listed a1 w1 → (∀ i, i < n → listed.getD i true = true) → wpAny P md ops Q' fuel listed a1 w1 := by
    intro fuel listed a1 w1 hcnt hI hall
    have hsz := path_sizes hS0 hn hst n (Nat.le_refl _)
    refine hfin fuel listed a1 w1 hcnt hI.lsize hall hI.tail ⟨hI.world, hI.defers.trans hsz.2.symm, hI.size.trans hsz.1.symm, fun t => ?_⟩
    by_cases hw : ∃ (j : Nat) (oj : Oper), j < n ∧ ops[j]? = some oj ∧ oj.dst = some t
    · obtain ⟨j, oj, hjn, hj, hd⟩ := hw
      have hjl := (Array.getElem?_eq_some_iff.1 hj).1
      have hl : listed.getD j false = true := by
        have h1 := hall j hjn
        have h2 : j < listed.size := by rw [hI.lsize]; exact hjl
        simpa [h2] using h1
      have h1 := hI.done j oj t hj hl hd
      have h2 := path_other hS0 hn hst hin (t := t) (a1.tmps.getD t undef) w1 (j + 1) (n - (j + 1)) (by omega) (fun i oi h1 h2 hi hdi => by
        have := hone i j oi oj t hi hj hdi hd; omega)
      rw [show j + 1 + (n - (j + 1)) = n by omega] at h2
      exact h2.2 h1
    · have h1 := hI.rest t (fun j oj hj hl hd => by
        by_cases hjn : j < n
        · exact hw ⟨j, oj, hjn, hj, hd⟩
        · have hjl := (Array.getElem?_eq_some_iff.1 hj).1
          have := hI.tail j (by omega) hjl
          have h2 : j < listed.size := by rw [hI.lsize]; exact hjl
          simp [h2] at this hl
          rw [this] at hl; cases hl)
      have h2 := path_other hS0 hn hst hin (t := t) (a1.tmps.getD t undef) w1 0 n (by omega) (fun j oj _ h2 hj hd => hw ⟨j, oj, by omega, hj, hd⟩)
      rw [Nat.zero_add] at h2
      exact h2.2 ((slot0 hS0 t _ w1).2 h1)
  intro fuel
  induction fuel with
  | zero =>
    rintro listed a1 w1 ⟨s, hs, hlen⟩ hI
    refine hend 0 listed a1 w1 ⟨s, hs, hlen⟩ hI (fun i hi => ?_)
    have hnil : s = [] := List.eq_nil_of_length_eq_zero hlen
    subst hnil
    have := List.filter_eq_nil_iff.1 hs i (List.mem_range.2 (by omega))
    simpa using this
  | succ fuel ih =>
    rintro listed a1 w1 ⟨s, hs, hlen⟩ hI
    by_cases hdone : ∀ i, i < n → listed.getD i true = true
    · exact hend (fuel + 1) listed a1 w1 ⟨s, hs, hlen⟩ hI hdone
    refine ⟨fun h0 => absurd (fun i hi => hready listed hI.lsize h0 i (by omega)) hdone, fun i hi => ?_⟩
    obtain ⟨hun, oi, hoi, hall⟩ := mem_ready.1 hi
    have hin' : i < n := by
      rcases Nat.lt_or_ge i n with h | h
      · exact h
      · exfalso
        refine hdone (fun j hj => ?_)
        obtain ⟨e, he, hb, heq⟩ := hwait i oi h hoi j hj
        have h1 := hall e he hb
        rw [heq] at h1
        have h2 : j < listed.size := by rw [hI.lsize]; omega
        simpa [h2] using h1
    have hil := (Array.getElem?_eq_some_iff.1 hoi).1
    have hill : i < listed.size := by rw [hI.lsize]; exact hil
    have hunf : listed.getD i false = false := by simpa [hill] using hun
    have hcount : ∃ s', (List.range ops.size).filter (fun j => !(listed.setIfInBounds i true).getD j true) = s' ∧ s'.length = fuel := by
      refine ⟨_, rfl, ?_⟩
      have hn : (List.range ops.size).Nodup := List.nodup_range
      have e : (List.range ops.size).filter (fun j => !(listed.setIfInBounds i true).getD j true) = ((List.range ops.size).filter fun j => !listed.getD j true).erase i := by
        rw [List.Nodup.erase_eq_filter (List.Pairwise.filter _ hn), List.filter_filter]
        apply List.filter_congr
        intro j hj
        by_cases hji : j = i
        · subst hji; simp [hill]
        · rw [getD_set_ne true (Ne.symm hji)]; simp [hji]
      rw [e, List.length_erase_of_mem (List.mem_filter.2 ⟨List.mem_range.2 hil, by simp only [hun]; rfl⟩), hs, hlen]
      rfl
    -- what the operation looks at is as the walk had it
    have hlook : ∀ t ∈ oi.looksAt ops, slotIs (S i).1 (S i).2 t (a1.tmps.getD t undef) w1 := by
      intro t ht
      have hback : (∀ (j : Nat) (oj : Oper), ops[j]? = some oj → oj.dst = some t → i ≤ j) → (∀ (j : Nat) (oj : Oper), ops[j]? = some oj → oj.dst = some t → listed.getD j false = false) → slotIs (S i).1 (S i).2 t (a1.tmps.getD t undef) w1 := by
        intro h1 h2
        have h3 := path_other hS0 hn hst hin (t := t) (a1.tmps.getD t undef) w1 0 i (by omega) (fun j oj _ hj ho hd => by have := h1 j oj ho hd; omega)
        rw [Nat.zero_add] at h3
        refine h3.2 ((slot0 hS0 t _ w1).2 (hI.rest t (fun j oj hj hl hd => ?_)))
        rw [h2 j oj hj hd] at hl; cases hl
      by_cases hw : ∃ (j : Nat) (oj : Oper), ops[j]? = some oj ∧ oj.dst = some t
      · obtain ⟨j, oj, hj, hd⟩ := hw
        have huniq : ∀ (j' : Nat) (oj' : Oper), ops[j']? = some oj' → oj'.dst = some t → j' = j := fun j' oj' h1 h2 => hone j' j oj' oj t h1 hj h2 hd
        rcases Nat.lt_trichotomy j i with hji | hji | hji
        · rcases (hlex j oj hj).2 i oi hji hoi with ⟨e, he, hb, heq⟩ | hap
          · have hl : listed.getD j false = true := by rw [← heq]; exact hall e he hb
            have h1 := hI.done j oj t hj hl hd
            have h2 := path_other hS0 hn hst hin (t := t) (a1.tmps.getD t undef) w1 (j + 1) (i - (j + 1)) (by omega) (fun j' oj' h1 _ h3 h4 => by have := huniq j' oj' h3 h4; omega)
            rw [show j + 1 + (i - (j + 1)) = i by omega] at h2
            exact h2.2 h1
          · exact absurd ht ((Oper.apart_spec hap).1 t hd)
        · subst hji
          refine hback (fun j' oj' h1 h2 => by have := huniq j' oj' h1 h2; omega) (fun j' oj' h1 h2 => by rw [huniq j' oj' h1 h2]; exact hunf)
        · rcases (hlex i oi hoi).2 j oj hji hj with ⟨e, he, hb, heq⟩ | hap
          · refine hback (fun j' oj' h1 h2 => by have := huniq j' oj' h1 h2; omega) (fun j' oj' h1 h2 => ?_)
            rw [huniq j' oj' h1 h2]
            rcases hlj : listed.getD j false with _ | _
            · rfl
            · have := hI.closed j oj hj hlj e he hb
              rw [heq, hunf] at this; cases this
          · exact absurd ht ((Oper.apart_spec hap).2.2 t hd)
      · exact hback (fun j oj h1 h2 => absurd ⟨j, oj, h1, h2⟩ hw) (fun j oj h1 h2 => absurd ⟨j, oj, h1, h2⟩ hw)
    have hsz := path_sizes hS0 hn hst i (by omega)
    have hsame : a1.tmps.size = (S i).2.tmps.size := hI.size.trans hsz.1.symm
    -- behind it
    have hnext : ∀ (v : Value) (w' : World), (∀ d, oi.dst = some d → slotIs (S (i + 1)).1 (S (i + 1)).2 d v w') → Below w1.heap.size w1 w' → RunInv md n ops C a0 S (listed.setIfInBounds i true) (a1.put oi.dst v) w' := by
      intro v w' hv hb
      have hget : ∀ t, oi.dst ≠ some t → (a1.put oi.dst v).tmps.getD t undef = a1.tmps.getD t undef := by
        intro t ht
        cases hd : oi.dst with
        | none => rfl
        | some d => rw [put_getD a1 d t v (by rw [hI.size]; exact hin i oi d hoi hd), if_neg (fun e => ht (by rw [hd, e]))]
      have hlist : ∀ j, (listed.setIfInBounds i true).getD j false = true → j = i ∨ listed.getD j false = true := by
        intro j hj
        by_cases hji : j = i
        · exact .inl hji
        · rw [getD_set_ne false (Ne.symm hji)] at hj; exact .inr hj
      refine ⟨hC _ _ hI.world hb, (put_defers _ _ _).trans hI.defers, (put_size _ _ _).trans hI.size, by simpa using hI.lsize, fun j oj hj hl e he hbd => ?_, fun j hnj hjl => ?_, fun j oj d hj hl hd => ?_, fun t ht => ?_⟩
      · rcases hlist j hl with rfl | hl
        · obtain rfl : oj = oi := by rw [hoi] at hj; simpa using hj.symm
          exact getD_set_true (hall e he hbd)
        · exact getD_set_true (hI.closed j oj hj hl e he hbd)
      · rw [getD_set_ne true (by omega)]; exact hI.tail _ hnj hjl
      · rcases hlist j hl with rfl | hl
        · obtain rfl : oj = oi := by rw [hoi] at hj; simpa using hj.symm
          rw [hd, put_getD a1 d d v (by rw [hI.size]; exact hin j oj d hj hd), if_pos rfl]
          exact hv d hd
        · have hne : oi.dst ≠ some d := by
            intro h
            have := hone i j oi oj d hoi hj h hd
            subst this
            rw [hunf] at hl; cases hl
          rw [hget d hne]
          exact (hI.done j oj d hj hl hd).keep hb
      · have hne : oi.dst ≠ some t := ht i oi hoi (by simp [hill])
        rw [hget t hne]
        exact hI.rest t (fun j oj hj hl => ht j oj hj (getD_set_true hl))
    have hkey : ∀ d, oi.dst = some d → (S i).1.lookup d = none := fun d hd => path_keys hS0 hn hst i (by omega) (fun j oj h1 h2 h3 => by have := hone j i oj oi d h2 hoi h3 hd; omega)
    have hstep := hst i oi hin' hoi
    unfold wpOp
    simp only [hoi]
    generalize hSi : S i = si at *
    generalize hSj : S (i + 1) = sj at *
    obtain ⟨Ii, ai⟩ := si
    obtain ⟨Ij, aj⟩ := sj
    simp only at hstep hlook hnext hsame hkey
    cases hstep with
    | skip hg hw =>
      rw [wanted_looks hg hsame hlook, hw]
      simp only [Bool.false_eq_true, if_false]
      refine ih _ _ _ hcount (hnext undef w1 (fun d hd => ?_) (Below.refl _ _))
      unfold slotIs
      rw [hkey d hd, hd]
      simp only
      rw [put_getD ai d d undef (by rw [← hsame, hI.size]; exact hin i oi d hoi hd), if_pos rfl]
    | val v hg hw h =>
      rw [wanted_looks hg hsame hlook, hw]
      simp only [if_true]
      refine .inl (h a1 w1 hI.world hlook _ _ (fun u w' hu hb => ih _ _ _ hcount (hnext u w' (fun d hd => ?_) hb)))
      unfold slotIs
      rw [hkey d hd, hd]
      simp only
      rw [put_getD ai d d v (by rw [← hsame, hI.size]; exact hin i oi d hoi hd), if_pos rfl]
      exact hu
    | ty d R hd hg hw h =>
      rw [wanted_looks hg hsame hlook, hw]
      simp only [if_true]
      refine .inl (h a1 w1 hI.world hlook _ _ (fun u w' hu hb => ih _ _ _ hcount (hnext u w' (fun d' hd' => ?_) hb)))
      obtain rfl : d = d' := by rw [hd] at hd'; simpa using hd'
      unfold slotIs
      rw [List.lookup_cons]
      simp only [BEq.rfl]
      exact hu

theorem count_none (n : Nat) : (List.range n).filter (fun i => !(Array.replicate n false).getD i true) = List.range n := by
  apply List.filter_eq_self.2
  intro i hi
  have := List.mem_range.1 hi
  simp [this]

theorem start_inv {md : Region.Mode} {n : Nat} {a : Act} {w : World} {S : Nat → Lx × Act} (hC : C { w with drawn := w.drawn + 1 }) : RunInv md n ops C a S (Array.replicate ops.size false) a { w with drawn := w.drawn + 1 } := by
  have hf : ∀ j, (Array.replicate ops.size false).getD j false = true → False := by
    intro j hl
    by_cases hi : j < ops.size <;> simp [hi] at hl
  exact ⟨hC, rfl, rfl, by simp, fun j oj hj hl => (hf j hl).elim, fun j _ hj => by simp [hj], fun j oj d hj hl => (hf j hl).elim, fun t _ => rfl⟩

/-- THE REGION -/
theorem wp_region_lax {id : Nat} {Q : Exit → Act → World → Prop} {a : Act} {w : World} {l : List Oper} (hm : P.follows .mixedOrders = true) (hB : Region.lexB .any l.toArray = true) (hD : dstsB l a.tmps.size = true)
    (h : wpT P l.toArray (Below w.heap.size w) (fun a' w' => Q .normal a' w') l [] a) : (Code.region id l.toArray true).wp P Q a w := by
  obtain ⟨S, hS0, hst, hfin⟩ := wpT_path l [] a h
  have hB' : Region.lexFrom .any l.toArray l.toArray.size 0 (Array.replicate l.toArray.size false) = true := by
    simp only [Region.lexB, Bool.and_eq_true] at hB; exact hB.2
  refine wp_region_any hm ?_
  refine wpAny_lax (P := P) (ops := l.toArray) (C := Below w.heap.size w) (md := .any) (a0 := a) (S := S) (fun w1 w2 h1 h2 => h1.trans (h2.mono h1.size)) hS0 (n := l.toArray.size) (Nat.le_refl _) (fun k o _ hk => hst k o (by simpa using hk))
    (fun k o d hk hd => dsts_lt hD (k := k) (by simpa using hk) hd) (fun j k x y d hj hk hx hy => dsts_one hD (j := j) (k := k) (by simpa using hj) (by simpa using hk) hx hy)
    (fun i oi hi => lexFrom_free _ 0 _ hB' (by simp) (fun i => ?_) (by simp) i oi (Nat.zero_le _) hi) (fun i oi hi ho => absurd (Array.getElem?_eq_some_iff.1 ho).1 (by omega))
    (fun fuel listed a1 w1 ⟨s, hs, hlen⟩ hls hall _ hr => ?_) _ _ _ _ ⟨_, rfl, ?_⟩ (start_inv ⟨rfl, rfl, rfl, Nat.le_refl _, fun _ _ => rfl⟩)
  · by_cases hi : i < l.length
    · simp [hi]
    · simp [hi]; omega
  · have hq : Q .normal a1 w1 := hfin a1 w1 (by simpa using hr)
    have hnr : Region.ready .any l.toArray listed = [] := by
      apply List.eq_nil_iff_forall_not_mem.2
      intro i hi
      obtain ⟨h0, o, ho, _⟩ := mem_ready.1 hi
      have := hall i (Array.getElem?_eq_some_iff.1 ho).1
      rw [this] at h0; cases h0
    exact wpAny_done hnr hq fuel
  · rw [count_none]; simp

/-- all but the last operation are waited for by it -/
def waitsB (l : List Oper) : Bool := match l.getLast? with
  | some o => (List.range (l.length - 1)).all fun j => o.after.any fun e => Region.binds .any e && e.on == j
  | none => false

/-- THE REGION WITH A STORE AT ITS END: all else by the walk, then the last operation -/
theorem wp_region_laxT {id : Nat} {Q : Exit → Act → World → Prop} {a : Act} {w : World} {l : List Oper} (n : Nat) (hn : l.length = n + 1) (hm : P.follows .mixedOrders = true) (hB : Region.lexB .any l.toArray = true) (hD : dstsB l a.tmps.size = true) (hW : waitsB l = true)
    (h : wpT P l.toArray (Below w.heap.size w) (fun a' w' => wpList P l.toArray Q (l.drop n) a' w') (l.take n) [] a) : (Code.region id l.toArray true).wp P Q a w := by
  obtain ⟨S, hS0, hst, hfin⟩ := wpT_path (l.take n) [] a h
  have hB' : Region.lexFrom .any l.toArray l.toArray.size 0 (Array.replicate l.toArray.size false) = true := by
    simp only [Region.lexB, Bool.and_eq_true] at hB; exact hB.2
  have hsz : l.toArray.size = n + 1 := by simpa using hn
  obtain ⟨o, ho⟩ : ∃ o, l[n]? = some o := ⟨l[n], by simp [hn]⟩
  have hlast : l.getLast? = some o := by rw [List.getLast?_eq_getElem?, hn]; exact ho
  have hdrop : l.drop n = [o] := by
    have h1 : n < l.length := by omega
    rw [List.drop_eq_getElem_cons h1, List.drop_eq_nil_of_le (by omega)]
    rw [List.getElem?_eq_getElem h1] at ho
    rw [Option.some.inj ho]
  have hlen : (l.take n).length = n := by rw [List.length_take]; omega
  refine wp_region_any hm ?_
  refine wpAny_lax (P := P) (ops := l.toArray) (C := Below w.heap.size w) (md := .any) (a0 := a) (S := S) (fun w1 w2 h1 h2 => h1.trans (h2.mono h1.size)) hS0 (n := n) (by omega) (fun k o' hk ho' => hst k o' (by rw [List.getElem?_take_of_lt hk]; simpa using ho'))
    (fun k o d hk hd => dsts_lt hD (k := k) (by simpa using hk) hd) (fun j k x y d hj hk hx hy => dsts_one hD (j := j) (k := k) (by simpa using hj) (by simpa using hk) hx hy)
    (fun i oi hi => lexFrom_free _ 0 _ hB' (by simp) (fun i => ?_) (by simp) i oi (Nat.zero_le _) hi) (fun i oi hi hoi j hj => ?_)
    (fun fuel listed a1 w1 ⟨s, hs, hcnt⟩ hls hall htail hr => ?_) _ _ _ _ ⟨_, rfl, ?_⟩ (start_inv ⟨rfl, rfl, rfl, Nat.le_refl _, fun _ _ => rfl⟩)
  · by_cases hi : i < l.length
    · simp [hi]
    · simp [hi]; omega
  · have hil := (Array.getElem?_eq_some_iff.1 hoi).1
    obtain rfl : i = n := by omega
    obtain rfl : o = oi := by have : l[i]? = some oi := by simpa using hoi
                              rw [ho] at this; exact Option.some.inj this
    unfold waitsB at hW
    rw [hlast] at hW
    simp only [List.all_eq_true, List.mem_range] at hW
    obtain ⟨e, he, hb⟩ := Array.any_eq_true'.1 (hW j (by omega))
    simp only [Bool.and_eq_true, beq_iff_eq] at hb
    exact ⟨e, he, hb.1, hb.2⟩
  · -- only the last one is left
    have hq : wpList P l.toArray Q [o] a1 w1 := by
      have := hfin a1 w1 (by rw [hlen]; exact hr)
      rwa [hdrop] at this
    have hnl : listed.getD n true = false := htail n (Nat.le_refl _) (by omega)
    have hfuel : fuel = 1 := by
      rw [← hcnt, ← hs, hsz, List.range_succ, List.filter_append]
      have : (List.range n).filter (fun i => !listed.getD i true) = [] := by
        apply List.filter_eq_nil_iff.2
        intro i hi
        rw [hall i (List.mem_range.1 hi)]
        simp
      rw [this]
      simp only [List.nil_append, List.filter_cons, hnl]
      rfl
    subst hfuel
    have hon : l.toArray[n]? = some o := by simpa using ho
    refine ⟨fun h0 => ?_, fun i hi => ?_⟩
    · exfalso
      have : n ∈ Region.ready .any l.toArray listed := by
        refine mem_ready.2 ⟨hnl, o, hon, fun e he hb => ?_⟩
        have h1 := (lexFrom_free _ 0 _ hB' (by simp) (fun i => by by_cases hi : i < l.length <;> simp [hi]; omega) (by simp) n o (Nat.zero_le _) hon).1 e he hb
        have h2 := hall e.on h1
        have h3 : e.on < listed.size := by omega
        simpa [h3] using h2
      rw [h0] at this; cases this
    · obtain ⟨hun, oi, hoi, _⟩ := mem_ready.1 hi
      have hil := (Array.getElem?_eq_some_iff.1 hoi).1
      obtain rfl : i = n := by
        rcases Nat.lt_or_ge i n with h1 | h1
        · rw [hall i h1] at hun; cases hun
        · omega
      have hnr : Region.ready .any l.toArray (listed.setIfInBounds i true) = [] := by
        apply List.eq_nil_iff_forall_not_mem.2
        intro j hj
        obtain ⟨h0, oj, hoj, _⟩ := mem_ready.1 hj
        have hjl := (Array.getElem?_eq_some_iff.1 hoj).1
        by_cases hji : j = i
        · subst hji
          have h3 : j < listed.size := by omega
          simp [h3] at h0
        · rw [getD_set_ne true (Ne.symm hji), hall j (by omega)] at h0; cases h0
      have hmono : ∀ a2 w2, wpList P l.toArray Q [] a2 w2 → wpAny P .any l.toArray Q 0 (listed.setIfInBounds i true) a2 w2 := fun a2 w2 h2 => wpAny_done hnr h2 0
      unfold wpOp
      simp only [hon]
      unfold wpList at hq
      split
      · rename_i hw
        rw [if_pos hw] at hq
        exact hq.imp (Oper.wp_mono hmono) (fun h => h)
      · rename_i hw
        rw [if_neg hw] at hq
        exact hmono _ _ hq
  · rw [count_none]; simp

/-! ### The steps of the walk -/
section steps
variable {Q : Act → World → Prop} {o : Oper} {rest : List Oper} {I : Lx} {a : Act}

/-- an operand that is known -/
def known (I : Lx) : Operand → Bool
  | .tmp t => (I.lookup t).isNone
  | _ => true

theorem looks_of_operand {x : Operand} {t : Tmp} (h : x ∈ o.op.operands) (hx : x = .tmp t) : t ∈ o.looksAt ops :=
  List.mem_append_left _ (List.mem_filterMap.2 ⟨x, by simpa using h, by rw [hx]⟩)

theorem known_eval {x : Operand} {a1 : Act} {w : World} (hx : known I x = true) (hm : x ∈ o.op.operands) (ht : ∀ t ∈ o.looksAt ops, slotIs I a t (a1.tmps.getD t undef) w) : a1.eval x = a.eval x := by
  cases x with
  | tmp t =>
    have h := ht t (looks_of_operand hm rfl)
    unfold slotIs at h
    have : I.lookup t = none := by simpa [known] using hx
    rw [this] at h
    exact h
  | _ => rfl

theorem wpT_move {x : Operand} (v : Value) (ho : o.op = .move x) (hv : a.eval x = v) (hx : known I x = true) (hg : guardKnown ops o I = true) (hw : Region.wanted o (yielded ops a.tmps) = true) (k : wpT P ops C Q rest I (a.put o.dst v)) : wpT P ops C Q (o :: rest) I a :=
  ⟨_, _, .val v hg hw (fun a1 w _ ht K Q' hK => by
    have e := known_eval hx (by rw [ho]; simp [Op.operands]) ht
    unfold Oper.wp
    simp only [ho, execOp]
    rw [e, hv]
    exact hK _ _ rfl (Below.refl _ _)), k⟩

theorem wpT_assign {x : Operand} (v : Value) (ho : o.op = .assign x) (hv : a.eval x = v) (hx : known I x = true) (hg : guardKnown ops o I = true) (hw : Region.wanted o (yielded ops a.tmps) = true) (k : wpT P ops C Q rest I (a.put o.dst v)) : wpT P ops C Q (o :: rest) I a :=
  ⟨_, _, .val v hg hw (fun a1 w _ ht K Q' hK => by
    have e := known_eval hx (by rw [ho]; simp [Op.operands]) ht
    unfold Oper.wp
    simp only [ho, execOp]
    rw [e, hv]
    exact hK _ _ rfl (Below.refl _ _)), k⟩

def notSelect (o : Oper) : Bool := match o.op with | .select .. => false | _ => true

/-- an operation over known slots: run once, in any world of the class -/
theorem wpT_run (v : Value) (hs : notSelect o = true) (hl : (o.op.operands.toList.all (known I)) = true) (hg : guardKnown ops o I = true) (hw : Region.wanted o (yielded ops a.tmps) = true)
    (hrun : ∀ w, C w → (execOp a.eval o).run P w = .ok (.value v) w) (k : wpT P ops C Q rest I (a.put o.dst v)) : wpT P ops C Q (o :: rest) I a :=
  ⟨_, _, .val v hg hw (fun a1 w hC ht K Q' hK => by
    have e : execOp a1.eval o = execOp a.eval o := execOp_congr o (fun cs b h => by simp [notSelect, h] at hs) fun x hx => known_eval (by
      simp only [List.all_eq_true] at hl
      exact hl x (by simpa using hx)) hx ht
    unfold Oper.wp
    rw [e, hrun w hC]
    exact hK _ _ rfl (Below.refl _ _)), k⟩

/-- .. and the value is a new thing -/
theorem wpT_runT {d : Tmp} (R : Ty) (hd : o.dst = some d) (hs : notSelect o = true) (hl : (o.op.operands.toList.all (known I)) = true) (hg : guardKnown ops o I = true) (hw : Region.wanted o (yielded ops a.tmps) = true)
    (hrun : ∀ w, C w → ∃ v w', (execOp a.eval o).run P w = .ok (.value v) w' ∧ R.holds v w' ∧ Below w.heap.size w w') (k : wpT P ops C Q rest ((d, R) :: I) a) : wpT P ops C Q (o :: rest) I a :=
  ⟨_, _, .ty d R hd hg hw (fun a1 w hC ht K Q' hK => by
    have e : execOp a1.eval o = execOp a.eval o := execOp_congr o (fun cs b h => by simp [notSelect, h] at hs) fun x hx => known_eval (by
      simp only [List.all_eq_true] at hl
      exact hl x (by simpa using hx)) hx ht
    obtain ⟨v, w', h1, h3, h2⟩ := hrun w hC
    unfold Oper.wp
    rw [e, h1]
    exact hK _ _ h3 h2), k⟩

def isTmp (t : Tmp) : Operand → Bool
  | .tmp s => s == t
  | _ => false
theorem isTmp_eq {t : Tmp} {x : Operand} (h : isTmp t x = true) : x = .tmp t := by
  cases x with
  | tmp s => have : s = t := by simpa [isTmp] using h
             rw [this]
  | _ => simp [isTmp] at h
theorem isTmp_self (t : Tmp) : isTmp t (.tmp t) = true := by simp [isTmp]

theorem wpT_convK {x : Operand} {src dst : TypeId} (v : Value) (ho : o.op = .convert src dst x) (hx : known I x = true) (hg : guardKnown ops o I = true) (hw : Region.wanted o (yielded ops a.tmps) = true)
    (hc : ∀ w, C w → (convert src dst (a.eval x)).run P w = .ok v w) (k : wpT P ops C Q rest I (a.put o.dst v)) : wpT P ops C Q (o :: rest) I a :=
  wpT_run v (by simp [notSelect, ho]) (by rw [ho]; simp [Op.operands, hx]) hg hw (fun w hC => by
    have h := hc w hC
    simp only [ho, execOp]
    generalize a.eval x = u at h
    simp [h, go_sem]) k

/-- a call over known slots -/
theorem wpT_call (v : Value) {f : FuncId} (args : Array Value) (hs : notSelect o = true) (hl : (o.op.operands.toList.all (known I)) = true) (hg : guardKnown ops o I = true) (hw : Region.wanted o (yielded ops a.tmps) = true)
    (hent : ∀ w, (execOp a.eval o).run P w = .ok (.enter f args) w) (hc : ∀ w, C w → Calls P f args w fun e w' => e = .returned v ∧ Below w.heap.size w w') (k : wpT P ops C Q rest I (a.put o.dst v)) : wpT P ops C Q (o :: rest) I a :=
  ⟨_, _, .val v hg hw (fun a1 w hC ht K Q' hK => by
    have e : execOp a1.eval o = execOp a.eval o := execOp_congr o (fun cs b h => by simp [notSelect, h] at hs) fun x hx => known_eval (by
      simp only [List.all_eq_true] at hl
      exact hl x (by simpa using hx)) hx ht
    unfold Oper.wp
    rw [e, hent w]
    exact (hc w hC).mono fun e w' ⟨he, hb⟩ => by subst he; exact hK _ _ rfl hb), k⟩

/-- a call over one slot that is not known, and known ones -/
theorem gives_callU {t : Tmp} {R R' : Ty} {f : FuncId} (args : Value → Array Value) (hx : I.lookup t = some R) (hm : (Operand.tmp t) ∈ o.op.operands) (hs : notSelect o = true) (hl : (o.op.operands.toList.all fun x => known I x || isTmp t x) = true)
    (hent : ∀ (u : Value) w (ρ : Operand → Value), ρ (.tmp t) = u → (∀ x, known I x = true → ρ x = a.eval x) → (execOp ρ o).run P w = .ok (.enter f (args u)) w)
    (hc : ∀ (u : Value) w, C w → R.holds u w → Calls P f (args u) w fun e w' => ∃ v, e = .returned v ∧ R'.holds v w' ∧ Below w.heap.size w w') : Gives P ops C o I a R' := fun a1 w hC ht K Q' hK => by
    have h : slotIs I a t (a1.tmps.getD t undef) w := ht t (looks_of_operand hm rfl)
    unfold slotIs at h
    rw [hx] at h
    have e : execOp a1.eval o = execOp (fun x => if isTmp t x = true then a1.tmps.getD t undef else a.eval x) o := execOp_congr o (fun cs b h => by simp [notSelect, h] at hs) fun x hxm => by
      by_cases hxt : isTmp t x = true
      · rw [if_pos hxt, isTmp_eq hxt]; rfl
      · rw [if_neg hxt]
        simp only [List.all_eq_true] at hl
        have h1 := hl x (by simpa using hxm)
        have h2 : known I x = true := by simpa [hxt] using h1
        exact known_eval h2 hxm ht
    have h1 := hent (a1.tmps.getD t undef) w (fun x => if isTmp t x = true then a1.tmps.getD t undef else a.eval x) (by rw [if_pos (isTmp_self t)]) (fun x hk => by
      by_cases hxt : isTmp t x = true
      · rw [isTmp_eq hxt] at hk; simp [known, hx] at hk
      · rw [if_neg hxt])
    unfold Oper.wp
    rw [e, h1]
    exact (hc _ w hC h).mono fun e w' ⟨v, he, hv, hb⟩ => by subst he; exact hK _ _ hv hb

theorem wpT_callUV {t : Tmp} {R : Ty} (v : Value) {f : FuncId} (args : Value → Array Value) (hx : I.lookup t = some R) (hm : (Operand.tmp t) ∈ o.op.operands) (hs : notSelect o = true) (hl : (o.op.operands.toList.all fun x => known I x || isTmp t x) = true) (hg : guardKnown ops o I = true) (hw : Region.wanted o (yielded ops a.tmps) = true)
    (hent : ∀ (u : Value) w (ρ : Operand → Value), ρ (.tmp t) = u → (∀ x, known I x = true → ρ x = a.eval x) → (execOp ρ o).run P w = .ok (.enter f (args u)) w)
    (hc : ∀ (u : Value) w, C w → R.holds u w → Calls P f (args u) w fun e w' => e = .returned v ∧ Below w.heap.size w w') (k : wpT P ops C Q rest I (a.put o.dst v)) : wpT P ops C Q (o :: rest) I a :=
  ⟨_, _, .val v hg hw (gives_callU (R' := Ty.is v) args hx hm hs hl hent (fun u w h1 h2 => (hc u w h1 h2).mono fun _ _ h => ⟨v, h.1, rfl, h.2⟩)), k⟩

/-- what is asked at the end: whatever the slots that are not known hold -/
def FinQ (Q : Act → World → Prop) : Lx → Act → World → Prop
  | [], a, w => Q a w
  | (d, R) :: I, a, w => ∀ v, R.holds v w → FinQ Q I (a.put (some d) v) w

theorem rep_fin {n : Nat} : ∀ (I : Lx) (a a1 : Act) (w1 : World), a.tmps.size = n → (I.map (·.1)).Nodup → (∀ d ∈ I.map (·.1), d < n) → Rep C I a a1 w1 → FinQ Q I a w1 → Q a1 w1
  | [], a, a1, w1, hn, _, _, h, hq => by
    have : a1 = a := by
      obtain ⟨t1, d1⟩ := a1
      obtain ⟨t0, d0⟩ := a
      have e1 : t1 = t0 := by
        have hs : t1.size = t0.size := h.size
        apply Array.ext hs
        intro i h1 h2
        have := h.slot i
        have e : t1.getD i undef = t0.getD i undef := this
        simpa [h1, h2] using e
      have e2 : d1 = d0 := h.defers
      rw [e1, e2]
    rw [this]; exact hq
  | (d, R) :: I, a, a1, w1, hn, hk, hr, h, hq => by
    have hd : R.holds (a1.tmps.getD d undef) w1 := by
      have := h.slot d
      unfold slotIs at this
      rw [List.lookup_cons] at this
      simpa using this
    simp only [List.map_cons, List.nodup_cons] at hk
    have hdn : d < a.tmps.size := by rw [hn]; exact hr d (by simp)
    refine rep_fin I (a.put (some d) (a1.tmps.getD d undef)) a1 w1 (by rw [put_size]; exact hn) hk.2 (fun d' hd' => hr d' (by simp only [List.map_cons, List.mem_cons]; exact .inr hd')) ⟨h.world, by rw [put_defers]; exact h.defers, by rw [put_size]; exact h.size, fun t => ?_⟩ (hq _ hd)
    by_cases ht : t = d
    · subst ht
      have hno : I.lookup t = none := by
        cases hl : I.lookup t with
        | none => rfl
        | some R' =>
          exfalso
          have := List.lookup_eq_some_iff.1 hl
          obtain ⟨l1, l2, e, _⟩ := this
          exact hk.1 (by rw [e]; simp)
      unfold slotIs
      rw [hno]
      simp only
      rw [put_getD a t t _ hdn, if_pos rfl]
    · have := h.slot t
      unfold slotIs at this ⊢
      rw [List.lookup_cons] at this
      have hb : (t == d) = false := by simpa using ht
      simp only [hb] at this
      rw [put_getD a d t _ hdn, if_neg ht]
      exact this

theorem wpT_end (hk : ((I.map (·.1)).Nodup && (I.map (·.1)).all (· < a.tmps.size)) = true) (h : ∀ w, C w → FinQ Q I a w) : wpT P ops C Q [] I a := fun a1 w1 hr => by
  simp only [Bool.and_eq_true, decide_eq_true_eq, List.all_eq_true] at hk
  exact rep_fin I a a1 w1 rfl hk.1 hk.2 hr (h w1 hr.world)
end steps


/-! ### The same over a frame that is a list -/
section lists
variable {Q : Act → World → Prop} {o : Oper} {rest : List Oper} {I : Lx} {fs : List Value} {ds : List Deferred}

def mkA (fs : List Value) (ds : List Deferred) : Act := ⟨fs.toArray, ds⟩
def setL (fs : List Value) (d : Option Tmp) (v : Value) : List Value := match d with | some d => fs.set d v | none => fs
theorem mkA_put (d : Option Tmp) (v : Value) : (mkA fs ds).put d v = mkA (setL fs d v) ds := by
  cases d with
  | none => rfl
  | some d => simp [mkA, setL, Act.put]

/-- what an operand is -/
def ev (fs : List Value) : Operand → Value
  | .tmp t => fs.getD t undef
  | .const v => v
  | .global g => .pointer (some ⟨g, 0, none⟩)
  | .func f => .func (.func f) #[] #[]
theorem mkA_eval (x : Operand) : (mkA fs ds).eval x = ev fs x := by
  cases x with
  | tmp t => simp [mkA, ev, Act.eval]
  | _ => rfl
theorem mkA_evalF : (mkA fs ds).eval = ev fs := funext mkA_eval

def wantedL (ops : Array Oper) (fs : List Value) (o : Oper) : Bool :=
  match o.guard with
  | none => true
  | some (g, want) => match (ops.toList[g]?).bind (·.dst) with
    | none => Region.wanted o (fun _ => none)
    | some d => match fs[d]? with
      | some (.bool b) => Region.wanted o (fun _ => some b)
      | _ => Region.wanted o (fun _ => none)

theorem wantedL_eq : Region.wanted o (yielded ops (mkA fs ds).tmps) = wantedL ops fs o := by
  unfold wantedL Region.wanted
  cases hg : o.guard with
  | none => rfl
  | some gw =>
    obtain ⟨g, want⟩ := gw
    have e : ops.toList[g]? = ops[g]? := by simp
    simp only [e]
    have hy : yielded ops (mkA fs ds).tmps g = match (ops[g]?).bind (·.dst) with | none => none | some d => match fs[d]? with | some (.bool b) => some b | _ => none := by
      unfold yielded
      cases hd : (ops[g]?).bind (·.dst) with
      | none => rfl
      | some d =>
        simp only [mkA, Option.bind_some, List.getElem?_toArray]
        cases fs[d]? with
        | none => rfl
        | some v => cases v <;> rfl
    simp only [hy]
    cases hd : (ops[g]?).bind (·.dst) with
    | none => rfl
    | some d =>
      simp only
      cases fs[d]? with
      | none => rfl
      | some v => cases v <;> rfl

/-- THE WALK over a list -/
def wpL (P : Program) (ops : Array Oper) (C : World → Prop) (Q : Act → World → Prop) (ds : List Deferred) (l : List Oper) (I : Lx) (fs : List Value) : Prop := wpT P ops C Q l I (mkA fs ds)

theorem wp_lax_list {id : Nat} {Q : Exit → Act → World → Prop} {w : World} {l : List Oper} (hm : P.follows .mixedOrders = true) (hB : Region.lexB .any l.toArray = true) (hD : dstsB l fs.length = true)
    (h : wpL P l.toArray (Below w.heap.size w) (fun a' w' => Q .normal a' w') ds l [] fs) : (Code.region id l.toArray true).wp P Q ⟨fs.toArray, ds⟩ w :=
  wp_region_lax hm hB (by simpa using hD) h

/-- with a store at the region's end -/
theorem wp_laxT_list {id : Nat} {Q : Exit → Act → World → Prop} {w : World} {l : List Oper} (n : Nat) (hn : l.length = n + 1) (hm : P.follows .mixedOrders = true) (hB : Region.lexB .any l.toArray = true) (hD : dstsB l fs.length = true) (hW : waitsB l = true)
    (h : wpL P l.toArray (Below w.heap.size w) (fun a' w' => wpList P l.toArray Q (l.drop n) a' w') ds (l.take n) [] fs) : (Code.region id l.toArray true).wp P Q ⟨fs.toArray, ds⟩ w :=
  wp_region_laxT n hn hm hB (by simpa using hD) hW h

theorem wpL_move {x : Operand} (v : Value) (ho : o.op = .move x) (hv : ev fs x = v) (hx : known I x = true) (hg : guardKnown ops o I = true) (hw : wantedL ops fs o = true) (k : wpL P ops C Q ds rest I (setL fs o.dst v)) : wpL P ops C Q ds (o :: rest) I fs :=
  wpT_move v ho ((mkA_eval x).trans hv) hx hg (wantedL_eq.trans hw) (by rw [mkA_put]; exact k)
theorem wpL_assign {x : Operand} (v : Value) (ho : o.op = .assign x) (hv : ev fs x = v) (hx : known I x = true) (hg : guardKnown ops o I = true) (hw : wantedL ops fs o = true) (k : wpL P ops C Q ds rest I (setL fs o.dst v)) : wpL P ops C Q ds (o :: rest) I fs :=
  wpT_assign v ho ((mkA_eval x).trans hv) hx hg (wantedL_eq.trans hw) (by rw [mkA_put]; exact k)
theorem wpL_run (v : Value) (hs : notSelect o = true) (hl : (o.op.operands.toList.all (known I)) = true) (hg : guardKnown ops o I = true) (hw : wantedL ops fs o = true)
    (hrun : ∀ w, C w → (execOp (ev fs) o).run P w = .ok (.value v) w) (k : wpL P ops C Q ds rest I (setL fs o.dst v)) : wpL P ops C Q ds (o :: rest) I fs :=
  wpT_run v hs hl hg (wantedL_eq.trans hw) (by rw [mkA_evalF]; exact hrun) (by rw [mkA_put]; exact k)
theorem wpL_runT {d : Tmp} (R : Ty) (hd : o.dst = some d) (hs : notSelect o = true) (hl : (o.op.operands.toList.all (known I)) = true) (hg : guardKnown ops o I = true) (hw : wantedL ops fs o = true)
    (hrun : ∀ w, C w → ∃ v w', (execOp (ev fs) o).run P w = .ok (.value v) w' ∧ R.holds v w' ∧ Below w.heap.size w w') (k : wpL P ops C Q ds rest ((d, R) :: I) fs) : wpL P ops C Q ds (o :: rest) I fs :=
  wpT_runT R hd hs hl hg (wantedL_eq.trans hw) (by rw [mkA_evalF]; exact hrun) k
theorem wpL_convK {x : Operand} {src dst : TypeId} (u v : Value) (ho : o.op = .convert src dst x) (hu : ev fs x = u) (hx : known I x = true) (hg : guardKnown ops o I = true) (hw : wantedL ops fs o = true)
    (hc : ∀ w, C w → (convert src dst u).run P w = .ok v w) (k : wpL P ops C Q ds rest I (setL fs o.dst v)) : wpL P ops C Q ds (o :: rest) I fs :=
  wpT_convK v ho hx hg (wantedL_eq.trans hw) (fun w h => by rw [mkA_eval, hu]; exact hc w h) (by rw [mkA_put]; exact k)
theorem wpL_call (v : Value) {f : FuncId} (args : Array Value) (hs : notSelect o = true) (hl : (o.op.operands.toList.all (known I)) = true) (hg : guardKnown ops o I = true) (hw : wantedL ops fs o = true)
    (hent : ∀ w, (execOp (ev fs) o).run P w = .ok (.enter f args) w) (hc : ∀ w, C w → Calls P f args w fun e w' => e = .returned v ∧ Below w.heap.size w w') (k : wpL P ops C Q ds rest I (setL fs o.dst v)) : wpL P ops C Q ds (o :: rest) I fs :=
  wpT_call v args hs hl hg (wantedL_eq.trans hw) (by rw [mkA_evalF]; exact hent) hc (by rw [mkA_put]; exact k)
theorem wpL_callUV {t : Tmp} {R : Ty} (v : Value) {f : FuncId} (args : Value → Array Value) (hx : I.lookup t = some R) (hm : (Operand.tmp t) ∈ o.op.operands) (hs : notSelect o = true) (hl : (o.op.operands.toList.all fun x => known I x || isTmp t x) = true) (hg : guardKnown ops o I = true) (hw : wantedL ops fs o = true)
    (hent : ∀ (u : Value) w (ρ : Operand → Value), ρ (.tmp t) = u → (∀ x, known I x = true → ρ x = ev fs x) → (execOp ρ o).run P w = .ok (.enter f (args u)) w)
    (hc : ∀ (u : Value) w, C w → R.holds u w → Calls P f (args u) w fun e w' => e = .returned v ∧ Below w.heap.size w w') (k : wpL P ops C Q ds rest I (setL fs o.dst v)) : wpL P ops C Q ds (o :: rest) I fs :=
  wpT_callUV v args hx hm hs hl hg (wantedL_eq.trans hw) (fun u w ρ h1 h2 => hent u w ρ h1 (fun x hx => (h2 x hx).trans (mkA_eval x))) hc (by rw [mkA_put]; exact k)

/-- run against a frame that is a variable, from what its operands are -/
theorem wpL_run1 {x : Operand} (vx v : Value) (hx : ev fs x = vx) (hs : notSelect o = true) (hl : (o.op.operands.toList.all (known I)) = true) (hg : guardKnown ops o I = true) (hw : wantedL ops fs o = true)
    (hrun : ∀ w (ρ : Operand → Value), C w → ρ x = vx → (∀ c, ρ (.const c) = c) → (execOp ρ o).run P w = .ok (.value v) w) (k : wpL P ops C Q ds rest I (setL fs o.dst v)) : wpL P ops C Q ds (o :: rest) I fs :=
  wpL_run v hs hl hg hw (fun w hC => hrun w _ hC hx fun _ => rfl) k
theorem wpL_run2 {x y : Operand} (vx vy v : Value) (hx : ev fs x = vx) (hy : ev fs y = vy) (hs : notSelect o = true) (hl : (o.op.operands.toList.all (known I)) = true) (hg : guardKnown ops o I = true) (hw : wantedL ops fs o = true)
    (hrun : ∀ w (ρ : Operand → Value), C w → ρ x = vx → ρ y = vy → (∀ c, ρ (.const c) = c) → (execOp ρ o).run P w = .ok (.value v) w) (k : wpL P ops C Q ds rest I (setL fs o.dst v)) : wpL P ops C Q ds (o :: rest) I fs :=
  wpL_run v hs hl hg hw (fun w hC => hrun w _ hC hx hy fun _ => rfl) k
theorem enter_of {P : Program} {f : FuncId} {xs : List Operand} {ts : Array TypeId} {o : Oper} {w : World} (ho : o.op = .call { callee := .value (.func f), args := xs.toArray, argTypes := ts }) (ρ : Operand → Value) (hρ : ρ (.func f) = .func (.func f) #[] #[])
    (hfn : ∀ (args : Array Value) w, (callFunc f args).run P w = .ok (.enter f args) w) : (execOp ρ o).run P w = .ok (.enter f (xs.map ρ).toArray) w := by
  simp [execOp, ho, resolve, hρ, Deferred.ofValue, invoke, go_sem, hfn]

theorem all_known {f : FuncId} {xs : List Operand} {ts : Array TypeId} (ho : o.op = .call { callee := .value (.func f), args := xs.toArray, argTypes := ts }) (hk : xs.all (known I) = true) : o.op.operands.toList.all (known I) = true := by
  rw [ho]
  simp [Op.operands, Call.operands, known] at *
  exact hk

/-- a call over known slots: its arguments by looking -/
theorem wpL_fn (v : Value) {f : FuncId} {xs : List Operand} {ts : Array TypeId} (args : List Value) (ho : o.op = .call { callee := .value (.func f), args := xs.toArray, argTypes := ts }) (ha : xs.map (ev fs) = args) (hk : xs.all (known I) = true) (hg : guardKnown ops o I = true) (hw : wantedL ops fs o = true)
    (hfn : ∀ (args : Array Value) w, (callFunc f args).run P w = .ok (.enter f args) w) (hc : ∀ w, C w → Calls P f args.toArray w fun e w' => e = .returned v ∧ Below w.heap.size w w') (k : wpL P ops C Q ds rest I (setL fs o.dst v)) : wpL P ops C Q ds (o :: rest) I fs :=
  wpL_call v args.toArray (by simp [notSelect, ho]) (all_known ho hk) hg hw (fun w => by rw [enter_of ho _ rfl hfn, ha]) hc k
theorem wpL_fnUV {t : Tmp} {R : Ty} (v : Value) {f : FuncId} {ts : Array TypeId} (ho : o.op = .call { callee := .value (.func f), args := #[.tmp t], argTypes := ts }) (hx : I.lookup t = some R) (hg : guardKnown ops o I = true) (hw : wantedL ops fs o = true)
    (hfn : ∀ (args : Array Value) w, (callFunc f args).run P w = .ok (.enter f args) w) (hc : ∀ (u : Value) w, C w → R.holds u w → Calls P f #[u] w fun e w' => e = .returned v ∧ Below w.heap.size w w') (k : wpL P ops C Q ds rest I (setL fs o.dst v)) : wpL P ops C Q ds (o :: rest) I fs :=
  wpL_callUV v (fun u => #[u]) hx (by rw [ho]; simp [Op.operands, Call.operands]) (by simp [notSelect, ho]) (by rw [ho]; simp [Op.operands, Call.operands, known, isTmp]) hg hw
    (fun u w ρ h1 h2 => by rw [enter_of (xs := [.tmp t]) ho ρ (h2 (.func f) rfl) hfn]; simp [h1]) hc k

/-- what is asked at the end -/
def FinL (Q : Act → World → Prop) (ds : List Deferred) : Lx → List Value → World → Prop
  | [], fs, w => Q ⟨fs.toArray, ds⟩ w
  | (d, R) :: I, fs, w => ∀ v, R.holds v w → FinL Q ds I (fs.set d v) w
theorem finL_finQ : ∀ (I : Lx) (fs : List Value) (w : World), FinL Q ds I fs w → FinQ Q I (mkA fs ds) w
  | [], _, _, h => h
  | (d, R) :: I, fs, w, h => fun v hv => by rw [mkA_put]; exact finL_finQ I _ w (h v hv)
theorem wpL_end (hk : ((I.map (·.1)).Nodup && (I.map (·.1)).all (· < fs.length)) = true) (h : ∀ w, C w → FinL Q ds I fs w) : wpL P ops C Q ds [] I fs :=
  wpT_end (by simpa [mkA] using hk) (fun w hw => finL_finQ I fs w (h w hw))
end lists

end
end Go.Own

end
section
namespace Go.Own
open Go.RowKit
section
variable {B : Nat} {w0 w w1 w2 : World} {Ps : List Asn}
/-- something that came behind w1 -/
theorem St.adopt (H : St B w0 w1 Ps) (g : Below w1.heap.size w1 w2) {T : Nat → Prop} (Q : Asn) (hQ : Q.holds T w2) (hT : ∀ k, T k → w1.heap.size ≤ k) : St B w0 w2 (Q :: Ps) := by
  obtain ⟨hb, hs, S, ha, hB⟩ := H
  have hst : Step (fun _ => False) (fun _ => False) w1 w2 := ⟨g.os, g.tape, g.output, g.size, fun k hk _ => g.block k hk, fun _ h => h.elim⟩
  refine ⟨hb.trans (g.mono hs), Nat.le_trans hs g.size, fun k => T k ∨ S k, ⟨T, S, hQ, ha.keep hst (fun _ _ h => h), fun k h1 h2 => ?_, fun k => Iff.rfl⟩, fun k hk => hk.elim (fun h => Nat.le_trans hs (hT k h)) (hB k)⟩
  have := hT k h1
  have := ha.lt k h2
  omega
/-- the second is let go -/
theorem St.drop2 {P Q : Asn} (H : St B w0 w (P :: Q :: Ps)) : St B w0 w (P :: Ps) := (H.perm (List.Perm.swap Q P Ps)).drop 1
theorem St.swap2 {P Q : Asn} (H : St B w0 w (P :: Q :: Ps)) : St B w0 w (Q :: P :: Ps) := H.perm (List.Perm.swap Q P Ps)
end
end Go.Own
namespace Go.Proofs.YtllmogicmimjlaaDoor
open Go.RowKit Go.Own
namespace Byt

section
variable {B : Nat} {w0 : World}
theorem ab_setCells {g n cap : Nat} (i : Nat) : ∀ (r : List UInt8) (o : Nat) (w : World) (Ps : List Asn) (l : List UInt8), Own.St B w0 w Ps → Ps[i]? = some (AB (some ⟨g, 0, none⟩) n cap l) → o + r.length ≤ n →
    Own.St B w0 (w.setCells g o (r.map byteV)) (Ps.set i (AB (some ⟨g, 0, none⟩) n cap (l.take o ++ r ++ l.drop (o + r.length))))
  | [], o, w, Ps, l, h, hi, hl => by
    have e : l.take o ++ [] ++ l.drop (o + ([] : List UInt8).length) = l := by simp
    rw [e]
    have hs : Ps.set i (AB (some ⟨g, 0, none⟩) n cap l) = Ps := by
      apply List.ext_getElem?
      intro j
      by_cases hj : j = i
      · subst hj
        rw [List.getElem?_set_self (List.getElem?_eq_some_iff.1 hi).1, hi]
      · rw [List.getElem?_set_ne (Ne.symm hj)]
    rw [hs]
    exact h
  | c :: r, o, w, Ps, l, h, hi, hl => by
    have hlen := (ab_len h i hi).1
    have hon : o < n := by simp at hl; omega
    obtain ⟨g', hg', _, _, put⟩ := ab_byte h i hi o hon
    cases hg'
    have hlt : i < Ps.length := (List.getElem?_eq_some_iff.1 hi).1
    have h2 := ab_setCells i r (o + 1) _ _ (l.set o c) (put c) (by rw [List.getElem?_set_self hlt]) (by simp at hl ⊢; omega)
    rw [List.set_set] at h2
    have e : (l.set o c).take (o + 1) ++ r ++ (l.set o c).drop (o + 1 + r.length) = l.take o ++ (c :: r) ++ l.drop (o + (c :: r).length) := by
      have ho : o < l.length := by omega
      have e0 : (l.set o c).take o = l.take o := by
        apply List.ext_getElem?
        intro j
        by_cases hj : j < o
        · rw [List.getElem?_take_of_lt hj, List.getElem?_take_of_lt hj, List.getElem?_set_ne (by omega)]
        · rw [List.getElem?_eq_none (by simp; omega), List.getElem?_eq_none (by simp; omega)]
      have e1 : (l.set o c).drop (o + 1 + r.length) = l.drop (o + (c :: r).length) := by
        apply List.ext_getElem?
        intro j
        rw [List.getElem?_drop, List.getElem?_drop, List.getElem?_set_ne (by omega)]
        congr 1
        simp
        omega
      rw [List.take_succ_eq_append_getElem (by simpa using ho), e0, e1]
      simp
    rw [e] at h2
    exact h2
theorem info8 : (Tryd.prog.info? 5).map (·.size) = some 1 := by kernel_rfl
end
/-- a slot that reads as these bytes -/
def tyG (l : List UInt8) : Ty := ⟨fun v w => ∃ ao c, v = .slice ao l.length c ∧ Given w ao l.length c l, fun ⟨ao, c, h1, h2⟩ g => ⟨ao, c, h1, h2.later g⟩⟩
theorem tyG_str {l : List UInt8} {v : Value} {w : World} (h : (tyG l).holds v w) : (convert 22 9 v).run Tryd.prog w = .ok (.string (strB l)) w := by
  obtain ⟨ao, c, rfl, g⟩ := h
  exact run_str (P := Tryd.prog) 22 5 9 Tryd.underlying22 Tryd.underlying5 Tryd.underlying9 g.view c
end Byt
end Go.Proofs.YtllmogicmimjlaaDoor

end
section
namespace Go.Own
open Go.RowKit

/-- an object with some choice in it -/
def AEx {α : Type} (P : α → Asn) : Asn := ⟨fun S w => ∃ x, (P x).holds S w, fun ⟨x, h⟩ g hd => ⟨x, (P x).keep h g hd⟩, fun ⟨x, h⟩ => (P x).lt h⟩
section
variable {B : Nat} {w0 w w' : World} {Ps Qs : List Asn} {α : Type} {P : α → Asn}
theorem St.openE (h : St B w0 w (AEx P :: Ps)) : ∃ x, St B w0 w (P x :: Ps) := by
  obtain ⟨hb, hs, S, ⟨S1, S2, ⟨x, h1⟩, h2, h3, h4⟩, hB⟩ := h
  exact ⟨x, hb, hs, S, ⟨S1, S2, h1, h2, h3, h4⟩, hB⟩
theorem St.closeE (x : α) (h : St B w0 w (P x :: Ps)) : St B w0 w (AEx P :: Ps) := by
  obtain ⟨hb, hs, S, ⟨S1, S2, h1, h2, h3, h4⟩, hB⟩ := h
  exact ⟨hb, hs, S, ⟨S1, S2, ⟨x, h1⟩, h2, h3, h4⟩, hB⟩

variable {e : TypeId} {size n cap : Nat} {ao : Option Addr} {xs : List Value}
theorem St.rowLen (H : St B w0 w Ps) (i : Nat) (hi : Ps[i]? = some (ARow e size (.slice ao n cap) n xs)) : xs.length = n * size ∧ n ≤ cap ∧ cap ≤ maxLen ∧ (ao = none → n = 0 ∧ cap = 0) := by
  obtain ⟨S, hS, _⟩ := H.at i hi
  obtain ⟨ao', cap', hv, h1, h2, h3, _⟩ := Row.form hS
  simp only [Value.slice.injEq, true_and] at hv
  obtain ⟨rfl, rfl⟩ := hv
  exact ⟨hS.own.1, h1, h2, fun h => ⟨(h3 h).1, (h3 h).2.1⟩⟩
theorem St.rowForm {v : Value} (H : St B w0 w Ps) (i : Nat) (hi : Ps[i]? = some (ARow e size v n xs)) : ∃ ao cap, v = .slice ao n cap := by
  obtain ⟨S, hS, _⟩ := H.at i hi
  obtain ⟨ao', cap', hv, _⟩ := Row.form hS
  exact ⟨ao', cap', hv⟩
/-- one cell of a row of one's own: read, stored -/
theorem St.rowAt (H : St B w0 w Ps) (i : Nat) (hi : Ps[i]? = some (ARow e size (.slice ao n cap) n xs)) (j : Nat) (hj : j < n * size) :
    ∃ g, ao = some ⟨g, 0, none⟩ ∧ (∃ u, xs[j]? = some u ∧ w.cell? ⟨g, j, none⟩ = some u) ∧ w.frozen? ⟨g, j, none⟩ = false ∧
      ∀ u : Value, St B w0 (w.setCell ⟨g, j, none⟩ u) (Ps.set i (ARow e size (.slice ao n cap) n (xs.set j u))) := by
  obtain ⟨S, hS, _, put⟩ := H.at i hi
  have hlen := (H.rowLen i hi).1
  obtain ⟨hown, hset⟩ := hS
  rcases hown.2 with ⟨hv, rfl⟩ | ⟨g, cap', cur, hv, h0, hb, hnc, hcm, hcs, htake⟩
  · omega
  · simp only [Value.slice.injEq, true_and] at hv
    obtain ⟨rfl, rfl⟩ := hv
    have hx : xs[j]? = some xs[j] := List.getElem?_eq_getElem (by omega)
    have hcur : cur[j]? = some xs[j] := by
      have : (cur.toList.take (n * size))[j]? = xs[j]? := by rw [htake]
      rw [List.getElem?_take_of_lt hj] at this
      rw [← Array.getElem?_toList, this, hx]
    refine ⟨g, rfl, ⟨_, hx, cell_of_block hb hcur⟩, frozen_of_block hb, fun u => ?_⟩
    exact put S _ (ARow e size (.slice (some ⟨g, 0, none⟩) n cap) n (xs.set j u)) ⟨(hown.stored j u).1, hset⟩ ((Step.refl S w).setCell (a := ⟨g, j, none⟩) (Or.inl ((hset g).2 rfl)) _)
/-- two cells side by side -/
theorem St.rowFresh (H : St B w0 w Ps) : St B w0 w (ARow e size (.slice none 0 0) 0 [] :: Ps) :=
  H.new (S' := fun _ => False) (ARow e size _ 0 []) (Row.nil w e size) (Step.refl (fun _ => False) w)
end

/-! ### a table of rows: [][]T, where an element of T has one cell -/
section
variable {t e : TypeId} {α : Type} {enc : α → Value}
abbrev gsl (r : Option Addr × Nat) (n : Nat) : Value := .slice r.1 n r.2
def gRow (e : TypeId) (enc : α → Value) (r : Option Addr × Nat) (row : List α) : Asn := ARow e 1 (gsl r row.length) row.length (row.map enc)
def gOuter (t : TypeId) (v : Value) (rs : List (Option Addr × Nat)) (rows : List (List α)) : Asn := ARow t 1 v rows.length (List.zipWith (fun r row => gsl r row.length) rs rows)
/-- opened: the outer row, and then the inner ones -/
def gParts (t e : TypeId) (enc : α → Value) (v : Value) (rs : List (Option Addr × Nat)) (rows : List (List α)) : List Asn := gOuter t v rs rows :: List.zipWith (gRow e enc) rs rows
def AGrid (t e : TypeId) (enc : α → Value) (v : Value) (rows : List (List α)) : Asn := AEx (α := { rs : List (Option Addr × Nat) // rs.length = rows.length }) fun rs => AJoin (gParts t e enc v rs.1 rows)

variable {B : Nat} {w0 w w' : World} {Ps Qs : List Asn} {v : Value} {rows : List (List α)}
theorem St.gridOpen (h : St B w0 w (AGrid t e enc v rows :: Ps)) : ∃ rs, rs.length = rows.length ∧ St B w0 w (gParts t e enc v rs rows ++ Ps) := by
  obtain ⟨⟨rs, hl⟩, h⟩ := h.openE
  exact ⟨rs, hl, h.openJ⟩
theorem St.gridClose {rs : List (Option Addr × Nat)} (hl : rs.length = rows.length) (h : St B w0 w (gParts t e enc v rs rows ++ Ps)) : St B w0 w (AGrid t e enc v rows :: Ps) :=
  St.closeE (α := { rs : List (Option Addr × Nat) // rs.length = rows.length }) (P := fun rs => AJoin (gParts t e enc v rs.1 rows)) ⟨rs, hl⟩ h.closeJ
theorem zip_at {β γ δ : Type} (f : β → γ → δ) (rs : List β) (xs : List γ) (i : Nat) (r : β) (x : γ) (h1 : rs[i]? = some r) (h2 : xs[i]? = some x) : (List.zipWith f rs xs)[i]? = some (f r x) := by
  rw [List.getElem?_zipWith, h1, h2]
end

/-! ### one more: onto a row of elements of one cell, onto a table -/
/-- what the type of an element is like -/
structure One (P : Program) (t e : TypeId) (z : Value) (bytes : Nat) : Prop where
  slice : P.underlying t = some (.slice e)
  info : (P.info? e).map (fun i => (i.zero, i.size, i.bytes)) = some (some z, 1, bytes)
  cell : z.cells.size = 1
theorem info_parts' {P : Program} {e : TypeId} {z : Value} {bytes : Nat} (h : (P.info? e).map (fun i => (i.zero, i.size, i.bytes)) = some (some z, 1, bytes)) : ∃ i, P.info? e = some i ∧ i.zero = some z ∧ i.size = 1 ∧ i.bytes = bytes := by
  obtain ⟨i, h1, h2⟩ := Option.map_eq_some_iff.1 h
  simp only [Prod.mk.injEq] at h2
  exact ⟨i, h1, h2.1, h2.2.1, h2.2.2⟩
section
variable {P : Program} {t e : TypeId} {z : Value} {bytes : Nat} {B : Nat} {w0 w : World} {Ps : List Asn} {v : Value}
theorem wpList_one_append {ops : Array Oper} {rest : List Oper} {o : Oper} {a : Act} {Q : Exit → Act → World → Prop} (O : One P t e z bytes) (hgd : o.guard = none) (s x : Operand)
    (ho : o.op = .call { callee := .builtin .append, args := #[s, x], argTypes := #[t, t] }) (H : St B w0 w Ps) (i : Nat) {n : Nat} {xs : List Value} (hi : Ps[i]? = some (ARow e 1 v n xs)) (hs : a.eval s = v)
    (bo : Addr) (y : Value) (hx : a.eval x = .slice (some bo) 1 1) (hbo : bo.spot = none) (hc : w.cell? bo = some y) (h1 : y.oneCell' = true) (b1 : n + 1 ≤ 100000000) (b2 : bytes ≤ 1000)
    (h : ∀ ao' cap' w', St B w0 w' (Ps.set i (ARow e 1 (.slice ao' (n + 1) cap') (n + 1) (xs ++ [y]))) → wpList P ops Q rest (a.put o.dst (.slice ao' (n + 1) cap')) w') : wpList P ops Q (o :: rest) a w := by
  obtain ⟨i0, hi0, hz0, hz1, hz2⟩ := info_parts' O.info
  obtain ⟨S, hS, _, put⟩ := H.at i hi
  refine wpList_append_row hgd s x t ho e i0 z 1 bytes O.slice hi0 hz0 hz1 hz2 O.cell (by decide) v n xs hs hS (some bo) 1 1 [y] hx (by intro h; cases h) rfl (fun a ha j u hu => ?_) (fun u hu => by simp at hu; subst hu; exact h1) (by unfold maxLen; omega) ?_ ?_
  · cases ha
    match j, hu with
    | 0, hu =>
      simp only [List.getElem?_cons_zero, Option.some.injEq] at hu
      subst hu
      obtain ⟨b, o, sp⟩ := bo
      simp only at hbo
      subst hbo
      exact hc
  · exact Nat.le_trans (Nat.mul_le_mul b1 b2) (by decide)
  · intro v' w' T' hrow hst
    obtain ⟨ao', cap', rfl, _⟩ := hrow.form
    exact h ao' cap' w' (put T' w' (ARow e 1 (.slice ao' (n + 1) cap') (n + 1) (xs ++ [y])) hrow hst)
/-- a row onto a table: it becomes part of it -/
theorem wpList_grid_append {ops : Array Oper} {rest : List Oper} {o : Oper} {a : Act} {Q : Exit → Act → World → Prop} {α : Type} {enc : α → Value} {t2 : TypeId} (O : One P t2 t z bytes) (hgd : o.guard = none) (s x : Operand)
    (ho : o.op = .call { callee := .builtin .append, args := #[s, x], argTypes := #[t2, t2] }) {row : List α} {rows : List (List α)} {ao : Option Addr} {cap : Nat} (H : St B w0 w (AGrid t e enc v rows :: ARow e 1 (.slice ao row.length cap) row.length (row.map enc) :: Ps)) (hs : a.eval s = v)
    (bo : Addr) (hx : a.eval x = .slice (some bo) 1 1) (hbo : bo.spot = none) (hc : w.cell? bo = some (.slice ao row.length cap)) (b1 : rows.length + 1 ≤ 100000000) (b2 : bytes ≤ 1000)
    (h : ∀ ao' cap' w', St B w0 w' (AGrid t e enc (.slice ao' (rows.length + 1) cap') (rows ++ [row]) :: Ps) → wpList P ops Q rest (a.put o.dst (.slice ao' (rows.length + 1) cap')) w') : wpList P ops Q (o :: rest) a w := by
  obtain ⟨rs, hl, hg⟩ := H.gridOpen
  refine wpList_one_append O hgd s x ho hg 0 (n := rows.length) (xs := List.zipWith (fun r row => gsl r row.length) rs rows) rfl hs bo _ hx hbo hc rfl b1 b2 ?_
  intro ao' cap' w' h'
  refine h ao' cap' w' (St.gridClose (rs := rs ++ [(ao, cap)]) (by simp [hl]) ?_)
  have e1 : gParts t e enc (.slice ao' (rows.length + 1) cap') (rs ++ [(ao, cap)]) (rows ++ [row]) ++ Ps
      = (gParts t e enc v rs rows ++ ARow e 1 (.slice ao row.length cap) row.length (row.map enc) :: Ps).set 0 (ARow t 1 (.slice ao' (rows.length + 1) cap') (rows.length + 1) (List.zipWith (fun r row => gsl r row.length) rs rows ++ [.slice ao row.length cap])) := by
    unfold gParts gOuter
    rw [List.zipWith_append hl, List.zipWith_append hl, List.length_append, List.length_singleton, List.cons_append, List.cons_append, List.set_cons_zero, List.append_assoc]
    rfl
  rw [e1]
  exact h'
/-- no rows -/
theorem St.gridNil {α : Type} {enc : α → Value} (H : St B w0 w Ps) : St B w0 w (AGrid t e enc (.slice none 0 0) [] :: Ps) :=
  St.gridClose (rs := []) rfl H.rowFresh
end
end Go.Own

end
section
namespace Go.Proofs.YtllmogicmimjlaaDoor
open Go.RowKit Go.Own
namespace Byt
abbrev strV (b : List UInt8) : Value := .string (strB b)
theorem neq_str {o : Oper} {x y : Tmp} (ho : o.op = .binOp .neq 9 (.tmp x) (.tmp y) 9) (a b : List UInt8) (v : Bool) (hv : decide (a = b) = !v) (ρ : Operand → Value) (w : World) (h0 : ρ (.tmp x) = strV a) (h1 : ρ (.tmp y) = strV b) :
    (execOp ρ o).run Tryd.prog w = .ok (.value (.bool v)) w := by
  simp only [execOp, ho, h0, h1]
  cases v <;> simp at hv <;> simp [go_sem, strB_toList, hv]
end Byt
end Go.Proofs.YtllmogicmimjlaaDoor

end
section
namespace Go.Proofs.YtllmogicmimjlaaDoor
open Go.RowKit Go.Own
namespace Pag
open Go.PagM Byt

abbrev errP (n : Nat) : Value := .int .i64 (n : Int)
/-- a frame as a value -/
abbrev frV (k : Nat) (a z : Bool) (d : Value) : Value := .agg #[.int .u8 (k : Int), .bool a, .bool z, d]
abbrev frC (k : Nat) (a z : Bool) (d : Value) : Array Value := #[.int .u8 (k : Int), .bool a, .bool z, d]
/-- an answer of Lay -/
def LayDone (x : PagM.Bs × Nat) (w : World) (e : Ending) (w' : World) : Prop := ∃ ao cap, e = .returned (.tuple #[.slice ao x.1.length cap, errP x.2]) ∧ Given w' ao x.1.length cap x.1 ∧ Below w.heap.size w w'
/-- .. and its bytes are one's own -/
def LayNew (x : PagM.Bs × Nat) (w : World) (e : Ending) (w' : World) : Prop := ∃ ao cap, e = .returned (.tuple #[.slice ao x.1.length cap, errP x.2]) ∧ Own.St w.heap.size w w' [AB ao x.1.length cap x.1]
theorem LayNew.done {x : PagM.Bs × Nat} {w : World} {e : Ending} {w' : World} (h : LayNew x w e w') : LayDone x w e w' := by
  obtain ⟨ao, cap, he, h⟩ := h
  exact ⟨ao, cap, he, given_own h 0 rfl, h.below⟩
end Pag
end Go.Proofs.YtllmogicmimjlaaDoor

end
section
namespace Go.Own
open Go.RowKit

def updL (L : Nat → Bool) (i : Nat) : Nat → Bool := fun j => if j = i then true else L j
section
variable {P : Program} {ops : Array Oper} {md : Region.Mode} {CL : (Nat → Bool) → World → Prop}
/-- what may be taken for granted when operation i comes up -/
structure Comes (ops : Array Oper) (md : Region.Mode) (i : Nat) (o : Oper) (L : Nat → Bool) : Prop where
  not : L i = false
  closed : ∀ (j : Nat) (oj : Oper), ops[j]? = some oj → L j = true → ∀ e ∈ oj.after, Region.binds md e = true → L e.on = true
  ready : ∀ e ∈ o.after, Region.binds md e = true → L e.on = true
inductive StepG (P : Program) (ops : Array Oper) (md : Region.Mode) (CL : (Nat → Bool) → World → Prop) (i : Nat) (o : Oper) (a : Act) : Act → Prop
  | skip (hw : Region.wanted o (yielded ops a.tmps) = false) (hq : ∀ L w, CL L w → Comes ops md i o L → CL (updL L i) w) : StepG P ops md CL i o a (a.put o.dst undef)
  | val (v : Value) (hw : Region.wanted o (yielded ops a.tmps) = true)
      (h : ∀ L a1 w, CL L w → Comes ops md i o L → (∀ t ∈ o.looksAt ops, a1.tmps.getD t undef = a.tmps.getD t undef) → ∀ (K : Act → World → Prop) (Q : Exit → Act → World → Prop), (∀ w', CL (updL L i) w' → K (a1.put o.dst v) w') → o.wp P a1 w K Q) : StepG P ops md CL i o a (a.put o.dst v)

theorem StepG.put {i : Nat} {o : Oper} {a a' : Act} (h : StepG P ops md CL i o a a') : ∃ v, a' = a.put o.dst v := by
  cases h with
  | skip => exact ⟨_, rfl⟩
  | val v => exact ⟨v, rfl⟩
end

/-! ### how far the chain is -/
section
variable {P : Program} {ops : Array Oper} {C : Nat → World → Prop} {E : List Nat}
/-! ### the walk -/
variable {Q : Act → World → Prop} {o : Oper} {rest : List Oper} {k : Nat} {fs : List Value} {ds : List Deferred}
end
end Go.Own

end
section
namespace Go.Proofs.YtllmogicmimjlaaDoor
open Go.RowKit Go.Own
namespace Pag
open Go.PagM Byt
/-- an answer of Take -/
def TakeDone (x : Frm × Nat) (w : World) (e : Ending) (w' : World) : Prop := ∃ ao cap, e = .returned (.tuple #[frV x.1.kind.toNat x.1.first x.1.last (.slice ao x.1.data.length cap), errP x.2]) ∧ Given w' ao x.1.data.length cap x.1.data ∧ Below w.heap.size w w'
theorem info_frame (cs : Array Value) (h : cs.size = 4) : (Tryd.prog.info? 62).map (·.size) = some cs.size := by
  have h0 : (Tryd.prog.info? 62).map (fun i => i.size) = some 4 := by kernel_rfl
  rw [h]
  exact h0
end Pag
end Go.Proofs.YtllmogicmimjlaaDoor

end
section
namespace Go.Proofs.YtllmogicmimjlaaDoor
open Go.RowKit Go.Own
namespace Byt
/-- a list of bytes that a call may be given -/
structure GivenL (w : World) (ao : Option Addr) (n cap : Nat) (L : List (List UInt8)) : Prop where
  size : L.length = n
  room : n ≤ cap ∧ cap ≤ maxLen
  nil : ao = none → cap = 0
  rows : ∀ j, j < n → ∃ b o aj cj, ao = some ⟨b, o, none⟩ ∧ b < w.heap.size ∧ w.cell? ⟨b, o + j, none⟩ = some (.slice aj (L.getD j []).length cj) ∧ Given w aj (L.getD j []).length cj (L.getD j [])
theorem GivenL.later {w w' : World} {ao : Option Addr} {n cap : Nat} {L : List (List UInt8)} (h : GivenL w ao n cap L) (g : Below w.heap.size w w') : GivenL w' ao n cap L :=
  ⟨h.size, h.room, h.nil, fun j hj => by
    obtain ⟨b, o, aj, cj, h1, h2, h3, h4⟩ := h.rows j hj
    exact ⟨b, o, aj, cj, h1, Nat.lt_of_lt_of_le h2 g.size, cellLater h3 g, h4.later g⟩⟩
theorem oneBytes : One Tryd.prog 38 22 (.slice none 0 0) 24 := ⟨Tryd.underlying38, by kernel_rfl, rfl⟩
end Byt
namespace Pag
open Go.PagM Byt
def SplitDone (x : List PagM.Bs × Nat) (w : World) (e : Ending) (w' : World) : Prop := ∃ ao cap, e = .returned (.tuple #[.slice ao x.1.length cap, errP x.2]) ∧ GivenL w' ao x.1.length cap x.1 ∧ Below w.heap.size w w'
theorem split_err (x : List PagM.Bs × Nat) (k : Nat) (hx : x = ([], k)) (w : World) : SplitDone x w (.returned (.tuple #[.slice none 0 0, errP k])) w := by
  subst hx
  exact ⟨none, 0, rfl, ⟨rfl, ⟨Nat.le_refl _, Nat.zero_le _⟩, fun _ => rfl, fun j hj => absurd hj (Nat.not_lt_zero j)⟩, Below.refl _ _⟩
def boolN : Value → Nat
  | .bool true => 1
  | _ => 0
end Pag
end Go.Proofs.YtllmogicmimjlaaDoor

end
section
namespace Go.Proofs.YtllmogicmimjlaaDoor
open Go.RowKit Go.Own
namespace Pag
open Go.PagM Byt
def JoinDone (x : (UInt8 × PagM.Bs × Nat) × Nat) (w : World) (e : Ending) (w' : World) : Prop := ∃ ao cap, e = .returned (.tuple #[.int .u8 (x.1.1.toNat : Int), .slice ao x.1.2.1.length cap, .int .i64 (x.1.2.2 : Int), errP x.2]) ∧ Given w' ao x.1.2.1.length cap x.1.2.1 ∧ Below w.heap.size w w'
theorem join_err (x : (UInt8 × PagM.Bs × Nat) × Nat) (hx : x = ((0, [], 0), 90)) {w w' : World} (h : Below w.heap.size w w') : JoinDone x w (.returned (.tuple #[.int .u8 0, .slice none 0 0, .int .i64 0, errP 90])) w' := by
  subst hx
  exact ⟨none, 0, rfl, ⟨.inl rfl, rfl, ⟨Nat.le_refl _, Nat.zero_le _⟩, fun _ => rfl⟩, h⟩
theorem joinF_at (i : Nat) (k : UInt8) (all : PagM.Bs) (L : List PagM.Bs) (h : i < L.length) (h64 : i < 64) : joinF i k all (L.drop i) = if !isPage (L.getD i []) || (guess (L.getD i [])).first != decide (i = 0) || (decide (0 < i) && (guess (L.getD i [])).kind != k) || (!(guess (L.getD i [])).last && decide ((guess (L.getD i [])).data.length ≠ 125)) then ((0, [], 0), 90)
    else if (guess (L.getD i [])).last then (((guess (L.getD i [])).kind, all ++ (guess (L.getD i [])).data, i + 1), 0)
    else joinF (i + 1) (guess (L.getD i [])).kind (all ++ (guess (L.getD i [])).data) (L.drop (i + 1)) := by
  rw [List.drop_eq_getElem_cons h, joinF, if_neg (by omega)]
  have e : L.getD i [] = L[i] := by rw [List.getD_eq_getElem?_getD, List.getElem?_eq_getElem h]; rfl
  rw [e]
end Pag
end Go.Proofs.YtllmogicmimjlaaDoor

end
section
namespace Go.PagM
end Go.PagM
namespace Go.Proofs.YtllmogicmimjlaaDoor
open Go.RowKit Go.Own
namespace Pag
open Go.PagM Byt
def RetYes (w : World) (e : Ending) (w' : World) : Prop := e = .returned (.bool true) ∧ Below w.heap.size w w'
/-- an answer of Take in memory of its own -/
def TakeNew (x : Frm × Nat) (w : World) (e : Ending) (w' : World) : Prop := ∃ ao cap, e = .returned (.tuple #[frV x.1.kind.toNat x.1.first x.1.last (.slice ao x.1.data.length cap), errP x.2]) ∧ Given w' ao x.1.data.length cap x.1.data ∧ View w' (fun k => w.heap.size ≤ k) ao x.1.data ∧ Below w.heap.size w w'
structure Kept (W : World) where
  take : ∀ {w : World} (ao : Option Addr) (n cap : Nat) (p : PagM.Bs), Below W.heap.size W w → Given w ao n cap p → n ≤ 1000000 →
    Calls Tryd.prog 26 #[.slice ao n cap] w (TakeNew (PagM.take p) w)
  split : ∀ {w : World} (kind : UInt8) (ao : Option Addr) (n cap : Nat) (p : PagM.Bs), Below W.heap.size W w → Given w ao n cap p → n ≤ 1000000 →
    Calls Tryd.prog 9 #[.int .u8 (kind.toNat : Int), .slice ao n cap] w (SplitDone (split kind p) w)
  join : ∀ {w : World} (ao : Option Addr) (n cap : Nat) (L : List PagM.Bs), Below W.heap.size W w → GivenL w ao n cap L → n ≤ 1000000 → (∀ p ∈ L, p.length ≤ 1000000) →
    Calls Tryd.prog 11 #[.slice ao n cap] w (JoinDone (join L) w)

end Pag
end Go.Proofs.YtllmogicmimjlaaDoor

end
section
namespace Go.Own
open Go.RowKit

theorem run_equalIn_ints {P : Program} (d : Nat) (t e : TypeId) (k : IntKind) (l m : List Int) (hlm : l.length = m.length) (ht : P.underlying t = some (.array l.length e)) (he : P.underlying e = some (.int k)) (hse : ∀ w, (sizeOf e).run P w = .ok 1 w) (ha : ∀ w, (isAgg e).run P w = .ok false w) (w : World) :
    (Op.equalIn (d + 2) t (.agg (l.map (Value.int k)).toArray) (.agg (m.map (Value.int k)).toArray)).run P w = .ok (decide (l = m)) w := by
  rw [show d + 2 = (d + 1) + 1 from rfl, Op.equalIn]
  simp only [Sem.run_bind, run_underlying ht, Result.andThen_ok]
  simp only [Std.Legacy.Range.forIn_eq_forIn_range', Std.Legacy.Range.size, Nat.sub_zero, Nat.add_sub_cancel, Nat.div_one]
  simp only [hse, Result.andThen_ok, Nat.mul_one]
  have part_at : ∀ (l : List Int) (j : Nat) (h : j < l.length), (part e (l.map (Value.int k)).toArray j).run P w = .ok (.int k l[j]) w := by
    intro l j h
    unfold part
    simp only [Sem.run_bind, ha, Result.andThen_ok]
    simp [h, go_sem]
  obtain ⟨g, hg⟩ : ∃ g : Nat → Option Bool × Unit → Sem (ForInStep (Option Bool × Unit)), g = (fun i __s => do
            let __do_lift ← part e (List.map (Value.int k) l).toArray i
            let __do_lift_1 ← part e (List.map (Value.int k) m).toArray i
            let __do_lift ← Op.equalIn (d + 1) e __do_lift __do_lift_1
            if (!__do_lift) = true then pure (ForInStep.done (some false, ())) else pure (ForInStep.yield (none, ()))) := ⟨_, rfl⟩
  have hrun : ∀ (j : Nat) (h1 : j < l.length) (h2 : j < m.length), (g j (none, ())).run P w = .ok (if l[j] = m[j] then ForInStep.yield (none, ()) else ForInStep.done (some false, ())) w := by
    intro j h1 h2
    rw [hg]
    simp only [Sem.run_bind, part_at l j h1, part_at m j h2, Result.andThen_ok, run_equalIn_int _ d e k k _ _ he]
    by_cases h : l[j] = m[j]
    · rw [if_pos h, h]; simp
    · rw [if_neg h]; simp [h]
  rw [← hg]
  clear hg
  have aux : ∀ (s j : Nat), j + s = l.length → (forIn (m := Sem) (List.range' j s) ((none, ()) : Option Bool × Unit) g).run P w =
      .ok (if l.drop j = m.drop j then (none, ()) else (some false, ())) w := by
    intro s
    induction s with
    | zero =>
      intro j hj
      rw [List.drop_eq_nil_of_le (by omega), List.drop_eq_nil_of_le (by omega)]
      simp
    | succ s ih =>
      intro j hj
      have h1 : j < l.length := by omega
      have h2 : j < m.length := by omega
      rw [List.range'_succ, List.forIn_cons, Sem.run_bind, hrun j h1 h2, Result.andThen_ok]
      have e1 : l.drop j = l[j] :: l.drop (j + 1) := List.drop_eq_getElem_cons h1
      have e2 : m.drop j = m[j] :: m.drop (j + 1) := List.drop_eq_getElem_cons h2
      by_cases h : l[j] = m[j]
      · rw [if_pos h]
        show (forIn (m := Sem) (List.range' (j + 1) s) ((none, ()) : Option Bool × Unit) g).run P w = _
        rw [ih (j + 1) (by omega), e1, e2, h]
        by_cases hd : l.drop (j + 1) = m.drop (j + 1)
        · rw [if_pos hd, if_pos (by rw [hd])]
        · rw [if_neg hd, if_neg (fun hc => hd (List.cons.inj hc).2)]
      · rw [if_neg h, if_neg]
        · simp
        · rw [e1, e2]
          intro hc
          exact h (List.cons.inj hc).1
  rw [aux l.length 0 (by omega)]
  simp only [List.drop_zero]
  by_cases h : l = m
  · simp [h]
  · simp [h]

end Go.Own

end
section
namespace Go.Own
open Go.RowKit
section
variable {B : Nat} {w0 : World} {e : TypeId} {size n cap : Nat}
end

theorem eqlNilIn {P : Program} (w : World) (d : Nat) (t e : TypeId) (a : Option Addr) (l c : Nat) (h : P.underlying t = some (.slice e)) : (Op.equalIn (d + 1) t (.slice a l c) (.slice none 0 0)).run P w = .ok a.isNone w := by
  cases a <;> simp [Op.equalIn, run_underlying h]
/-- a slice against nil -/
theorem eqlNil {P : Program} (w : World) (t e : TypeId) (a : Option Addr) (l c : Nat) (h : P.underlying t = some (.slice e)) : (binOp .eql t (.slice a l c) (.slice none 0 0)).run P w = .ok (.bool a.isNone) w := by
  have h2 : (Op.equal t (.slice a l c) (.slice none 0 0)).run P w = .ok a.isNone w := eqlNilIn w 9999 t e a l c h
  simp [binOp, h2]
/-- what the type of an element is like -/
structure Many (P : Program) (t e : TypeId) (size bytes : Nat) : Prop where
  slice : P.underlying t = some (.slice e)
  info : (P.info? e).map (fun i => (i.zero.map (·.cells.size), i.size, i.bytes)) = some (some size, size, bytes)
  pos : 0 < size
section
variable {P : Program} {B : Nat} {w0 w : World} {Ps : List Asn} {t e : TypeId} {size bytes : Nat}
/-- an empty slice literal -/
theorem St.emptyRow (H : St B w0 w Ps) (e : TypeId) (size : Nat) : St B w0 (w.alloc (.cells #[] e)) (ARow e size (.slice (some ⟨w.heap.size, 0, none⟩) 0 0) 0 [] :: Ps) :=
  H.new (S' := fun k => k = w.heap.size) (ARow e size _ 0 []) (Row.made w (#[] : Array Value) e size 0 (Nat.zero_le _) (by simp)) (((Step.refl (fun _ => False) w).alloc (.cells #[] e)).to (fun k hk => .inr (Nat.le_of_eq hk.symm)))
/-- append of several onto a row of one's own -/
theorem run_many_append (O : Many P t e size bytes) (H : St B w0 w Ps) (i : Nat) {v : Value} {n : Nat} {xs : List Value} (hi : Ps[i]? = some (ARow e size v n xs)) (ty : TypeId)
    (ao : Option Addr) (m c : Nat) (news : List Value) (hno : ao = none → m = 0 ∧ c = 0) (hl : news.length = m * size) (hc : ∀ a, ao = some a → ∀ j u, news[j]? = some u → w.cell? (a.add j) = some u) (h1 : ∀ u ∈ news, u.oneCell' = true) (b1 : n + m ≤ 1000000) (b2 : bytes ≤ 10000) :
    ∃ ao' cap' w', (Builtin.append_ #[t, t] ty #[v, .slice ao m c]).run P w = .ok (.slice ao' (n + m) cap') w' ∧ St B w0 w' (Ps.set i (ARow e size (.slice ao' (n + m) cap') (n + m) (xs ++ news))) := by
  obtain ⟨i0, hi0, hz⟩ := Option.map_eq_some_iff.1 O.info
  simp only [Prod.mk.injEq] at hz
  obtain ⟨hz0, hz1, hz2⟩ := hz
  obtain ⟨z, hz3, hz4⟩ := Option.map_eq_some_iff.1 hz0
  obtain ⟨S, hS, _, put⟩ := H.at i hi
  obtain ⟨v', w', T', hr, hrow, hst⟩ := run_append_row (P := P) w t ty e i0 z size bytes O.slice hi0 hz3 hz1 hz2 hz4 O.pos v n xs hS ao m c news hno hl hc h1 (by unfold maxLen; omega) (Nat.le_trans (Nat.mul_le_mul b1 b2) (by decide))
  obtain ⟨ao', cap', rfl, _⟩ := hrow.form
  exact ⟨ao', cap', w', hr, put T' w' (ARow e size (.slice ao' (n + m) cap') (n + m) (xs ++ news)) hrow hst⟩
theorem wpList_many_append {ops : Array Oper} {rest : List Oper} {o : Oper} {a : Act} {Q : Exit → Act → World → Prop} (O : Many P t e size bytes) (hgd : o.guard = none) (s x : Operand)
    (ho : o.op = .call { callee := .builtin .append, args := #[s, x], argTypes := #[t, t] }) (H : St B w0 w Ps) (i : Nat) {v : Value} {n : Nat} {xs : List Value} (hi : Ps[i]? = some (ARow e size v n xs)) (hs : a.eval s = v)
    (ao : Option Addr) (m c : Nat) (news : List Value) (hx : a.eval x = .slice ao m c) (hno : ao = none → m = 0 ∧ c = 0) (hl : news.length = m * size) (hc : ∀ a, ao = some a → ∀ j u, news[j]? = some u → w.cell? (a.add j) = some u) (h1 : ∀ u ∈ news, u.oneCell' = true) (b1 : n + m ≤ 1000000) (b2 : bytes ≤ 10000)
    (h : ∀ ao' cap' w', St B w0 w' (Ps.set i (ARow e size (.slice ao' (n + m) cap') (n + m) (xs ++ news))) → wpList P ops Q rest (a.put o.dst (.slice ao' (n + m) cap')) w') : wpList P ops Q (o :: rest) a w := by
  refine wpList_plain hgd fun K hK => ?_
  obtain ⟨ao', cap', w', hrun, h1⟩ := run_many_append O H i hi o.type ao m c news hno hl hc h1 b1 b2
  unfold Oper.wp
  simp [execOp, ho, resolve, invoke, builtin, hs, hx, hrun, Result.andThen]
  exact hK _ _ (h ao' cap' w' h1)
end
section
variable {P : Program} {t e : TypeId} {size bytes : Nat} {B : Nat} {w0 w : World} {Ps : List Asn}
end
/-- a new variable of many cells -/
theorem wpList_allocZ {P : Program} {ops : Array Oper} {rest : List Oper} {o : Oper} {a : Act} {w : World} {Q : Exit → Act → World → Prop} (hgd : o.guard = none) (ty : TypeId) (ho : o.op = .alloc ty) (z : Array Value) (hz : (P.info? ty).bind (·.zero) = some (.agg z))
    (h : wpList P ops Q rest (a.put o.dst (.pointer (some ⟨w.heap.size, 0, none⟩))) (w.alloc (.cells z ty))) : wpList P ops Q (o :: rest) a w := by
  refine wpList_plain hgd fun K hK => ?_
  obtain ⟨i, hi, hi2⟩ := Option.bind_eq_some_iff.1 hz
  unfold Oper.wp
  simp [execOp, ho, Instr.alloc, zeroValue, typeInfo, hi, hi2, Result.andThen]
  exact hK _ _ h
/-- a struct literal, its cells known -/
theorem wpList_built {P : Program} {ops : Array Oper} {rest : List Oper} {o : Oper} {a : Go.Act} {w : World} {Q : Exit → Go.Act → World → Prop} (hgd : o.guard = none) (t : TypeId) (parts : Array (Nat × Operand)) (ho : o.op = .build t parts) (cells : Array Value)
    (hf : P.built t (parts.map fun (i, x) => (i, a.eval x)).toList = some cells) (h : wpList P ops Q rest (a.put o.dst (.agg cells)) w) : wpList P ops Q (o :: rest) a w := by
  refine wpList_plain hgd fun K hK => ?_
  have := run_build w t (parts.map fun (i, x) => (i, a.eval x)) cells hf
  unfold Oper.wp
  simp [execOp, ho, this, Result.andThen]
  exact hK _ _ h
end Go.Own

end
