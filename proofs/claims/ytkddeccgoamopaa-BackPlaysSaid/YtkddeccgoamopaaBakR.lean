/- Layer 8: the document's disk in memory. -/
import Derived.Test.YtkddeccgoamopaaStrS
import Derived.Test.YtkddeccgoamopaaBakM
import Derived.Lib.Hide
namespace Go.Proofs.Ytkddeccgoamopaa
open Go.RowKit Go.Own
namespace Bak
open Go.BakM Byt

abbrev ptr (p : Nat) : Value := .pointer (some ⟨p, 0, none⟩)
abbrev errV (n : Nat) : Value := .int .i64 (n : Int)
abbrev i64B (x : Int) : Prop := -9223372036854775808 ≤ x ∧ x ≤ 9223372036854775807
def putR (a : BakM.Put) : List Value := [natV a.pos, strV a.b]
abbrev diskCells (vS vL : Value) (s : DS) : List Value := [vS, vL, .bool s.off, .int .i64 s.left, natV s.n]
abbrev RowP (vL : Value) (L : List BakM.Put) : Asn := ARow 76 2 vL L.length (L.flatMap putR)
def refParts (p : Nat) (x : Value × Value) (s : DS) : List Asn := [AVals p 46 (diskCells x.1 x.2 s), RowS x.1 s.safe, RowP x.2 s.L]
/-- the document's disk at p -/
def ARef (p : Nat) (vS : Value) (s : DS) : Asn := AEx fun vL : Value => AJoin (refParts p (vS, vL) s)
section
variable {B : Nat} {w0 w : World} {Ps : List Asn} {p : Nat} {s : DS} {vS vL : Value}
theorem ref_open (h : Own.St B w0 w (ARef p vS s :: Ps)) : ∃ vL, Own.St B w0 w (AVals p 46 (diskCells vS vL s) :: RowS vS s.safe :: RowP vL s.L :: Ps) := by
  obtain ⟨vL, h⟩ := h.openE
  exact ⟨vL, h.openJ⟩
theorem ref_close (h : Own.St B w0 w (AVals p 46 (diskCells vS vL s) :: RowS vS s.safe :: RowP vL s.L :: Ps)) : Own.St B w0 w (ARef p vS s :: Ps) :=
  Own.St.closeE (P := fun vL : Value => AJoin (refParts p (vS, vL) s)) vL (Own.St.closeJ (Qs := refParts p (vS, vL) s) h)
end
theorem puts_at (L : List BakM.Put) : ∀ j a, L[j]? = some a → (L.flatMap putR)[j * 2]? = some (natV a.pos) ∧ (L.flatMap putR)[j * 2 + 1]? = some (strV a.b) := by
  induction L with
  | nil => intro j a h; simp at h
  | cons x L ih =>
    intro j a h
    have e : (x :: L).flatMap putR = natV x.pos :: strV x.b :: L.flatMap putR := rfl
    cases j with
    | zero =>
      simp only [List.getElem?_cons_zero, Option.some.injEq] at h
      subst h
      rw [e]
      exact ⟨rfl, rfl⟩
    | succ j =>
      have := ih j a (by simpa using h)
      rw [e, show (j + 1) * 2 = j * 2 + 1 + 1 by omega]
      exact this
section
variable {B : Nat} {w0 w : World} {Ps : List Asn} {vL : Value} {L : List BakM.Put}
theorem rowP_at (H : Own.St B w0 w Ps) (i : Nat) (hi : Ps[i]? = some (RowP vL L)) (j : Nat) (a : BakM.Put) (ha : L[j]? = some a) :
    ∃ g c, vL = .slice (some ⟨g, 0, none⟩) L.length c ∧ w.cell? ⟨g, j * 2, none⟩ = some (natV a.pos) ∧ w.cell? ⟨g, j * 2 + 1, none⟩ = some (strV a.b) := by
  obtain ⟨ao, c, rfl⟩ := H.rowForm i hi
  have hj := (List.getElem?_eq_some_iff.1 ha).1
  obtain ⟨a0, a1⟩ := puts_at L j a ha
  obtain ⟨g, rfl, ⟨u0, h0, c0⟩, _, _⟩ := H.rowAt i hi (j * 2) (by omega)
  obtain ⟨g1, e1, ⟨u1, h1, c1⟩, _, _⟩ := H.rowAt i hi (j * 2 + 1) (by omega)
  cases e1
  rw [a0] at h0; cases h0
  rw [a1] at h1; cases h1
  exact ⟨g, c, rfl, c0, c1⟩
theorem infoPut : (Try.prog.info? 76).map (fun i => (i.zero, i.size, i.bytes)) = some (some (.agg #[.int .i64 0, .string ⟨#[]⟩]), 2, 24) := by kernel_rfl
theorem wpList_rowP_append {ops : Array Oper} {rest : List Oper} {o : Oper} {a : Go.Act} {Q : Exit → Go.Act → World → Prop} (hgd : o.guard = none) (s x : Operand)
    (ho : o.op = .call { callee := .builtin .append, args := #[s, x], argTypes := #[44, 44] }) (H : Own.St B w0 w Ps) (i : Nat) (hi : Ps[i]? = some (RowP vL L)) (hs : a.eval s = vL)
    (bo : Addr) (y : BakM.Put) (hx : a.eval x = .slice (some bo) 1 1) (hc : ∀ j u, (putR y)[j]? = some u → w.cell? (bo.add j) = some u) (b1 : L.length + 1 ≤ 100000000)
    (h : ∀ ao' cap' w', Own.St B w0 w' (Ps.set i (RowP (.slice ao' (L.length + 1) cap') (L ++ [y]))) → wpList Try.prog ops Q rest (a.put o.dst (.slice ao' (L.length + 1) cap')) w') : wpList Try.prog ops Q (o :: rest) a w := by
  obtain ⟨i0, hi0, hz0, hz1, hz2⟩ := info_parts infoPut
  obtain ⟨S, hS, _, put⟩ := H.at i hi
  refine wpList_append_row hgd s x 44 ho 76 i0 _ 2 24 Try.underlying44 hi0 hz0 hz1 hz2 rfl (by decide) vL L.length (L.flatMap putR) hs hS (some bo) 1 1 (putR y) hx (by intro h; cases h) rfl (fun a ha j u hu => by cases ha; exact hc j u hu) (fun u hu => by simp [putR] at hu; rcases hu with rfl | rfl <;> rfl) (by unfold maxLen; omega) (by omega) ?_
  intro v' w' T' hrow hst
  obtain ⟨ao', cap', rfl, _⟩ := hrow.form
  refine h ao' cap' w' (put T' w' (RowP (.slice ao' (L.length + 1) cap') (L ++ [y])) ?_ hst)
  have e : (L ++ [y]).flatMap putR = L.flatMap putR ++ putR y := by simp
  show Row w' 76 2 T' (.slice ao' (L.length + 1) cap') (L ++ [y]).length ((L ++ [y]).flatMap putR)
  rw [e, List.length_append, List.length_singleton]
  exact hrow
end
theorem put_cells (w : World) (y : BakM.Put) (t : TypeId) : ∀ j u, (putR y)[j]? = some u → (w.alloc (.cells #[natV y.pos, strV y.b] t)).cell? ((⟨w.heap.size, 0, none⟩ : Addr).add j) = some u := by
  intro j u h
  have hb : (w.alloc (.cells #[natV y.pos, strV y.b] t)).heap[w.heap.size]? = some (.cells #[natV y.pos, strV y.b] t) := heap_alloc_new w _
  rw [add_of]
  match j, h with
  | 0, h => exact (cell_of_block (i := 0 + 0) hb rfl).trans h
  | 1, h => exact (cell_of_block (i := 0 + 1) hb rfl).trans h

theorem off_any {B : Nat} {w0 w : World} {Ps : List Asn} {p : Nat} {vS : Value} {s : DS} (H : Own.St B w0 w (ARef p vS s :: Ps)) :
    Calls Try.prog 39 #[ptr p] w fun e w' => e = .returned (.bool (trip s).off) ∧ Own.St B w0 w' (ARef p vS (trip s) :: Ps) := by
  obtain ⟨vL, H⟩ := ref_open H
  have c2 := (H.cellV 0 rfl 2 rfl).1
  have c3 := (H.cellV 0 rfl 3 rfl).1
  have f2 := (H.cellV 0 rfl 2 rfl).2
  have f3 := (H.cellV 0 rfl 3 rfl).2
  by_cases h0 : s.left = 0
  · have HT : Hid (trip s = { s with off := true, left := -1 }) := by show _ = _; unfold trip; rw [if_pos h0]
    have H2 := Lib.hid (ref_close (s := { s with off := true, left := -1 }) ((H.storeV 0 rfl 2 (.bool true)).storeV 0 rfl 3 (.int .i64 (-1))))
    rw [h0] at c3
    clear H
    go_enter Try.func39, Try.ntmps39
    go_wp2
    go_ret
    rw [HT.out]
    exact ⟨rfl, H2.out⟩
  · have HT : Hid (trip s = s) := by show _ = _; unfold trip; rw [if_neg h0]
    have H2 := Lib.hid (ref_close H)
    have hd : (s.left == 0) = false := by simpa using h0
    clear H
    go_enter Try.func39, Try.ntmps39
    go_wp2
    go_ret
    rw [HT.out]
    exact ⟨rfl, H2.out⟩
theorem done_any {B : Nat} {w0 w : World} {Ps : List Asn} {p : Nat} {vS : Value} {s : DS} (H : Own.St B w0 w (ARef p vS s :: Ps)) (hn : s.n ≤ 100000000) (hl : -1 ≤ s.left ∧ s.left ≤ 9223372036854775807) :
    Calls Try.prog 40 #[ptr p] w fun e w' => e = .returned (errV 0) ∧ Own.St B w0 w' (ARef p vS (okd s) :: Ps) := by
  obtain ⟨vL, H⟩ := ref_open H
  have c3 := (H.cellV 0 rfl 3 rfl).1
  have c4 := (H.cellV 0 rfl 4 rfl).1
  have f3 := (H.cellV 0 rfl 3 rfl).2
  have f4 := (H.cellV 0 rfl 4 rfl).2
  by_cases h0 : 0 < s.left
  · have H2 : Hid (Own.St B w0 ((w.setCell ⟨p, 4, none⟩ (.int .i64 ((s.n : Int) + 1))).setCell ⟨p, 3, none⟩ (.int .i64 (s.left - 1))) (ARef p vS (okd s) :: Ps)) := by
      have h := (H.storeV 0 rfl 4 (natV (s.n + 1))).storeV 0 rfl 3 (.int .i64 (s.left - 1))
      have e : okd s = { s with n := s.n + 1, left := s.left - 1 } := by unfold okd; rw [if_pos h0]
      rw [e]
      exact ref_close (s := { s with n := s.n + 1, left := s.left - 1 }) h
    clear H
    go_enter Try.func40, Try.ntmps40
    go_wp2
    go_ret
    exact ⟨rfl, H2.out⟩
  · have H2 : Hid (Own.St B w0 (w.setCell ⟨p, 4, none⟩ (.int .i64 ((s.n : Int) + 1))) (ARef p vS (okd s) :: Ps)) := by
      have h := H.storeV 0 rfl 4 (natV (s.n + 1))
      have e : okd s = { s with n := s.n + 1, left := s.left } := by unfold okd; rw [if_neg h0]
      rw [e]
      exact ref_close (s := { s with n := s.n + 1, left := s.left }) h
    clear H
    go_enter Try.func40, Try.ntmps40
    go_wp2
    go_ret
    exact ⟨rfl, H2.out⟩
theorem cutR_any {B : Nat} {w0 w : World} {Ps : List Asn} {p : Nat} {vS : Value} {s : DS} (H : Own.St B w0 w (ARef p vS s :: Ps)) (n : Int) (hn : i64B n) :
    Calls Try.prog 35 #[ptr p, .int .i64 n] w fun e w' => e = .returned (.tuple #[]) ∧ Own.St B w0 w' (ARef p vS (cut s n) :: Ps) := by
  obtain ⟨vL, H⟩ := ref_open H
  have c2 := (H.cellV 0 rfl 2 rfl).1
  have c3 := (H.cellV 0 rfl 3 rfl).1
  have f3 := (H.cellV 0 rfl 3 rfl).2
  obtain ⟨n1, n2⟩ := hn
  cases ho : s.off with
  | true =>
    rw [ho] at c2
    have H2 : Hid (Own.St B w0 w (ARef p vS (cut s n) :: Ps)) := by show Own.St _ _ _ _; unfold cut; rw [if_pos ho]; exact ref_close H
    clear H ho
    go_enter Try.func35, Try.ntmps35
    go_wp2
    go_end0
    exact ⟨rfl, H2.out⟩
  | false =>
    rw [ho] at c2
    have H2 : Hid (Own.St B w0 (w.setCell ⟨p, 3, none⟩ (.int .i64 (max n (-1)))) (ARef p vS (cut s n) :: Ps)) := by
      show Own.St _ _ _ _
      have e : cut s n = { s with left := max n (-1) } := by unfold cut; rw [if_neg (by rw [ho]; simp)]
      rw [e]
      exact ref_close (s := { s with left := max n (-1) }) (H.storeV 0 rfl 3 (.int .i64 (max n (-1))))
    clear H ho
    go_enter Try.func35, Try.ntmps35
    go_wp2
    go_end0
    exact ⟨rfl, H2.out⟩
end Bak
end Go.Proofs.Ytkddeccgoamopaa
