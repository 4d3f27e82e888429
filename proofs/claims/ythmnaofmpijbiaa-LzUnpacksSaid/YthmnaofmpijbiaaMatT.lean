/- The document's own answers for layer 5: the longest matches of all places. -/
import Derived.Test.YthmnaofmpijbiaaMatS
namespace Go.Proofs.Ythmnaofmpijbiaa
open Go.RowKit Go.Own
namespace Mat
open Go.MatM Byt

theorem infoPair : (Try.prog.info? 36).map (fun i => (i.zero, i.size, i.bytes)) = some (some (.agg #[.int .i64 0, .int .i64 0]), 2, 16) := by kernel_rfl
/-- pairs of numbers as cells -/
def pcells (ps : List (Nat × Nat)) : List Value := ps.flatMap fun x => [.int .i64 (x.1 : Int), .int .i64 (x.2 : Int)]
theorem pcells_len (ps : List (Nat × Nat)) : (pcells ps).length = ps.length * 2 := by
  induction ps with
  | nil => rfl
  | cons x ps ih => simp only [pcells, List.flatMap_cons, List.length_append, List.length_cons, List.length_nil] at *; omega
theorem pcells_append (a b : List (Nat × Nat)) : pcells (a ++ b) = pcells a ++ pcells b := by simp [pcells]
theorem pcells_at (ps : List (Nat × Nat)) : ∀ i, i < ps.length → (pcells ps)[2 * i]? = some (.int .i64 ((ps.getD i (0, 0)).1 : Int)) ∧ (pcells ps)[2 * i + 1]? = some (.int .i64 ((ps.getD i (0, 0)).2 : Int)) := by
  induction ps with
  | nil => intro i h; simp at h
  | cons x ps ih =>
    intro i h
    have e : pcells (x :: ps) = .int .i64 (x.1 : Int) :: .int .i64 (x.2 : Int) :: pcells ps := rfl
    rw [e]
    cases i with
    | zero => exact ⟨rfl, rfl⟩
    | succ i =>
      have h1 := ih i (by simpa using h)
      rw [show 2 * (i + 1) = 2 * i + 1 + 1 by omega]
      simp only [List.getElem?_cons_succ, List.getD_cons_succ]
      exact h1
/-- a slice of pairs of one's own -/
def AQ (ao : Option Addr) (n cap : Nat) (ps : List (Nat × Nat)) : Asn := ARow 36 2 (.slice ao n cap) n (pcells ps)
section
variable {B : Nat} {w0 w : World} {Ps : List Asn} {ao : Option Addr} {n cap : Nat} {ps : List (Nat × Nat)}
theorem aq_len (H : St B w0 w Ps) (i : Nat) (hi : Ps[i]? = some (AQ ao n cap ps)) : ps.length = n ∧ n ≤ cap ∧ cap ≤ maxLen := by
  obtain ⟨S, hS, _⟩ := H.at i hi
  obtain ⟨ao', cap', hv, h1, h2, h3, _⟩ := Row.form hS
  simp only [Value.slice.injEq, true_and] at hv
  obtain ⟨rfl, rfl⟩ := hv
  have := hS.own.1
  rw [pcells_len] at this
  exact ⟨by omega, h1, h2⟩
theorem aq_nil (H : St B w0 w Ps) : St B w0 w (AQ none 0 0 [] :: Ps) :=
  H.new (S' := fun _ => False) (AQ none 0 0 []) (Row.nil _ _ _) ((Step.refl (fun _ => False) w))
/-- one pair of a slice of one's own -/
theorem aq_at (H : St B w0 w Ps) (i : Nat) (hi : Ps[i]? = some (AQ ao n cap ps)) (j : Nat) (hj : j < n) :
    ∃ g, ao = some ⟨g, 0, none⟩ ∧ w.cell? ⟨g, 2 * j, none⟩ = some (.int .i64 ((ps.getD j (0, 0)).1 : Int)) ∧ w.cell? ⟨g, 2 * j + 1, none⟩ = some (.int .i64 ((ps.getD j (0, 0)).2 : Int)) := by
  have hl := (aq_len H i hi).1
  obtain ⟨S, hS, _⟩ := H.at i hi
  obtain ⟨ao', cap', hv, _, _, h3, h4⟩ := Row.form hS
  simp only [Value.slice.injEq, true_and] at hv
  obtain ⟨rfl, rfl⟩ := hv
  cases ao with
  | none => have := (h3 rfl).1; omega
  | some a =>
    obtain ⟨g, rfl, _⟩ := h4 a rfl
    have hc := pcells_at ps j (by omega)
    exact ⟨g, rfl, (hS.cells (2 * j) (by omega)).trans hc.1, (hS.cells (2 * j + 1) (by omega)).trans hc.2⟩
theorem wpList_aq_append {ops : Array Oper} {rest : List Oper} {o : Oper} {a : Act} {Q : Exit → Act → World → Prop} (hgd : o.guard = none) (s x : Operand)
    (ho : o.op = .call { callee := .builtin .append, args := #[s, x], argTypes := #[33, 33] }) (H : St B w0 w Ps) (i : Nat) (hi : Ps[i]? = some (AQ ao n cap ps)) (hs : a.eval s = .slice ao n cap)
    (bo : Addr) (y : Nat × Nat) (hx : a.eval x = .slice (some bo) 1 1) (hc : ∀ j u, (pcells [y])[j]? = some u → w.cell? (bo.add j) = some u) (b1 : n + 1 ≤ 100000000)
    (h : ∀ ao' cap' w', St B w0 w' (Ps.set i (AQ ao' (n + 1) cap' (ps ++ [y]))) → wpList Try.prog ops Q rest (a.put o.dst (.slice ao' (n + 1) cap')) w') : wpList Try.prog ops Q (o :: rest) a w := by
  obtain ⟨i0, hi0, hz0, hz1, hz2⟩ := info_parts infoPair
  obtain ⟨S, hS, _, put⟩ := H.at i hi
  refine wpList_append_row hgd s x 33 ho 36 i0 _ 2 16 Try.underlying33 hi0 hz0 hz1 hz2 rfl (by decide) (.slice ao n cap) n (pcells ps) hs hS (some bo) 1 1 (pcells [y]) hx (by intro h; cases h) rfl (fun a ha j u hu => by cases ha; exact hc j u hu) (fun u hu => by simp [pcells] at hu; rcases hu with rfl | rfl <;> rfl) (by unfold maxLen; omega) (by omega) ?_
  intro v' w' T' hrow hst
  obtain ⟨ao', cap', rfl, _⟩ := hrow.form
  rw [← pcells_append] at hrow
  exact h ao' cap' w' (put T' w' (AQ ao' (n + 1) cap' (ps ++ [y])) hrow hst)
end

theorem two_cells (w : World) (d n : Nat) (t : TypeId) : ∀ j u, (pcells [(d, n)])[j]? = some u → (w.alloc (.cells #[.int .i64 (d : Int), .int .i64 (n : Int)] t)).cell? ((⟨w.heap.size, 0, none⟩ : Addr).add j) = some u := by
  intro j u h
  have hb : (w.alloc (.cells #[.int .i64 (d : Int), .int .i64 (n : Int)] t)).heap[w.heap.size]? = some (.cells #[.int .i64 (d : Int), .int .i64 (n : Int)] t) := heap_alloc_new w _
  rw [add_of]
  match j, h with
  | 0, h => exact (cell_of_block (i := 0 + 0) hb rfl).trans h
  | 1, h => exact (cell_of_block (i := 0 + 1) hb rfl).trans h
/-- what is one's own, as a call hands it out -/
theorem row_out {w wr : World} {Ps : List Asn} {ao : Option Addr} {n cap : Nat} {ps : List (Nat × Nat)} (H : St w.heap.size w wr Ps) (i : Nat) (hi : Ps[i]? = some (AQ ao n cap ps)) :
    ∃ T, Row wr 36 2 T (.slice ao n cap) n (pcells ps) ∧ Step (fun _ => False) T w wr := by
  obtain ⟨S, hS, hB, _⟩ := H.at i hi
  have hb := H.below
  exact ⟨S, hS, ⟨hb.os, hb.tape, hb.output, H.size, fun k hk _ => hb.block k hk, fun k hk => .inr (hB k hk)⟩⟩

/-- P5.3 -/
def alls (l : Bs) : List (Nat × Nat) := (List.range l.length).map (longest l)
theorem alls_to (l : Bs) (i : Nat) : (List.range (i + 1)).map (longest l) = (List.range i).map (longest l) ++ [longest l i] := by
  rw [List.range_succ, List.map_append]; rfl

/-- what a call leaves that answers all longest matches -/
def AllDone (l : Bs) (len : Nat) (w : World) (e : Ending) (w' : World) : Prop := ∃ ao cap T, e = .returned (.slice ao len cap) ∧ Row w' 36 2 T (.slice ao len cap) len (pcells (alls l)) ∧ Step (fun _ => False) T w w'

end Mat
end Go.Proofs.Ythmnaofmpijbiaa
