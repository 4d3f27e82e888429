/- Layer 7: the document's flash: Program, Erase, Cut, Read. -/
import Derived.Test.YtepllhfofhehaaaFlaRb
namespace Go.Proofs.Ytepllhfofhehaaa
open Go.RowKit Go.Own
namespace Fla
open Go.FlaM Byt

theorem strB_inj {a b : Bs} (h : strB a = strB b) : a = b := by rw [← strB_toList a, h, strB_toList]
theorem strB_size (a : Bs) : (strB a).size = a.length := by simp [strB, ByteArray.size]
theorem neq_str {o : Oper} {x y : Tmp} (ho : o.op = .binOp .neq 9 (.tmp x) (.tmp y) 9) (a b : Bs) (v : Bool) (hv : decide (a = b) = !v) (ρ : Operand → Value) (w : World) (h0 : ρ (.tmp x) = strV a) (h1 : ρ (.tmp y) = strV b) :
    (execOp ρ o).run Try.prog w = .ok (.value (.bool v)) w := by
  simp only [execOp, ho, h0, h1]
  cases v <;> simp at hv <;> simp [go_sem, strB_toList, hv]

theorem infoAct : (Try.prog.info? 93).map (fun i => (i.zero, i.size, i.bytes)) = some (some (.agg #[.int .i64 0, .int .i64 0, .string ⟨#[]⟩]), 3, 32) := by kernel_rfl
section
variable {B : Nat} {w0 w : World} {Ps : List Asn} {vL : Value} {L : List FlaM.Act}
theorem wpList_rowL_append {ops : Array Oper} {rest : List Oper} {o : Oper} {a : Go.Act} {Q : Exit → Go.Act → World → Prop} (hgd : o.guard = none) (s x : Operand)
    (ho : o.op = .call { callee := .builtin .append, args := #[s, x], argTypes := #[70, 70] }) (H : Own.St B w0 w Ps) (i : Nat) (hi : Ps[i]? = some (RowL vL L)) (hs : a.eval s = vL)
    (bo : Addr) (y : FlaM.Act) (hx : a.eval x = .slice (some bo) 1 1) (hc : ∀ j u, (actR y)[j]? = some u → w.cell? (bo.add j) = some u) (b1 : L.length + 1 ≤ 100000000)
    (h : ∀ ao' cap' w', Own.St B w0 w' (Ps.set i (RowL (.slice ao' (L.length + 1) cap') (L ++ [y]))) → wpList Try.prog ops Q rest (a.put o.dst (.slice ao' (L.length + 1) cap')) w') : wpList Try.prog ops Q (o :: rest) a w := by
  obtain ⟨i0, hi0, hz0, hz1, hz2⟩ := info_parts infoAct
  obtain ⟨S, hS, _, put⟩ := H.at i hi
  refine wpList_append_row hgd s x 70 ho 93 i0 _ 3 32 Try.underlying70 hi0 hz0 hz1 hz2 rfl (by decide) vL L.length (L.flatMap actR) hs hS (some bo) 1 1 (actR y) hx (by intro h; cases h) rfl (fun a ha j u hu => by cases ha; exact hc j u hu) (fun u hu => by simp [actR] at hu; rcases hu with rfl | rfl | rfl <;> rfl) (by unfold maxLen; omega) (by omega) ?_
  intro v' w' T' hrow hst
  obtain ⟨ao', cap', rfl, _⟩ := hrow.form
  refine h ao' cap' w' (put T' w' (RowL (.slice ao' (L.length + 1) cap') (L ++ [y])) ?_ hst)
  have e : (L ++ [y]).flatMap actR = L.flatMap actR ++ actR y := by simp
  show Row w' 93 3 T' (.slice ao' (L.length + 1) cap') (L ++ [y]).length ((L ++ [y]).flatMap actR)
  rw [e, List.length_append, List.length_singleton]
  exact hrow
end
theorem three_cells (w : World) (y : FlaM.Act) (t : TypeId) : ∀ j u, (actR y)[j]? = some u → (w.alloc (.cells #[.int .i64 (y.seg : Int), .int .i64 y.page, strV y.b] t)).cell? ((⟨w.heap.size, 0, none⟩ : Addr).add j) = some u := by
  intro j u h
  have hb : (w.alloc (.cells #[.int .i64 (y.seg : Int), .int .i64 y.page, strV y.b] t)).heap[w.heap.size]? = some (.cells #[.int .i64 (y.seg : Int), .int .i64 y.page, strV y.b] t) := heap_alloc_new w _
  rw [add_of]
  match j, h with
  | 0, h => exact (cell_of_block (i := 0 + 0) hb rfl).trans h
  | 1, h => exact (cell_of_block (i := 0 + 1) hb rfl).trans h
  | 2, h => exact (cell_of_block (i := 0 + 2) hb rfl).trans h

set_option maxHeartbeats 1600000 in
theorem cutR_any {B : Nat} {w0 w : World} {Ps : List Asn} {p : Nat} {s : FS} (H : Own.St B w0 w (ARef p s :: Ps)) (n : Int) (hn : i64B n) :
    Calls Try.prog 47 #[ptr p, .int .i64 n] w fun e w' => e = .returned (.tuple #[]) ∧ Own.St B w0 w' (ARef p (cut s n) :: Ps) := by
  obtain ⟨vS, vL, vW, H⟩ := ref_open H
  have c3 := (H.cellV 1 rfl 3 rfl).1
  have c4 := (H.cellV 1 rfl 4 rfl).1
  have f4 := (H.cellV 1 rfl 4 rfl).2
  obtain ⟨n1, n2⟩ := hn
  cases ho : s.off with
  | true =>
    rw [ho] at c3
    have H2 : Hid (Own.St B w0 w (ARef p (cut s n) :: Ps)) := by show Own.St _ _ _ _; unfold cut; rw [if_pos ho]; exact ref_close H
    clear H ho
    go_enter Try.func47, Try.ntmps47
    go_wp2
    go_end0
    exact ⟨rfl, H2.out⟩
  | false =>
    rw [ho] at c3
    have H2 : Hid (Own.St B w0 (w.setCell ⟨p, 4, none⟩ (.int .i64 (max n (-1)))) (ARef p (cut s n) :: Ps)) := by
      show Own.St _ _ _ _
      have e : cut s n = { s with left := max n (-1) } := by unfold cut; rw [if_neg (by rw [ho]; simp)]
      rw [e]
      exact ref_close (s := { s with left := max n (-1) }) (H.storeV 1 rfl 4 (.int .i64 (max n (-1))))
    clear H ho
    go_enter Try.func47, Try.ntmps47
    go_wp2
    go_end0
    exact ⟨rfl, H2.out⟩

set_option maxHeartbeats 1600000 in
theorem readR_any {B : Nat} {w0 w : World} {Ps : List Asn} {p : Nat} {s : FS} {N : Nat} (H : Own.St B w0 w (ARef p s :: Ps)) (hok : Ok s N) (hN : N ≤ 100000) (seg page : Int) :
    Calls Try.prog 49 #[ptr p, .int .i64 seg, .int .i64 page] w fun e w' => e = .returned (.tuple #[strV (FlaM.read s seg page).1, errV (FlaM.read s seg page).2]) ∧ Below w.heap.size w w' := by
  obtain ⟨R, hR⟩ : ∃ R, R = FlaM.read s seg page := ⟨_, rfl⟩
  rw [← hR]
  have T1 := Lib.hid (there_any H hok seg page _ rfl)
  cases hth : there s seg page with
  | false =>
    rw [hth] at T1
    have HR : Hid (R = ([], 1)) := by show R = _; rw [hR]; unfold FlaM.read; rw [if_pos hth]
    clear hR H hth
    go_enter Try.func49, Try.ntmps49
    go_wp2_with (refine T1.out.mono ?_; clear T1; rintro e w' ⟨rfl, rfl⟩)
    go_ret2
    rw [HR.out]
    exact ⟨rfl, Below.refl _ _⟩
  | true =>
    rw [hth] at T1
    have hin : 0 ≤ seg ∧ seg < (s.safe.length : Int) ∧ 0 ≤ page ∧ page < (s.pp : Int) := by simpa [there] using hth
    obtain ⟨i, rfl⟩ := Int.eq_ofNat_of_zero_le hin.1
    obtain ⟨k, rfl⟩ := Int.eq_ofNat_of_zero_le hin.2.2.1
    have N1 := Lib.hid (now_any H hok hN i k (by omega) (by omega))
    obtain ⟨vS, vL, vW, H'⟩ := ref_open H
    have c3 := (H'.cellV 1 rfl 3 rfl).1
    cases ho : s.off with
    | true =>
      rw [ho] at c3
      have HR : Hid (R = ([], 6)) := by show R = _; rw [hR]; unfold FlaM.read; rw [if_neg (by rw [hth]; simp), if_pos ho]
      clear hR H H' hth ho hin
      go_enter Try.func49, Try.ntmps49
      go_wp2_with (refine T1.out.mono ?_; clear T1; rintro e w' ⟨rfl, rfl⟩)
      go_ret2
      rw [HR.out]
      exact ⟨rfl, Below.refl _ _⟩
    | false =>
      rw [ho] at c3
      have HR : Hid (R = (now s i k, 0)) := by show R = _; rw [hR]; unfold FlaM.read; rw [if_neg (by rw [hth]; simp), if_neg (by rw [ho]; simp)]; rfl
      clear hR H H' hth ho hin
      go_enter Try.func49, Try.ntmps49
      go_wp2_with (first | (refine T1.out.mono ?_; clear T1; rintro e w' ⟨rfl, rfl⟩) | (refine N1.out.mono ?_; clear N1; rintro e w' ⟨rfl, hB⟩; have HB := Lib.hid hB; clear hB))
      go_ret2
      rw [HR.out]
      exact ⟨rfl, HB.out⟩
end Fla
end Go.Proofs.Ytepllhfofhehaaa
