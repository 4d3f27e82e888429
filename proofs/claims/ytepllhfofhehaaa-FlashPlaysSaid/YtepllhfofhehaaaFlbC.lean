/- The landed flash: begin, hasSeg, hasPage; apply of any operation. -/
import Derived.Test.YtepllhfofhehaaaFlbB
import Derived.Test.YtepllhfofhehaaaFlaQ
namespace Go.Proofs.Ytepllhfofhehaaa
open Go.RowKit Go.Own
namespace Fla
open Go.FlaM Byt

/-- the bytes that an operation carries -/
def wOf (a : FlaM.Act) : Bs := if a.page < 0 then List.replicate 128 0 else a.b
def opCells (a : FlaM.Act) : List Value := [.bool (decide (a.page < 0)), .int .i64 (a.seg : Int), .int .i64 (a.page.toNat : Int)] ++ (wOf a).map byteV
theorem wOf_len {n pp : Nat} {a : FlaM.Act} (h : ActOk n pp a) : (wOf a).length = 128 := by
  unfold wOf
  split
  · simp
  · rcases h.2 with ⟨_, _, h3⟩ | ⟨h1, _⟩
    · exact h3
    · omega
theorem opCells_len {n pp : Nat} {a : FlaM.Act} (h : ActOk n pp a) : (opCells a).length = 131 := by
  unfold opCells
  rw [List.length_append, List.length_map, wOf_len h]
  rfl
theorem apply_st {B : Nat} {w0 w : World} {Ps : List Asn} {v : Value} {G : List (List Bs)} {n pp : Nat} (H : Own.St B w0 w (PGrid 66 76 v G :: Ps)) (hs : Shape G n pp) (hn : n ≤ 256) (hp : 1 ≤ pp ∧ pp ≤ 64) (a : FlaM.Act) (ha : ActOk n pp a) (ext : Int) (he : i64B ext) :
    Calls Try.prog 53 #[.agg (opCells a).toArray, v, .int .i64 ext] w fun e w' => e = .returned (.tuple #[]) ∧ Own.St B w0 w' (PGrid 66 76 v (doOne pp G a ext) :: Ps) := by
  unfold doOne
  by_cases h : 0 ≤ a.page
  · rw [if_pos h]
    rcases ha.2 with ⟨h1, h2, h3⟩ | ⟨h1, _⟩
    · have hw : wOf a = a.b := by unfold wOf; rw [if_neg (by omega)]
      exact apply_prog H hs hn hp a.seg a.page.toNat ha.1 (by omega) (opCells a) a.b h3 (by simp [opCells]; omega) rfl rfl (fun j hj => by
        unfold opCells
        rw [hw, Nat.add_comm]
        simp [h3, hj]) ext he
    · omega
  · rw [if_neg h]
    exact apply_erase H hs hn hp a.seg ha.1 (opCells a) rfl (by simp [opCells]; omega) ext he

abbrev flCells (pp : Nat) (vN vS vP vW : Value) (n : Nat) (off armed : Bool) (lf : Int) : List Value := [.int .i64 (pp : Int), vN, vS, vP, vW, .int .i64 (n : Int), .bool off, .bool armed, .int .i64 lf]

set_option maxHeartbeats 1600000 in
theorem begin_st {B : Nat} {w0 w : World} {Ps : List Asn} {p pp : Nat} {vN vS vP vW : Value} {n : Nat} {off armed : Bool} {lf : Int} (H : Own.St B w0 w (AVals p 65 (flCells pp vN vS vP vW n off armed lf) :: Ps)) (hn : n ≤ 1000000) (hl : i64B lf) (hle : armed = true → 0 ≤ lf) :
    Calls Try.prog 40 #[ptr p] w fun e w' => if (off || (armed && decide (lf = 0))) = true then e = .returned (errV 6) ∧ Own.St B w0 w' (AVals p 65 (flCells pp vN vS vP vW n true armed lf) :: Ps)
      else e = .returned (errV 0) ∧ Own.St B w0 w' (AVals p 65 (flCells pp vN vS vP vW (n + 1) false armed (if armed then lf - 1 else lf)) :: Ps) := by
  obtain ⟨l1, l2⟩ := hl
  have c6 := (H.cellV 0 rfl 6 rfl)
  have c7 := (H.cellV 0 rfl 7 rfl)
  have c8 := (H.cellV 0 rfl 8 rfl)
  have c5 := (H.cellV 0 rfl 5 rfl)
  have H0 := Lib.hid H
  clear H
  go_enter Try.func40, Try.ntmps40
  cases off <;> cases armed
  · have H1 := Lib.hid (H0.out.storeV 0 rfl 5 (.int .i64 ((n : Int) + 1)))
    clear hle
    go_wp2
    go_ret
    simp only [Bool.false_or, Bool.false_and, Bool.false_eq_true, if_false]
    exact ⟨rfl, H1.out⟩
  · have hle2 := hle rfl
    clear hle
    by_cases hz : lf = 0
    · have H1 := Lib.hid (H0.out.storeV 0 rfl 6 (.bool true))
      go_wp2
      go_ret
      subst hz
      simp only [Bool.false_or, Bool.true_and, decide_true, if_true]
      exact ⟨rfl, H1.out⟩
    · have h1 := (H0.out.storeV 0 rfl 8 (.int .i64 (lf - 1)))
      have H1 := Lib.hid (h1.storeV 0 rfl 5 (.int .i64 ((n : Int) + 1)))
      have c5 := (h1.cellV 0 rfl 5 rfl)
      clear h1
      go_wp2
      go_ret
      simp only [Bool.false_or, Bool.true_and, hz, decide_false, Bool.false_eq_true, if_false, if_true]
      exact ⟨rfl, H1.out⟩
  · clear hle
    go_wp2
    go_ret
    simp only [Bool.true_or, if_true]
    exact ⟨rfl, H0.out⟩
  · have hle2 := hle rfl
    clear hle
    by_cases hz : lf = 0
    · have H1 := Lib.hid (H0.out.storeV 0 rfl 6 (.bool true))
      go_wp2
      go_ret
      simp only [Bool.true_or, if_true]
      subst hz
      exact ⟨rfl, H1.out⟩
    · go_wp2
      go_ret
      simp only [Bool.true_or, if_true]
      exact ⟨rfl, H0.out⟩

theorem retB {a b : Bool} (h : a = b) : Ending.returned (.bool a) = .returned (.bool b) := by rw [h]
theorem hasSeg_st {B : Nat} {w0 w : World} {Ps : List Asn} {p pp nS cN : Nat} {aN : Option Addr} {vS vP vW : Value} {n : Nat} {off armed : Bool} {lf : Int} (H : Own.St B w0 w (AVals p 65 (flCells pp (.slice aN nS cN) vS vP vW n off armed lf) :: Ps)) (seg : Int) :
    Calls Try.prog 39 #[ptr p, .int .i64 seg] w fun e w' => e = .returned (.bool (decide (0 ≤ seg ∧ seg < (nS : Int)))) ∧ w' = w := by
  have c1 := (H.cellV 0 rfl 1 rfl).1
  clear H
  go_enter Try.func39, Try.ntmps39
  by_cases h0 : 0 ≤ seg
  · by_cases h1 : seg < (nS : Int)
    · go_wp2
      go_ret
      exact ⟨retB (by first | (simp; done) | (simp; omega) | (rw [Bool.eq_iff_iff]; simp; omega)), rfl⟩
    · go_wp2
      go_ret
      exact ⟨retB (by first | (simp; done) | (simp; omega) | (rw [Bool.eq_iff_iff]; simp; omega)), rfl⟩
  · go_wp2
    go_ret
    exact ⟨retB (by first | (simp; done) | (simp; omega) | (rw [Bool.eq_iff_iff]; simp; omega)), rfl⟩
theorem hasPage_st {B : Nat} {w0 w : World} {Ps : List Asn} {p pp nS cN : Nat} {aN : Option Addr} {vS vP vW : Value} {n : Nat} {off armed : Bool} {lf : Int} (H : Own.St B w0 w (AVals p 65 (flCells pp (.slice aN nS cN) vS vP vW n off armed lf) :: Ps)) (seg page : Int) :
    Calls Try.prog 42 #[ptr p, .int .i64 seg, .int .i64 page] w fun e w' => e = .returned (.bool (decide (0 ≤ seg ∧ seg < (nS : Int) ∧ 0 ≤ page ∧ page < (pp : Int)))) ∧ w' = w := by
  have CS := Lib.hid (hasSeg_st H seg)
  have c0 := (H.cellV 0 rfl 0 rfl).1
  clear H
  go_enter Try.func42, Try.ntmps42
  go_wp2_with (fail)
  refine CS.out.mono ?_
  clear CS
  by_cases hs : 0 ≤ seg ∧ seg < (nS : Int)
  · rw [decide_eq_true hs]
    rintro e w1 ⟨rfl, rfl⟩
    by_cases h0 : 0 ≤ page
    · by_cases h1 : page < (pp : Int)
      · go_wp2
        go_ret
        exact ⟨retB (by first | (simp; done) | (simp; omega) | (rw [Bool.eq_iff_iff]; simp; omega)), rfl⟩
      · go_wp2
        go_ret
        exact ⟨retB (by first | (simp; done) | (simp; omega) | (rw [Bool.eq_iff_iff]; simp; omega)), rfl⟩
    · go_wp2
      go_ret
      exact ⟨retB (by first | (simp; done) | (simp; omega) | (rw [Bool.eq_iff_iff]; simp; omega)), rfl⟩
  · rw [decide_eq_false hs]
    rintro e w1 ⟨rfl, rfl⟩
    go_wp2
    go_ret
    exact ⟨retB (by first | (simp; done) | (simp; omega) | (rw [Bool.eq_iff_iff]; simp; omega)), rfl⟩
end Fla
end Go.Proofs.Ytepllhfofhehaaa
