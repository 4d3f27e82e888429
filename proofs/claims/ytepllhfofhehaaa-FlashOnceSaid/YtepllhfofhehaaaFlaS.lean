/- The examples at the head of all statements. -/
import Derived.Test.YtepllhfofhehaaaFlaD
namespace Go.Proofs.Ytepllhfofhehaaa
open Go.RowKit Go.Own
namespace Fla
open Go.FlaM Byt

def seven : Bs := List.replicate 128 7
theorem page_ty (c : UInt8) (wx : World) : Calls Try.prog 19 #[.int .u8 c.toNat] wx fun e w' => ∃ v, e = .returned v ∧ (tyG (List.replicate 128 c)).holds v w' ∧ Below wx.heap.size wx w' := by
  refine (page_any c (Own.St.start wx)).mono ?_
  rintro e w' ⟨g, rfl, h⟩
  have hl : (List.replicate 128 c).length = 128 := List.length_replicate
  refine ⟨_, rfl, ⟨some ⟨g, 0, none⟩, 128, by rw [hl], ?_⟩, h.below⟩
  rw [hl]
  exact given_own h 0 rfl

def x0 : FS := fresh 1 2
def x1 : FS := (progF x0 0 1 seven).1
def x2 : FS := (progF x1 0 1 seven).1
def x3 : FS := (erase x2 0).1
def x4 : FS := (progF x3 0 1 seven).1
def x5 : FS := crash x4 [128, 0, 5]
theorem ex0 : Ok x0 0 := ok_fresh 1 2 (by decide) (by decide)
theorem ex1 : Ok x1 1 := ok_program ex0 _ _ _
theorem ex2 : Ok x2 2 := ok_program ex1 _ _ _
theorem ex3 : Ok x3 3 := ok_erase ex2 _
theorem ex4 : Ok x4 4 := ok_program ex3 _ _ _
theorem ex5 : Ok x5 4 := ok_crash ex4 _
theorem er1 : (progF x0 0 1 seven).2 = 0 := by decide +kernel
theorem er2 : (progF x1 0 1 seven).2 = 70 := by decide +kernel
theorem er3 : (erase x2 0).2 = 0 := by decide +kernel
theorem er4 : (progF x3 0 1 seven).2 = 0 := by decide +kernel
theorem er5 : read x5 0 1 = (seven, 0) := by decide +kernel

set_option maxHeartbeats 4000000 in
theorem shown_any {W w : World} (K : Kept W) (hW : Below W.heap.size W w) : Calls Try.prog 11 #[] w (RetYes w) := by
  have HW := Lib.hid (fun wx (hwx : Below w.heap.size w wx) => hW.trans (hwx.mono hW.size))
  have PG : Hid (∀ wx, Calls Try.prog 19 #[.int .u8 7] wx fun e w' => ∃ v, e = .returned v ∧ (tyG seven).holds v w' ∧ Below wx.heap.size wx w') := fun wx => page_ty 7 wx
  have CN : Hid (Calls Try.prog 12 #[.int .i64 1, .int .i64 2] w fun e w' => ∃ p, e = .returned (.tuple #[ptr p, .int .i64 0]) ∧ Own.St w.heap.size w w' [K.A p x0]) := by
    refine (K.new 1 2 hW (Own.St.start w) (by decide) (by decide)).mono ?_
    intro e w' h
    rw [if_pos (by decide)] at h
    exact h
  have OP : Hid (∀ (s : FS) (N k : Nat) (p : Nat) (wx : World) (g : Nat), Own.St w.heap.size w wx [K.A p s, AB (some ⟨g, 0, none⟩) 128 128 seven] → Ok s N → N ≤ 10 → (progF s 0 1 seven).2 = k → Calls Try.prog 18 #[ptr p, .int .i64 0, .int .i64 1, .slice (some ⟨g, 0, none⟩) 128 128] wx fun e w' => e = .returned (.int .i64 (k : Int)) ∧ Own.St w.heap.size w w' [K.A p (progF s 0 1 seven).1]) := by
    intro s N k p wx g H ok hN hk
    refine (K.program 0 1 (some ⟨g, 0, none⟩) 128 128 seven (HW.out _ H.below) H ok (by omega) (by decide) (by decide) ⟨given_own H 1 rfl, .inl ⟨0, rfl⟩⟩ (by decide)).mono ?_
    rintro e w' ⟨he, h⟩
    rw [hk] at he
    exact ⟨he, h.drop2⟩
  have PA : Hid (∀ (s : FS) (p : Nat) (wx : World), Own.St w.heap.size w wx [K.A p s] → Calls Try.prog 19 #[.int .u8 7] wx fun e w' => ∃ g, e = .returned (.slice (some ⟨g, 0, none⟩) 128 128) ∧ Own.St w.heap.size w w' [K.A p s, AB (some ⟨g, 0, none⟩) 128 128 seven]) := by
    intro s p wx H
    refine (page_any 7 H).mono ?_
    rintro e w' ⟨g, he, h⟩
    exact ⟨g, he, h.swap2⟩
  have CR : Hid (∀ (s : FS) (N : Nat) (p : Nat) (wx : World), Own.St w.heap.size w wx [K.A p s] → Ok s N → N ≤ 10 → read s 0 1 = (seven, 0) → Calls Try.prog 23 #[ptr p, .int .i64 0, .int .i64 1] wx fun e w' => ∃ ao cap, e = .returned (.tuple #[.slice ao 128 cap, .int .i64 0]) ∧ Own.St w.heap.size w w' [AB ao 128 cap seven, K.A p s]) := by
    intro s N p wx H ok hN hr
    have h := K.read 0 1 (HW.out _ H.below) H ok (by omega) (by decide) (by decide)
    rw [hr] at h
    exact h
  go_enter Try.func11, Try.ntmps11
  go_wp2_with (fail)
  refine CN.out.mono ?_
  rintro e w0 ⟨p, rfl, h0⟩
  have H0 := Lib.hid h0
  clear h0
  go_wp2_with (fail)
  refine (PA.out _ p w0 H0.out).mono ?_
  rintro e w0a ⟨g0, rfl, h0⟩
  have Q0 := Lib.hid h0
  clear h0
  go_wp2_with (fail)
  refine (OP.out _ _ 0 p w0a g0 Q0.out ex0 (by decide) er1).mono ?_
  rintro e w1 ⟨rfl, h1⟩
  have H1 := Lib.hid h1
  clear h1 Q0 H0
  go_wp2_with (fail)
  refine (PA.out _ p w1 H1.out).mono ?_
  rintro e w1a ⟨g1, rfl, h1⟩
  have Q1 := Lib.hid h1
  clear h1
  go_wp2_with (fail)
  refine (OP.out _ _ 70 p w1a g1 Q1.out ex1 (by decide) er2).mono ?_
  rintro e w2 ⟨rfl, h2⟩
  have H2 := Lib.hid h2
  clear h2 Q1 H1
  go_wp2_with (fail)
  refine (K.erase 0 (HW.out _ H2.out.below) H2.out ex2 (by decide) (by decide)).mono ?_
  rintro e w3 ⟨he3, h3⟩
  have he3' : e = .returned (.int .i64 0) := by rw [he3]; exact congrArg (fun n : Nat => Ending.returned (.int .i64 (n : Int))) er3
  subst he3'
  have H3 := Lib.hid h3
  clear h3 H2 he3
  go_wp2_with (fail)
  refine (PA.out _ p w3 H3.out).mono ?_
  rintro e w3a ⟨g3, rfl, h3⟩
  have Q3 := Lib.hid h3
  clear h3
  go_wp2_with (fail)
  refine (OP.out _ _ 0 p w3a g3 Q3.out ex3 (by decide) er4).mono ?_
  rintro e w4 ⟨rfl, h4⟩
  have H4 := Lib.hid h4
  clear h4 Q3 H3
  have hbx := H4.out.boxV 3 (([128, 0, 5] : List Int).map (Value.int .i64))
  have HBX := Lib.hid hbx.swap2
  clear hbx
  go_wp2_with (fail)
  refine (K.crash (some ⟨w4.heap.size, 0, none⟩) 3 3 [128, 0, 5] (HW.out _ HBX.out.below) HBX.out ex4 (by decide) ⟨rfl, ⟨Nat.le_refl _, by decide⟩, (fun h => by cases h), (fun j hj => ?_), .inl ⟨0, w4.heap.size, rfl, rfl⟩⟩).mono ?_
  · match j, hj with
    | 0, _ => decide
    | 1, _ => decide
    | 2, _ => decide
  rintro e w5 ⟨rfl, h5⟩
  have H5 := Lib.hid h5.drop2
  clear h5 HBX H4
  go_wp2_with (fail)
  refine (CR.out _ _ p w5 H5.out ex5 (by decide) er5).mono ?_
  rintro e w6 ⟨a9, c9, rfl, h6⟩
  have H6 := Lib.hid h6
  have G9 : Hid (Given w6 a9 128 c9 seven) := given_own h6 0 rfl
  clear h6 H5
  go_wp2_with (fail)
  refine wp_lax_list (by kernel_rfl) (by kernel_rfl) (by kernel_rfl) ?_
  refine wpL_move (.int .i64 0) rfl (by kernel_rfl) (by kernel_rfl) (by kernel_rfl) (by kernel_rfl) ?_
  refine wpL_run1 (x := .tmp 38) (.int .i64 0) (.bool true) (by kernel_rfl) (by kernel_rfl) (by kernel_rfl) (by kernel_rfl) (by kernel_rfl) (fun wx ρ hwx h0 hc => by simp [go_sem, h0, hc]) ?_
  refine wpL_move (.bool true) rfl (by kernel_rfl) (by kernel_rfl) (by kernel_rfl) (by kernel_rfl) ?_
  refine wpL_move (.int .i64 70) rfl (by kernel_rfl) (by kernel_rfl) (by kernel_rfl) (by kernel_rfl) ?_
  refine wpL_run1 (x := .tmp 41) (.int .i64 70) (.bool true) (by kernel_rfl) (by kernel_rfl) (by kernel_rfl) (by kernel_rfl) (by kernel_rfl) (fun wx ρ hwx h0 hc => by simp [go_sem, h0, hc]) ?_
  refine wpL_run2 (x := .tmp 40) (y := .tmp 42) (.bool true) (.bool true) (.bool true) (by kernel_rfl) (by kernel_rfl) (by kernel_rfl) (by kernel_rfl) (by kernel_rfl) (by kernel_rfl) (fun wx ρ hwx h0 h1 hc => by simp [go_sem, h0, h1]) ?_
  refine wpL_move (.bool true) rfl (by kernel_rfl) (by kernel_rfl) (by kernel_rfl) (by kernel_rfl) ?_
  refine wpL_move (.int .i64 0) rfl (by kernel_rfl) (by kernel_rfl) (by kernel_rfl) (by kernel_rfl) ?_
  refine wpL_run1 (x := .tmp 45) (.int .i64 0) (.bool true) (by kernel_rfl) (by kernel_rfl) (by kernel_rfl) (by kernel_rfl) (by kernel_rfl) (fun wx ρ hwx h0 hc => by simp [go_sem, h0, hc]) ?_
  refine wpL_run2 (x := .tmp 44) (y := .tmp 46) (.bool true) (.bool true) (.bool true) (by kernel_rfl) (by kernel_rfl) (by kernel_rfl) (by kernel_rfl) (by kernel_rfl) (by kernel_rfl) (fun wx ρ hwx h0 h1 hc => by simp [go_sem, h0, h1]) ?_
  refine wpL_move (.bool true) rfl (by kernel_rfl) (by kernel_rfl) (by kernel_rfl) (by kernel_rfl) ?_
  refine wpL_move (.int .i64 0) rfl (by kernel_rfl) (by kernel_rfl) (by kernel_rfl) (by kernel_rfl) ?_
  refine wpL_run1 (x := .tmp 49) (.int .i64 0) (.bool true) (by kernel_rfl) (by kernel_rfl) (by kernel_rfl) (by kernel_rfl) (by kernel_rfl) (fun wx ρ hwx h0 hc => by simp [go_sem, h0, hc]) ?_
  refine wpL_run2 (x := .tmp 48) (y := .tmp 50) (.bool true) (.bool true) (.bool true) (by kernel_rfl) (by kernel_rfl) (by kernel_rfl) (by kernel_rfl) (by kernel_rfl) (by kernel_rfl) (fun wx ρ hwx h0 h1 hc => by simp [go_sem, h0, h1]) ?_
  refine wpL_move (.bool true) rfl (by kernel_rfl) (by kernel_rfl) (by kernel_rfl) (by kernel_rfl) ?_
  refine wpL_move (.slice a9 128 c9) rfl (by kernel_rfl) (by kernel_rfl) (by kernel_rfl) (by kernel_rfl) ?_
  refine wpL_convK (.slice a9 128 c9) (.string (strB seven)) rfl (by kernel_rfl) (by kernel_rfl) (by kernel_rfl) (by kernel_rfl) (fun wx hwx => given_str (G9.out.later hwx)) ?_
  refine wpL_fnT (tyG seven) [.int .u8 7] rfl rfl (by kernel_rfl) (by kernel_rfl) (by kernel_rfl) (by kernel_rfl) (fun _ _ => by simp [go_sem]) (fun wx hwx => PG.out wx) ?_
  refine wpL_conv (.string (strB seven)) rfl rfl (by kernel_rfl) (by kernel_rfl) (fun u wx hwx hu => tyG_str hu) ?_
  refine wpL_run2 (x := .tmp 54) (y := .tmp 56) (.string (strB seven)) (.string (strB seven)) (.bool true) (by kernel_rfl) (by kernel_rfl) (by kernel_rfl) (by kernel_rfl) (by kernel_rfl) (by kernel_rfl) (fun wx ρ hwx h0 h1 hc => by simp [go_sem, h0, h1, hc]) ?_
  refine wpL_run2 (x := .tmp 52) (y := .tmp 57) (.bool true) (.bool true) (.bool true) (by kernel_rfl) (by kernel_rfl) (by kernel_rfl) (by kernel_rfl) (by kernel_rfl) (by kernel_rfl) (fun wx ρ hwx h0 h1 hc => by simp [go_sem, h0, h1]) ?_
  refine wpL_move (.bool true) rfl (by kernel_rfl) (by kernel_rfl) (by kernel_rfl) (by kernel_rfl) ?_
  refine wpL_move (.int .i64 0) rfl (by kernel_rfl) (by kernel_rfl) (by kernel_rfl) (by kernel_rfl) ?_
  refine wpL_run1 (x := .tmp 60) (.int .i64 0) (.bool true) (by kernel_rfl) (by kernel_rfl) (by kernel_rfl) (by kernel_rfl) (by kernel_rfl) (fun wx ρ hwx h0 hc => by simp [go_sem, h0, hc]) ?_
  refine wpL_run2 (x := .tmp 59) (y := .tmp 61) (.bool true) (.bool true) (.bool true) (by kernel_rfl) (by kernel_rfl) (by kernel_rfl) (by kernel_rfl) (by kernel_rfl) (by kernel_rfl) (fun wx ρ hwx h0 h1 hc => by simp [go_sem, h0, h1]) ?_
  refine wpL_assign (.bool true) rfl (by kernel_rfl) (by kernel_rfl) (by kernel_rfl) (by kernel_rfl) ?_
  refine wpL_end (by kernel_rfl) (fun wd hwd => ?_)
  simp only [FinL, setL, List.set_cons_zero, List.set_cons_succ]
  intro v _
  have H9 := Lib.hid (H6.out.later hwd)
  clear hwd
  go_wp2
  go_ret
  exact ⟨rfl, H9.out.below⟩
end Fla
end Go.Proofs.Ytepllhfofhehaaa
