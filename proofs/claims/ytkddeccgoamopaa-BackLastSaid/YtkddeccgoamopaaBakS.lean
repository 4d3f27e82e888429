/- The examples at the head of all statements of layer 8. -/
import Derived.Test.YtkddeccgoamopaaBakQ
namespace Go.Proofs.Ytkddeccgoamopaa
open Go.RowKit Go.Own
namespace Bak
open Go.BakM Byt

def RetYes (w : World) (e : Ending) (w' : World) : Prop := e = .returned (.bool true) ∧ Below w.heap.size w w'
def seven : Bs := List.replicate 256 7
theorem seven_len : seven.length = 256 := by unfold seven; exact List.length_replicate ..
theorem block_ty (c : UInt8) (wx : World) : Calls Try.prog 15 #[.int .u8 c.toNat] wx fun e w' => ∃ v, e = .returned v ∧ (tyG (List.replicate 256 c)).holds v w' ∧ Below wx.heap.size wx w' := by
  refine (block_any c (Own.St.start wx)).mono ?_
  rintro e w' ⟨g, rfl, h⟩
  have hl : (List.replicate 256 c).length = 256 := List.length_replicate
  refine ⟨_, rfl, ⟨some ⟨g, 0, none⟩, 256, by rw [hl], ?_⟩, h.below⟩
  rw [hl]
  exact given_own h 0 rfl

def x0 : DS := fresh 2
def x1 : DS := (write x0 1 seven).1
def x2 : DS := crash x1 0
def x3 : DS := (write x2 1 seven).1
def x4 : DS := crash x3 1
theorem ex0 : Ok x0 0 := ok_fresh 2 (by decide)
theorem ex1 : Ok x1 1 := ok_write ex0 _ _
theorem ex2 : Ok x2 1 := ok_crash ex1 _
theorem ex3 : Ok x3 2 := ok_write ex2 _ _
theorem ex4 : Ok x4 2 := ok_crash ex3 _
theorem er1 : (write x0 1 seven).2 = 0 := by decide +kernel
theorem er2 : BakM.read x2 1 = (BakM.blank, 0) := by decide +kernel
theorem er3 : (write x2 1 seven).2 = 0 := by decide +kernel
theorem er4 : BakM.read x4 1 = (seven, 0) := by decide +kernel

set_option maxRecDepth 4000 in
set_option maxHeartbeats 4000000 in
theorem shown_any {W w : World} (K : Kept W) (hW : Below W.heap.size W w) : Calls Try.prog 8 #[] w (RetYes w) := by
  have HW := Lib.hid (fun wx (hwx : Below w.heap.size w wx) => hW.trans (hwx.mono hW.size))
  have PG : Hid (∀ wx, Calls Try.prog 15 #[.int .u8 7] wx fun e w' => ∃ v, e = .returned v ∧ (tyG seven).holds v w' ∧ Below wx.heap.size wx w') := fun wx => block_ty 7 wx
  have PZ : Hid (∀ wx, Calls Try.prog 15 #[.int .u8 0] wx fun e w' => ∃ v, e = .returned v ∧ (tyG BakM.blank).holds v w' ∧ Below wx.heap.size wx w') := fun wx => block_ty 0 wx
  have CN : Hid (Calls Try.prog 9 #[.int .i64 2] w fun e w' => ∃ p, e = .returned (.tuple #[qtr p, .int .i64 0]) ∧ Own.St w.heap.size w w' [K.A p x0]) := by
    refine (K.new 2 hW (Own.St.start w) (by decide)).mono ?_
    intro e w' h
    rw [if_pos (by decide)] at h
    exact h
  have OP : Hid (∀ (Ps : List Asn) (s : DS) (N k : Nat) (p : Nat) (wx : World) (g : Nat), Own.St w.heap.size w wx (K.A p s :: AB (some ⟨g, 0, none⟩) 256 256 seven :: Ps) → Ok s N → N ≤ 10 → (write s 1 seven).2 = k → Calls Try.prog 14 #[qtr p, .int .i64 1, .slice (some ⟨g, 0, none⟩) 256 256] wx fun e w' => e = .returned (.int .i64 (k : Int)) ∧ Own.St w.heap.size w w' (K.A p (write s 1 seven).1 :: Ps)) := by
    intro Ps s N k p wx g H ok hN hk
    refine (K.write 1 (some ⟨g, 0, none⟩) 256 256 seven (HW.out _ H.below) H ok (by omega) (by decide) (lies_part (k := 0) H (by omega)) (by decide)).mono ?_
    rintro e w' ⟨he, h⟩
    rw [hk] at he
    exact ⟨he, h.drop2⟩
  have PA : Hid (∀ (Ps : List Asn) (s : DS) (p : Nat) (wx : World), Own.St w.heap.size w wx (K.A p s :: Ps) → Calls Try.prog 15 #[.int .u8 7] wx fun e w' => ∃ g, e = .returned (.slice (some ⟨g, 0, none⟩) 256 256) ∧ Own.St w.heap.size w w' (K.A p s :: AB (some ⟨g, 0, none⟩) 256 256 seven :: Ps)) := by
    intro Ps s p wx H
    refine (block_any 7 H).mono ?_
    rintro e w' ⟨g, he, h⟩
    exact ⟨g, he, h.swap2⟩
  have CR : Hid (∀ (Ps : List Asn) (s : DS) (N : Nat) (p : Nat) (wx : World) (x : Bs), Own.St w.heap.size w wx (K.A p s :: Ps) → Ok s N → N ≤ 10 → BakM.read s 1 = (x, 0) → x.length = 256 → Calls Try.prog 21 #[qtr p, .int .i64 1] wx fun e w' => ∃ ao cap, e = .returned (.tuple #[.slice ao 256 cap, .int .i64 0]) ∧ Own.St w.heap.size w w' (K.A p s :: AB ao 256 cap x :: Ps)) := by
    intro Ps s N p wx x H ok hN hr hx
    refine (K.read 1 (HW.out _ H.below) H ok (by omega) (by decide)).mono ?_
    rw [hr]
    rintro e w' ⟨ao, cap, rfl, h⟩
    rw [show ((x, 0) : Bs × Nat).1.length = 256 from hx] at h ⊢
    exact ⟨ao, cap, rfl, h.swap2⟩
  go_enter Try.func8, Try.ntmps8
  go_wp2_with (fail)
  refine CN.out.mono ?_
  rintro e w0 ⟨p, rfl, h0⟩
  have H0 := Lib.hid h0
  clear h0
  go_wp2_with (fail)
  refine (PA.out _ _ p w0 H0.out).mono ?_
  rintro e w0a ⟨g0, rfl, h0⟩
  have Q0 := Lib.hid h0
  clear h0
  go_wp2_with (fail)
  refine (OP.out _ _ _ 0 p w0a g0 Q0.out ex0 (by decide) er1).mono ?_
  rintro e w1 ⟨rfl, h1⟩
  have H1 := Lib.hid h1
  clear h1 Q0 H0
  go_wp2_with (fail)
  refine (K.crash 0 (HW.out _ H1.out.below) H1.out ex1 (by decide) (by decide)).mono ?_
  rintro e w2 ⟨rfl, h2⟩
  have H2 := Lib.hid h2
  clear h2 H1
  go_wp2_with (fail)
  refine (CR.out _ _ _ p w2 _ H2.out ex2 (by decide) er2 BakM.blank_len).mono ?_
  rintro e w3 ⟨a8, c8, rfl, h3⟩
  have H3 := Lib.hid h3
  clear h3 H2
  go_wp2_with (fail)
  refine (PA.out _ _ p w3 H3.out).mono ?_
  rintro e w3a ⟨g3, rfl, h3⟩
  have Q3 := Lib.hid h3
  clear h3
  go_wp2_with (fail)
  refine (OP.out _ _ _ 0 p w3a g3 Q3.out ex2 (by decide) er3).mono ?_
  rintro e w4 ⟨rfl, h4⟩
  have H4 := Lib.hid h4
  clear h4 Q3 H3
  go_wp2_with (fail)
  refine (K.crash 1 (HW.out _ H4.out.below) H4.out ex3 (by decide) (by decide)).mono ?_
  rintro e w5 ⟨rfl, h5⟩
  have H5 := Lib.hid h5
  clear h5 H4
  go_wp2_with (fail)
  refine (CR.out _ _ _ p w5 _ H5.out ex4 (by decide) er4 seven_len).mono ?_
  rintro e w6 ⟨a9, c9, rfl, h6⟩
  have H6 := Lib.hid h6
  have G9 := Lib.hid (given_own h6 1 rfl)
  have G8 := Lib.hid (given_own h6 2 rfl)
  clear h6 H5
  go_wp2_with (fail)
  refine wp_lax_list (by kernel_rfl) (by kernel_rfl) (by kernel_rfl) ?_
  refine wpL_move (.slice a8 256 c8) rfl (by kernel_rfl) (by kernel_rfl) (by kernel_rfl) (by kernel_rfl) ?_
  refine wpL_convK (.slice a8 256 c8) (.string (strB BakM.blank)) rfl (by kernel_rfl) (by kernel_rfl) (by kernel_rfl) (by kernel_rfl) (fun wx hwx => given_str (G8.out.later hwx)) ?_
  refine wpL_fnT (tyG BakM.blank) [.int .u8 0] rfl rfl (by kernel_rfl) (by kernel_rfl) (by kernel_rfl) (by kernel_rfl) (fun _ _ => by simp [go_sem]) (fun wx hwx => PZ.out wx) ?_
  refine wpL_conv (.string (strB BakM.blank)) rfl rfl (by kernel_rfl) (by kernel_rfl) (fun u wx hwx hu => tyG_str hu) ?_
  refine wpL_run2 (x := .tmp 42) (y := .tmp 44) (.string (strB BakM.blank)) (.string (strB BakM.blank)) (.bool true) (by kernel_rfl) (by kernel_rfl) (by kernel_rfl) (by kernel_rfl) (by kernel_rfl) (by kernel_rfl) (fun wx ρ hwx h0 h1 hc => by simp [go_sem, h0, h1, hc]) ?_
  refine wpL_move (.bool true) rfl (by kernel_rfl) (by kernel_rfl) (by kernel_rfl) (by kernel_rfl) ?_
  refine wpL_move (.slice a9 256 c9) rfl (by kernel_rfl) (by kernel_rfl) (by kernel_rfl) (by kernel_rfl) ?_
  refine wpL_convK (.slice a9 256 c9) (.string (strB seven)) rfl (by kernel_rfl) (by kernel_rfl) (by kernel_rfl) (by kernel_rfl) (fun wx hwx => given_str (G9.out.later hwx)) ?_
  refine wpL_fnT (tyG seven) [.int .u8 7] rfl rfl (by kernel_rfl) (by kernel_rfl) (by kernel_rfl) (by kernel_rfl) (fun _ _ => by simp [go_sem]) (fun wx hwx => PG.out wx) ?_
  refine wpL_conv (.string (strB seven)) rfl rfl (by kernel_rfl) (by kernel_rfl) (fun u wx hwx hu => tyG_str hu) ?_
  refine wpL_run2 (x := .tmp 48) (y := .tmp 50) (.string (strB seven)) (.string (strB seven)) (.bool true) (by kernel_rfl) (by kernel_rfl) (by kernel_rfl) (by kernel_rfl) (by kernel_rfl) (by kernel_rfl) (fun wx ρ hwx h0 h1 hc => by simp [go_sem, h0, h1, hc]) ?_
  refine wpL_run2 (x := .tmp 46) (y := .tmp 51) (.bool true) (.bool true) (.bool true) (by kernel_rfl) (by kernel_rfl) (by kernel_rfl) (by kernel_rfl) (by kernel_rfl) (by kernel_rfl) (fun wx ρ hwx h0 h1 hc => by simp [go_sem, h0, h1, hc]) ?_
  refine wpL_move (.bool true) rfl (by kernel_rfl) (by kernel_rfl) (by kernel_rfl) (by kernel_rfl) ?_
  refine wpL_move (.int .i64 0) rfl (by kernel_rfl) (by kernel_rfl) (by kernel_rfl) (by kernel_rfl) ?_
  refine wpL_run1 (x := .tmp 54) (.int .i64 0) (.bool true) (by kernel_rfl) (by kernel_rfl) (by kernel_rfl) (by kernel_rfl) (by kernel_rfl) (fun wx ρ hwx h0 hc => by simp [go_sem, h0, hc]) ?_
  refine wpL_run2 (x := .tmp 53) (y := .tmp 55) (.bool true) (.bool true) (.bool true) (by kernel_rfl) (by kernel_rfl) (by kernel_rfl) (by kernel_rfl) (by kernel_rfl) (by kernel_rfl) (fun wx ρ hwx h0 h1 hc => by simp [go_sem, h0, h1, hc]) ?_
  refine wpL_move (.bool true) rfl (by kernel_rfl) (by kernel_rfl) (by kernel_rfl) (by kernel_rfl) ?_
  refine wpL_move (.int .i64 0) rfl (by kernel_rfl) (by kernel_rfl) (by kernel_rfl) (by kernel_rfl) ?_
  refine wpL_run1 (x := .tmp 58) (.int .i64 0) (.bool true) (by kernel_rfl) (by kernel_rfl) (by kernel_rfl) (by kernel_rfl) (by kernel_rfl) (fun wx ρ hwx h0 hc => by simp [go_sem, h0, hc]) ?_
  refine wpL_run2 (x := .tmp 57) (y := .tmp 59) (.bool true) (.bool true) (.bool true) (by kernel_rfl) (by kernel_rfl) (by kernel_rfl) (by kernel_rfl) (by kernel_rfl) (by kernel_rfl) (fun wx ρ hwx h0 h1 hc => by simp [go_sem, h0, h1, hc]) ?_
  refine wpL_move (.bool true) rfl (by kernel_rfl) (by kernel_rfl) (by kernel_rfl) (by kernel_rfl) ?_
  refine wpL_move (.int .i64 0) rfl (by kernel_rfl) (by kernel_rfl) (by kernel_rfl) (by kernel_rfl) ?_
  refine wpL_run1 (x := .tmp 62) (.int .i64 0) (.bool true) (by kernel_rfl) (by kernel_rfl) (by kernel_rfl) (by kernel_rfl) (by kernel_rfl) (fun wx ρ hwx h0 hc => by simp [go_sem, h0, hc]) ?_
  refine wpL_run2 (x := .tmp 61) (y := .tmp 63) (.bool true) (.bool true) (.bool true) (by kernel_rfl) (by kernel_rfl) (by kernel_rfl) (by kernel_rfl) (by kernel_rfl) (by kernel_rfl) (fun wx ρ hwx h0 h1 hc => by simp [go_sem, h0, h1, hc]) ?_
  refine wpL_assign (.bool true) rfl (by kernel_rfl) (by kernel_rfl) (by kernel_rfl) (by kernel_rfl) ?_
  refine wpL_end (by kernel_rfl) (fun wd hwd => ?_)
  simp only [FinL, setL, List.set_cons_zero, List.set_cons_succ]
  intro v _ v2 _
  have H9 := Lib.hid (H6.out.later hwd)
  clear hwd
  go_wp2
  go_ret
  exact ⟨rfl, H9.out.below⟩
end Bak
end Go.Proofs.Ytkddeccgoamopaa
