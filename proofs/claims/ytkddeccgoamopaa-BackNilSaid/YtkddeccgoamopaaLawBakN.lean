/- does of a nil disk; BackNil. -/
import Derived.Test.YtkddeccgoamopaaBakS
namespace Go.Proofs.Ytkddeccgoamopaa
open Go.RowKit Go.Own
namespace Bak
open Go.BakM Byt

section
set_option maxHeartbeats 4000000 in
theorem does_nil {W w : World} (K : Kept W) (a : ActD) :
    Calls Try.prog 16 #[.pointer none, .agg (actVs a).toArray] w fun e w' => e = .returned (errW (if a.kind.toNat % 5 < 2 then 2 else 0)) ∧ Below w.heap.size w w' := by
  obtain ⟨vs, hvs⟩ : ∃ vs, vs = actVs a := ⟨_, rfl⟩
  rw [← hvs]
  have VL : Hid (vs.length = 6) := by rw [hvs]; exact rfl
  obtain ⟨b, hbd⟩ : ∃ b, b = w.heap.size := ⟨_, rfl⟩
  obtain ⟨w1, hw1⟩ : ∃ w1, w1 = w.alloc (.cells vs.toArray 34) := ⟨_, rfl⟩
  have hbox := (Own.St.start w).boxV 34 vs
  rw [← hbd, ← hw1] at hbox
  have g1 : Below w.heap.size w w1 := by rw [hw1]; exact ((Own.St.start w).alloc _).below
  have G1 := Lib.hid g1
  have hcl : ∀ j v, vs[j]? = some v → ∀ wx, Below w1.heap.size w1 wx → wx.cell? ⟨b, j, none⟩ = some v := fun j v hv wx hwx => cellLater (hbox.cellV 0 rfl j hv).1 hwx
  have C0 := hcl 0 (.int .u8 (a.kind.toNat : Int)) (by rw [hvs]; rfl) w1 (Below.refl _ _)
  have C1 := Lib.hid (hcl 1 (.int .i64 a.pos) (by rw [hvs]; rfl))
  have C2 := Lib.hid (hcl 2 (.int .i64 a.n) (by rw [hvs]; rfl))
  have C5 := Lib.hid (hcl 5 (.int .u64 (a.there : Int)) (by rw [hvs]; rfl))
  have BLK : Hid (w1.heap[b]? = some (.cells vs.toArray 34 (0, 0))) := hbox.rowV 0 rfl
  have CB : Hid (∀ wx, Below w1.heap.size w1 wx → Calls Try.prog 24 #[.agg vs.toArray] wx fun e w' => ∃ v, e = .returned v ∧ (tyBl w1.heap.size a.c (gapOf a)).holds v w' ∧ Below wx.heap.size wx w') := by
    intro wx hwx
    rw [hvs]
    exact bytes_fresh w1.heap.size a wx hwx.size
  obtain ⟨r, hr⟩ : ∃ r, r = a.kind.toNat % 5 := ⟨_, rfl⟩
  have hr5 : r < 5 := by omega
  have hri : (a.kind.toNat : Int) % 5 = (r : Int) := by omega
  have hkb : a.kind.toNat < 256 := a.kind.toNat_lt
  rw [← hr]
  clear hcl hr hbox g1 hvs
  match r, hr5 with
  | 0, _ =>
    have hri0 : (a.kind.toNat : Int) % 5 = 0 := hri
    clear hri
    go_enter Try.func16, Try.ntmps16
    rw [hw1, hbd] at C0
    go_wp2_with (fail)
    rw [← hw1, ← hbd]
    clear C0 hw1 hbd
    refine wp_laxW_list 5 (by kernel_rfl) (by kernel_rfl) (by kernel_rfl) (by kernel_rfl) (by kernel_rfl) ?_
    simp only [List.take_succ_cons, List.take_zero, List.drop_succ_cons, List.drop_zero]
    refine wpL_move (.pointer none) rfl (by kernel_rfl) (by kernel_rfl) (by kernel_rfl) (by kernel_rfl) ?_
    refine wpL_run1 (x := .tmp 3) (.pointer (some ⟨b, 0, none⟩)) (.pointer (some ⟨b, 1, none⟩)) (by kernel_rfl) (by kernel_rfl) (by kernel_rfl) (by kernel_rfl) (by kernel_rfl) (fun wx ρ hwx h0 hc => by simp [go_sem, h0, hc]) ?_
    refine wpL_run1 (x := .tmp 11) (.pointer (some ⟨b, 1, none⟩)) (.int .i64 a.pos) (by kernel_rfl) (by kernel_rfl) (by kernel_rfl) (by kernel_rfl) (by kernel_rfl) (fun wx ρ hwx h0 hc => by simp [go_sem, h0, hc, C1.out wx hwx]) ?_
    refine wpL_run1 (x := .tmp 3) (.pointer (some ⟨b, 0, none⟩)) (.agg vs.toArray) (by kernel_rfl) (by kernel_rfl) (by kernel_rfl) (by kernel_rfl) (by kernel_rfl) (fun wx ρ hwx h0 hc => load_actV rfl VL.out BLK.out hwx ρ h0) ?_
    refine wpL_fnT (tyBl w1.heap.size a.c (gapOf a)) [.agg vs.toArray] rfl rfl (by kernel_rfl) (by kernel_rfl) (by kernel_rfl) (by kernel_rfl) (fun _ _ => by simp [go_sem]) (fun wx hwx => CB.out wx hwx) ?_
    refine wpL_end (by kernel_rfl) (fun wd hwd => ?_)
    simp only [FinL, setL, List.set_cons_zero, List.set_cons_succ]
    intro v _ _
    have G2 := Lib.hid (G1.out.trans (hwd.mono G1.out.size))
    clear hwd
    go_wp2_with (fail)
    refine (K.nilWrite a.pos v wd).mono ?_
    rintro e w2 ⟨rfl, h2⟩
    have G3 := Lib.hid (G2.out.trans (h2.mono G2.out.size))
    clear h2
    go_wp2
    go_ret
    exact ⟨rfl, G3.out⟩
  | 1, _ =>
    have hri0 : (a.kind.toNat : Int) % 5 = 1 := hri
    clear hri
    go_enter Try.func16, Try.ntmps16
    rw [hw1, hbd] at C0
    go_wp2_with (fail)
    rw [← hw1]
    clear C0 hw1 hbd
    refine (K.nilBarrier w1).mono ?_
    rintro e w2 ⟨rfl, h2⟩
    have G3 := Lib.hid (G1.out.trans (h2.mono G1.out.size))
    clear h2
    go_wp2
    go_ret
    exact ⟨rfl, G3.out⟩
  | 2, _ =>
    have hri0 : (a.kind.toNat : Int) % 5 = 2 := hri
    clear hri
    have D := C2.out w1 (Below.refl _ _)
    go_enter Try.func16, Try.ntmps16
    rw [hw1, hbd] at C0 D
    go_wp2_with (fail)
    rw [← hw1]
    clear C0 hw1 hbd D
    refine (K.nilCut a.n w1).mono ?_
    rintro e w2 ⟨rfl, h2⟩
    have G3 := Lib.hid (G1.out.trans (h2.mono G1.out.size))
    clear h2
    go_wp2
    go_ret
    exact ⟨rfl, G3.out⟩
  | 3, _ =>
    have hri0 : (a.kind.toNat : Int) % 5 = 3 := hri
    clear hri
    have D := C5.out w1 (Below.refl _ _)
    go_enter Try.func16, Try.ntmps16
    rw [hw1, hbd] at C0 D
    go_wp2_with (fail)
    rw [← hw1]
    clear C0 hw1 hbd D
    refine (K.nilCrash (.int .u64 (a.there : Int)) w1).mono ?_
    rintro e w2 ⟨rfl, h2⟩
    have G3 := Lib.hid (G1.out.trans (h2.mono G1.out.size))
    clear h2
    go_wp2
    go_ret
    exact ⟨rfl, G3.out⟩
  | 4, _ =>
    have hri0 : (a.kind.toNat : Int) % 5 = 4 := hri
    clear hri
    go_enter Try.func16, Try.ntmps16
    rw [hw1, hbd] at C0
    go_wp2_with (fail)
    go_ret
    rw [← hw1]
    exact ⟨rfl, G1.out⟩
end

set_option maxHeartbeats 4000000 in
theorem walk_nil (vs0 : Array Value) (a : ActD) {w : World} (w0 : inAct a w.heap.size w vs0.toList) (K : Kept w) :
    Calls Try.prog 6 #[.agg vs0] w (RetYes w) := by
  obtain ⟨hcs, _⟩ := w0
  obtain ⟨vs, hvs⟩ : ∃ vs, vs = actVs a := ⟨_, rfl⟩
  rw [← hvs] at hcs
  obtain rfl : vs0 = vs.toArray := by rw [← hcs]
  have VL : Hid (vs.length = 6) := by rw [hvs]; exact rfl
  obtain ⟨b, hbd⟩ : ∃ b, b = w.heap.size := ⟨_, rfl⟩
  obtain ⟨w1, hw1⟩ : ∃ w1, w1 = w.alloc (.cells vs.toArray 34) := ⟨_, rfl⟩
  have hbox := (Own.St.start w).boxV 34 vs
  rw [← hbd, ← hw1] at hbox
  have g1 : Below w.heap.size w w1 := by rw [hw1]; exact ((Own.St.start w).alloc _).below
  have G1 := Lib.hid g1
  have LACT := Lib.hid (fun wx (hwx : Below w1.heap.size w1 wx) (ρ : Operand → Value) (o : Oper) (x : Tmp) (ho : o.op = .load 34 (.tmp x)) (h0 : ρ (.tmp x) = .pointer (some ⟨b, 0, none⟩)) => load_actV ho VL.out (hbox.rowV 0 rfl) hwx ρ h0)
  have hcl : ∀ j v, vs[j]? = some v → ∀ wx, Below w1.heap.size w1 wx → wx.cell? ⟨b, j, none⟩ = some v := fun j v hv wx hwx => cellLater (hbox.cellV 0 rfl j hv).1 hwx
  have C0 := Lib.hid (hcl 0 (.int .u8 (a.kind.toNat : Int)) (by rw [hvs]; rfl))
  have C1 := Lib.hid (hcl 1 (.int .i64 a.pos) (by rw [hvs]; rfl))
  have C2 := Lib.hid (hcl 2 (.int .i64 a.n) (by rw [hvs]; rfl))
  have C5 := Lib.hid (hcl 5 (.int .u64 (a.there : Int)) (by rw [hvs]; rfl))
  have SH := Lib.hid (shown_any K g1)
  obtain ⟨r, hr⟩ : ∃ r, r = a.kind.toNat % 5 := ⟨_, rfl⟩
  have hri : (a.kind.toNat : Int) % 5 = (r : Int) := by omega
  have hkb : a.kind.toNat < 256 := a.kind.toNat_lt
  obtain ⟨er, her⟩ : ∃ er : Nat, er = if r < 2 then 2 else 0 := ⟨_, rfl⟩
  have HER := Lib.hid her
  have DN : Hid (∀ wx, Calls Try.prog 16 #[.pointer none, .agg vs.toArray] wx fun e w' => e = .returned (.int .i64 (er : Int)) ∧ Below wx.heap.size wx w') := by
    intro wx
    have h := does_nil K (w := wx) a
    rw [hvs, her, hr]
    exact h
  clear hbox hcl g1 hr hvs her
  go_enter Try.func6, Try.ntmps6
  go_wp2_with (fail)
  rw [← hw1]
  refine SH.out.mono ?_
  rintro e w2 ⟨rfl, h2⟩
  have B2 := Lib.hid h2
  have G2 := Lib.hid (G1.out.trans (h2.mono G1.out.size))
  clear h2
  rw [← hbd]
  clear hbd hw1
  go_wp2_with (refine Byt.wpList_val rfl (LACT.out _ B2.out _ _ _ rfl rfl) ?_)
  refine (DN.out w2).mono ?_
  rintro e w3 ⟨rfl, h3⟩
  have B3 := Lib.hid (B2.out.trans (h3.mono B2.out.size))
  have G3 := Lib.hid (G2.out.trans (h3.mono G2.out.size))
  have c1 := C1.out w3 B3.out
  clear h3 B2 G2
  go_wp2_with (fail)
  refine (K.nilRead a.pos w3).mono ?_
  rintro e w4 ⟨ar, cr, rfl, h4⟩
  have B4 := Lib.hid (B3.out.trans (h4.mono B3.out.size))
  have G4 := Lib.hid (G3.out.trans (h4.mono G3.out.size))
  clear h4 c1 B3 G3
  have c2 := C2.out w4 B4.out
  go_wp2_with (fail)
  refine (K.nilCut a.n w4).mono ?_
  rintro e w5 ⟨rfl, h5⟩
  have B5 := Lib.hid (B4.out.trans (h5.mono B4.out.size))
  have G5 := Lib.hid (G4.out.trans (h5.mono G4.out.size))
  clear h5 c2 B4 G4
  have c5 := C5.out w5 B5.out
  go_wp2_with (fail)
  refine (K.nilCrash _ w5).mono ?_
  rintro e w6 ⟨rfl, h6⟩
  have B6 := Lib.hid (B5.out.trans (h6.mono B5.out.size))
  have G6 := Lib.hid (G5.out.trans (h6.mono G5.out.size))
  clear h6 c5 B5 G5
  have c0 := C0.out w6 B6.out
  have CS := Lib.hid (fun wx => K.nilBlocks wx)
  have CD := Lib.hid (fun wx => K.nilDead wx)
  have CO := Lib.hid (fun wx => K.nilDone wx)
  have CC := Lib.hid (fun wx => K.nilCopy wx)
  by_cases hr3 : r < 2
  · have her : er = 2 := by rw [HER.out, if_pos hr3]
    have hri3 : (r : Int) < 2 := by omega
    subst her
    go_wp2_with (fail)
    refine (CS.out w6).mono ?_
    rintro e w7 ⟨rfl, h7⟩
    have G7 := Lib.hid (G6.out.trans (h7.mono G6.out.size))
    clear h7
    go_wp2_with (fail)
    refine (CD.out w7).mono ?_
    rintro e w8 ⟨rfl, h8⟩
    have G8 := Lib.hid (G7.out.trans (h8.mono G7.out.size))
    clear h8
    go_wp2_with (fail)
    refine (CO.out w8).mono ?_
    rintro e w9 ⟨rfl, h9⟩
    have G9 := Lib.hid (G8.out.trans (h9.mono G8.out.size))
    clear h9
    go_wp2_with (fail)
    refine (CC.out w9).mono ?_
    rintro e w10 ⟨rfl, h10⟩
    have G10 := Lib.hid (G9.out.trans (h10.mono G9.out.size))
    clear h10
    go_wp2_with (fail)
    go_ret
    exact ⟨rfl, G10.out⟩
  · have her : er = 0 := by rw [HER.out, if_neg hr3]
    have hri3 : decide ((r : Int) < 2) = false := by simp; omega
    subst her
    go_wp2_with (fail)
    refine (CS.out w6).mono ?_
    rintro e w7 ⟨rfl, h7⟩
    have G7 := Lib.hid (G6.out.trans (h7.mono G6.out.size))
    clear h7
    go_wp2_with (fail)
    refine (CD.out w7).mono ?_
    rintro e w8 ⟨rfl, h8⟩
    have G8 := Lib.hid (G7.out.trans (h8.mono G7.out.size))
    clear h8
    go_wp2_with (fail)
    refine (CO.out w8).mono ?_
    rintro e w9 ⟨rfl, h9⟩
    have G9 := Lib.hid (G8.out.trans (h9.mono G8.out.size))
    clear h9
    go_wp2_with (fail)
    refine (CC.out w9).mono ?_
    rintro e w10 ⟨rfl, h10⟩
    have G10 := Lib.hid (G9.out.trans (h10.mono G9.out.size))
    clear h10
    go_wp2_with (fail)
    go_ret
    exact ⟨rfl, G10.out⟩
end Bak
end Go.Proofs.Ytkddeccgoamopaa
