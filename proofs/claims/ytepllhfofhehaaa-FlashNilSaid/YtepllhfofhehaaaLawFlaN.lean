/- does of a nil flash; FlashNil. -/
import Derived.Test.YtepllhfofhehaaaFlaS
namespace Go.Proofs.Ytepllhfofhehaaa
open Go.RowKit Go.Own
namespace Fla
open Go.FlaM Byt

section
set_option maxHeartbeats 4000000 in
theorem does_nil {W w : World} (K : Kept W) (a : ActD) (ab af : Option Addr) (cb cf : Nat) (hin : inAct a w.heap.size w (actVs a (.slice ab a.b.length cb) (.slice af a.fates.length cf))) :
    Calls Try.prog 20 #[.pointer none, .agg (actVs a (.slice ab a.b.length cb) (.slice af a.fates.length cf)).toArray] w fun e w' => e = .returned (errV (if a.kind.toNat % 6 < 3 then 2 else 0)) ∧ Below w.heap.size w w' := by
  obtain ⟨i1, i2, i3, i4, _⟩ := actIn_of hin
  obtain ⟨vs, hvs⟩ : ∃ vs, vs = actVs a (.slice ab a.b.length cb) (.slice af a.fates.length cf) := ⟨_, rfl⟩
  rw [← hvs]
  have VL : Hid (vs.length = 7) := by rw [hvs]; exact rfl
  obtain ⟨b, hbd⟩ : ∃ b, b = w.heap.size := ⟨_, rfl⟩
  obtain ⟨w1, hw1⟩ : ∃ w1, w1 = w.alloc (.cells vs.toArray 35) := ⟨_, rfl⟩
  have hbox := (Own.St.start w).boxV 35 vs
  rw [← hbd, ← hw1] at hbox
  have g1 : Below w.heap.size w w1 := by rw [hw1]; exact ((Own.St.start w).alloc _).below
  have G1 := Lib.hid g1
  have hcl : ∀ j v, vs[j]? = some v → ∀ wx, Below w1.heap.size w1 wx → wx.cell? ⟨b, j, none⟩ = some v := fun j v hv wx hwx => cellLater (hbox.cellV 0 rfl j hv).1 hwx
  have C0 := hcl 0 (.int .u8 (a.kind.toNat : Int)) (by rw [hvs]; rfl) w1 (Below.refl _ _)
  have C1 := Lib.hid (hcl 1 (.int .i64 a.seg) (by rw [hvs]; rfl))
  have C2 := Lib.hid (hcl 2 (.int .i64 a.page) (by rw [hvs]; rfl))
  have C5 := Lib.hid (hcl 5 (.int .i64 a.n) (by rw [hvs]; rfl))
  have C6 := Lib.hid (hcl 6 (.slice af a.fates.length cf) (by rw [hvs]; rfl))
  have BLK : Hid (w1.heap[b]? = some (.cells vs.toArray 35 (0, 0))) := hbox.rowV 0 rfl
  have V1 : View w1 (fun k => k < w.heap.size) ab a.b := i1.below g1
  have CB : Hid (∀ wx, Below w1.heap.size w1 wx → Calls Try.prog 24 #[.agg vs.toArray] wx fun e w' => ∃ v, e = .returned v ∧ (tyBy w1.heap.size a ab cb).holds v w' ∧ Below wx.heap.size wx w') := by
    intro wx hwx
    rw [hvs]
    exact bytes_fresh w1.heap.size a ab af cb cf wx hwx.size ⟨(V1.live.mono fun k hk => hk.2).below hwx |>.mono (fun k hk => Nat.lt_of_lt_of_le hk hwx.size), i2, i3, i4⟩
  obtain ⟨r, hr⟩ : ∃ r, r = a.kind.toNat % 6 := ⟨_, rfl⟩
  have hr6 : r < 6 := by omega
  have hri : (a.kind.toNat : Int) % 6 = (r : Int) := by omega
  have hkb : a.kind.toNat < 256 := a.kind.toNat_lt
  rw [← hr]
  clear hin i1 i2 i3 i4 hcl V1 hr hbox g1 hvs
  match r, hr6 with
  | 0, _ =>
    have hri0 : (a.kind.toNat : Int) % 6 = 0 := hri
    clear hri
    go_enter Try.func20, Try.ntmps20
    rw [hw1, hbd] at C0
    go_wp2_with (fail)
    rw [← hw1, ← hbd]
    clear C0 hw1 hbd
    refine wp_laxW_list 7 (by kernel_rfl) (by kernel_rfl) (by kernel_rfl) (by kernel_rfl) (by kernel_rfl) ?_
    simp only [List.take_succ_cons, List.take_zero, List.drop_succ_cons, List.drop_zero]
    refine wpL_move (.pointer none) rfl (by kernel_rfl) (by kernel_rfl) (by kernel_rfl) (by kernel_rfl) ?_
    refine wpL_run1 (x := .tmp 3) (.pointer (some ⟨b, 0, none⟩)) (.pointer (some ⟨b, 1, none⟩)) (by kernel_rfl) (by kernel_rfl) (by kernel_rfl) (by kernel_rfl) (by kernel_rfl) (fun wx ρ hwx h0 hc => by simp [go_sem, h0, hc]) ?_
    refine wpL_run1 (x := .tmp 11) (.pointer (some ⟨b, 1, none⟩)) (.int .i64 a.seg) (by kernel_rfl) (by kernel_rfl) (by kernel_rfl) (by kernel_rfl) (by kernel_rfl) (fun wx ρ hwx h0 hc => by simp [go_sem, h0, hc, C1.out wx hwx]) ?_
    refine wpL_run1 (x := .tmp 3) (.pointer (some ⟨b, 0, none⟩)) (.pointer (some ⟨b, 2, none⟩)) (by kernel_rfl) (by kernel_rfl) (by kernel_rfl) (by kernel_rfl) (by kernel_rfl) (fun wx ρ hwx h0 hc => by simp [go_sem, h0, hc]) ?_
    refine wpL_run1 (x := .tmp 13) (.pointer (some ⟨b, 2, none⟩)) (.int .i64 a.page) (by kernel_rfl) (by kernel_rfl) (by kernel_rfl) (by kernel_rfl) (by kernel_rfl) (fun wx ρ hwx h0 hc => by simp [go_sem, h0, hc, C2.out wx hwx]) ?_
    refine wpL_run1 (x := .tmp 3) (.pointer (some ⟨b, 0, none⟩)) (.agg vs.toArray) (by kernel_rfl) (by kernel_rfl) (by kernel_rfl) (by kernel_rfl) (by kernel_rfl) (fun wx ρ hwx h0 hc => load_actV rfl VL.out BLK.out hwx ρ h0) ?_
    refine wpL_fnT (tyBy w1.heap.size a ab cb) [.agg vs.toArray] rfl rfl (by kernel_rfl) (by kernel_rfl) (by kernel_rfl) (by kernel_rfl) (fun _ _ => by simp [go_sem]) (fun wx hwx => CB.out wx hwx) ?_
    refine wpL_end (by kernel_rfl) (fun wd hwd => ?_)
    simp only [FinL, setL, List.set_cons_zero, List.set_cons_succ]
    intro v _ _
    have G2 := Lib.hid (G1.out.trans (hwd.mono G1.out.size))
    clear hwd
    go_wp2_with (fail)
    refine (K.nilProgram a.seg a.page v wd).mono ?_
    rintro e w2 ⟨rfl, h2⟩
    have G3 := Lib.hid (G2.out.trans (h2.mono G2.out.size))
    clear h2
    go_wp2
    go_ret
    exact ⟨rfl, G3.out⟩
  | 1, _ =>
    have hri0 : (a.kind.toNat : Int) % 6 = 1 := hri
    clear hri
    have D := C1.out w1 (Below.refl _ _)
    go_enter Try.func20, Try.ntmps20
    rw [hw1, hbd] at C0 D
    go_wp2_with (fail)
    rw [← hw1]
    clear C0 hw1 hbd D
    refine (K.nilErase a.seg w1).mono ?_
    rintro e w2 ⟨rfl, h2⟩
    have G3 := Lib.hid (G1.out.trans (h2.mono G1.out.size))
    clear h2
    go_wp2
    go_ret
    exact ⟨rfl, G3.out⟩
  | 2, _ =>
    have hri0 : (a.kind.toNat : Int) % 6 = 2 := hri
    clear hri
    go_enter Try.func20, Try.ntmps20
    rw [hw1, hbd] at C0
    go_wp2_with (fail)
    rw [← hw1]
    clear C0 hw1 hbd
    refine (K.nilBarrier w1).mono ?_
    rintro e w2 ⟨rfl, h2⟩
    have G3 := Lib.hid (G1.out.trans (h2.mono G1.out.size))
    clear h2
    go_wp2
    go_ret
    exact ⟨rfl, G3.out⟩
  | 3, _ =>
    have hri0 : (a.kind.toNat : Int) % 6 = 3 := hri
    clear hri
    have D := C5.out w1 (Below.refl _ _)
    go_enter Try.func20, Try.ntmps20
    rw [hw1, hbd] at C0 D
    go_wp2_with (fail)
    rw [← hw1]
    clear C0 hw1 hbd D
    refine (K.nilCut a.n w1).mono ?_
    rintro e w2 ⟨rfl, h2⟩
    have G3 := Lib.hid (G1.out.trans (h2.mono G1.out.size))
    clear h2
    go_wp2
    go_ret
    exact ⟨rfl, G3.out⟩
  | 4, _ =>
    have hri0 : (a.kind.toNat : Int) % 6 = 4 := hri
    clear hri
    have D := C6.out w1 (Below.refl _ _)
    go_enter Try.func20, Try.ntmps20
    rw [hw1, hbd] at C0 D
    go_wp2_with (fail)
    rw [← hw1]
    clear C0 hw1 hbd D
    refine (K.nilCrash (.slice af a.fates.length cf) w1).mono ?_
    rintro e w2 ⟨rfl, h2⟩
    have G3 := Lib.hid (G1.out.trans (h2.mono G1.out.size))
    clear h2
    go_wp2
    go_ret
    exact ⟨rfl, G3.out⟩
  | 5, _ =>
    have hri0 : (a.kind.toNat : Int) % 6 = 5 := hri
    clear hri
    go_enter Try.func20, Try.ntmps20
    rw [hw1, hbd] at C0
    go_wp2_with (fail)
    go_ret
    rw [← hw1]
    exact ⟨rfl, G1.out⟩
end

set_option maxHeartbeats 4000000 in
theorem walk_nil (vs0 : Array Value) (a : ActD) {w : World} (w0 : inAct a w.heap.size w vs0.toList) (K : Kept w) :
    Calls Try.prog 8 #[.agg vs0] w (RetYes w) := by
  have hin := w0
  obtain ⟨ab, cb, af, cf, hcs, _⟩ := w0
  obtain ⟨vs, hvs⟩ : ∃ vs, vs = actVs a (.slice ab a.b.length cb) (.slice af a.fates.length cf) := ⟨_, rfl⟩
  rw [← hvs] at hcs
  obtain rfl : vs0 = vs.toArray := by rw [← hcs]
  have VL : Hid (vs.length = 7) := by rw [hvs]; exact rfl
  obtain ⟨b, hbd⟩ : ∃ b, b = w.heap.size := ⟨_, rfl⟩
  obtain ⟨w1, hw1⟩ : ∃ w1, w1 = w.alloc (.cells vs.toArray 35) := ⟨_, rfl⟩
  have hbox := (Own.St.start w).boxV 35 vs
  rw [← hbd, ← hw1] at hbox
  have HB := Lib.hid hbox
  have g1 : Below w.heap.size w w1 := by rw [hw1]; exact ((Own.St.start w).alloc _).below
  have G1 := Lib.hid g1
  have LACT := Lib.hid (fun wx (hwx : Below w1.heap.size w1 wx) (ρ : Operand → Value) (o : Oper) (x : Tmp) (ho : o.op = .load 35 (.tmp x)) (h0 : ρ (.tmp x) = .pointer (some ⟨b, 0, none⟩)) => load_actV ho VL.out (hbox.rowV 0 rfl) hwx ρ h0)
  have hcl : ∀ j v, vs[j]? = some v → ∀ wx, Below w1.heap.size w1 wx → wx.cell? ⟨b, j, none⟩ = some v := fun j v hv wx hwx => cellLater (hbox.cellV 0 rfl j hv).1 hwx
  have C0 := Lib.hid (hcl 0 (.int .u8 (a.kind.toNat : Int)) (by rw [hvs]; rfl))
  have C1 := Lib.hid (hcl 1 (.int .i64 a.seg) (by rw [hvs]; rfl))
  have C2 := Lib.hid (hcl 2 (.int .i64 a.page) (by rw [hvs]; rfl))
  have C5 := Lib.hid (hcl 5 (.int .i64 a.n) (by rw [hvs]; rfl))
  have C6 := Lib.hid (hcl 6 (.slice af a.fates.length cf) (by rw [hvs]; rfl))
  have SH := Lib.hid (shown_any K g1)
  obtain ⟨r, hr⟩ : ∃ r, r = a.kind.toNat % 6 := ⟨_, rfl⟩
  have hri : (a.kind.toNat : Int) % 6 = (r : Int) := by omega
  have hkb : a.kind.toNat < 256 := a.kind.toNat_lt
  obtain ⟨er, her⟩ : ∃ er : Nat, er = if r < 3 then 2 else 0 := ⟨_, rfl⟩
  have HER := Lib.hid her
  have DN : Hid (∀ wx, Below w.heap.size w wx → Calls Try.prog 20 #[.pointer none, .agg vs.toArray] wx fun e w' => e = .returned (.int .i64 (er : Int)) ∧ Below wx.heap.size wx w') := by
    intro wx hwx
    obtain ⟨i1, i2, i3, i4, i5, i6, i7, i8, i9⟩ := actIn_of (by rw [hvs] at hin; exact hin)
    have h := does_nil K (w := wx) a ab af cb cf ⟨ab, cb, af, cf, rfl, (i1.below hwx).mono (fun k hk => Nat.lt_of_lt_of_le hk hwx.size), i2, i3, i4, ?_, i6, i7, i8, i9⟩
    · rw [hvs, her, hr]
      exact h
    · rcases i5 with h | ⟨b2, o2, e2, hb2, hs2, hc2⟩
      · exact .inl h
      · exact .inr ⟨b2, o2, e2, Nat.lt_of_lt_of_le hb2 hwx.size, Nat.lt_of_lt_of_le hs2 hwx.size, fun j hj => ⟨(World.cell?_of_block (w := w) (hwx.block b2 hb2)).trans (hc2 j hj).1, (hc2 j hj).2⟩⟩
  clear hin hbox hcl g1 hr hvs her
  go_enter Try.func8, Try.ntmps8
  go_wp2_with (fail)
  rw [← hw1]
  refine SH.out.mono ?_
  rintro e w2 ⟨rfl, h2⟩
  have B2 := Lib.hid h2
  have G2 := Lib.hid (G1.out.trans (h2.mono G1.out.size))
  clear h2
  rw [← hbd]
  clear hbd hw1
  go_wp2_with (refine Byt.wpList_val rfl (LACT.out _ B2.out _ _ _ rfl rfl) ?_)
  refine (DN.out w2 G2.out).mono ?_
  rintro e w3 ⟨rfl, h3⟩
  have B3 := Lib.hid (B2.out.trans (h3.mono B2.out.size))
  have G3 := Lib.hid (G2.out.trans (h3.mono G2.out.size))
  have c1 := C1.out w3 B3.out
  have c2 := C2.out w3 B3.out
  clear h3 B2 G2
  go_wp2_with (fail)
  refine (K.nilRead a.seg a.page w3).mono ?_
  rintro e w4 ⟨ar, cr, rfl, h4⟩
  have B4 := Lib.hid (B3.out.trans (h4.mono B3.out.size))
  have G4 := Lib.hid (G3.out.trans (h4.mono G3.out.size))
  clear h4 c1 c2 B3 G3
  have c5 := C5.out w4 B4.out
  go_wp2_with (fail)
  refine (K.nilCut a.n w4).mono ?_
  rintro e w5 ⟨rfl, h5⟩
  have B5 := Lib.hid (B4.out.trans (h5.mono B4.out.size))
  have G5 := Lib.hid (G4.out.trans (h5.mono G4.out.size))
  clear h5 c5 B4 G4
  have c6 := C6.out w5 B5.out
  go_wp2_with (fail)
  refine (K.nilCrash _ w5).mono ?_
  rintro e w6 ⟨rfl, h6⟩
  have B6 := Lib.hid (B5.out.trans (h6.mono B5.out.size))
  have G6 := Lib.hid (G5.out.trans (h6.mono G5.out.size))
  clear h6 c6 B5 G5
  have c0 := C0.out w6 B6.out
  have CS := Lib.hid (fun wx => K.nilSegs wx)
  have CP := Lib.hid (fun wx => K.nilPages wx)
  have CW := Lib.hid (fun wx => K.nilWear a.seg wx)
  have CD := Lib.hid (fun wx => K.nilDead wx)
  have CO := Lib.hid (fun wx => K.nilDone wx)
  have CC := Lib.hid (fun wx => K.nilCopy wx)
  by_cases hr3 : r < 3
  · have her : er = 2 := by rw [HER.out, if_pos hr3]
    have hri3 : (r : Int) < 3 := by omega
    subst her
    go_wp2_with (fail)
    refine (CS.out w6).mono ?_
    rintro e w7 ⟨rfl, h7⟩
    have G7 := Lib.hid (G6.out.trans (h7.mono G6.out.size))
    have B7 := Lib.hid (B6.out.trans (h7.mono B6.out.size))
    have d7 := C1.out w7 B7.out
    clear h7
    go_wp2_with (fail)
    refine (CP.out w7).mono ?_
    rintro e w8 ⟨rfl, h8⟩
    have G8 := Lib.hid (G7.out.trans (h8.mono G7.out.size))
    have B8 := Lib.hid (B7.out.trans (h8.mono B7.out.size))
    have d8 := C1.out w8 B8.out
    clear h8
    go_wp2_with (fail)
    refine (CW.out w8).mono ?_
    rintro e w9 ⟨rfl, h9⟩
    have G9 := Lib.hid (G8.out.trans (h9.mono G8.out.size))
    have B9 := Lib.hid (B8.out.trans (h9.mono B8.out.size))
    have d9 := C1.out w9 B9.out
    clear h9
    go_wp2_with (fail)
    refine (CD.out w9).mono ?_
    rintro e w10 ⟨rfl, h10⟩
    have G10 := Lib.hid (G9.out.trans (h10.mono G9.out.size))
    have B10 := Lib.hid (B9.out.trans (h10.mono B9.out.size))
    have d10 := C1.out w10 B10.out
    clear h10
    go_wp2_with (fail)
    refine (CO.out w10).mono ?_
    rintro e w11 ⟨rfl, h11⟩
    have G11 := Lib.hid (G10.out.trans (h11.mono G10.out.size))
    have B11 := Lib.hid (B10.out.trans (h11.mono B10.out.size))
    have d11 := C1.out w11 B11.out
    clear h11
    go_wp2_with (fail)
    refine (CC.out w11).mono ?_
    rintro e w12 ⟨rfl, h12⟩
    have G12 := Lib.hid (G11.out.trans (h12.mono G11.out.size))
    have B12 := Lib.hid (B11.out.trans (h12.mono B11.out.size))
    have d12 := C1.out w12 B12.out
    clear h12
    go_wp2_with (fail)
    go_ret
    exact ⟨rfl, G12.out⟩
  · have her : er = 0 := by rw [HER.out, if_neg hr3]
    have hri3 : decide ((r : Int) < 3) = false := by simp; omega
    subst her
    go_wp2_with (fail)
    refine (CS.out w6).mono ?_
    rintro e w7 ⟨rfl, h7⟩
    have G7 := Lib.hid (G6.out.trans (h7.mono G6.out.size))
    have B7 := Lib.hid (B6.out.trans (h7.mono B6.out.size))
    have d7 := C1.out w7 B7.out
    clear h7
    go_wp2_with (fail)
    refine (CP.out w7).mono ?_
    rintro e w8 ⟨rfl, h8⟩
    have G8 := Lib.hid (G7.out.trans (h8.mono G7.out.size))
    have B8 := Lib.hid (B7.out.trans (h8.mono B7.out.size))
    have d8 := C1.out w8 B8.out
    clear h8
    go_wp2_with (fail)
    refine (CW.out w8).mono ?_
    rintro e w9 ⟨rfl, h9⟩
    have G9 := Lib.hid (G8.out.trans (h9.mono G8.out.size))
    have B9 := Lib.hid (B8.out.trans (h9.mono B8.out.size))
    have d9 := C1.out w9 B9.out
    clear h9
    go_wp2_with (fail)
    refine (CD.out w9).mono ?_
    rintro e w10 ⟨rfl, h10⟩
    have G10 := Lib.hid (G9.out.trans (h10.mono G9.out.size))
    have B10 := Lib.hid (B9.out.trans (h10.mono B9.out.size))
    have d10 := C1.out w10 B10.out
    clear h10
    go_wp2_with (fail)
    refine (CO.out w10).mono ?_
    rintro e w11 ⟨rfl, h11⟩
    have G11 := Lib.hid (G10.out.trans (h11.mono G10.out.size))
    have B11 := Lib.hid (B10.out.trans (h11.mono B10.out.size))
    have d11 := C1.out w11 B11.out
    clear h11
    go_wp2_with (fail)
    refine (CC.out w11).mono ?_
    rintro e w12 ⟨rfl, h12⟩
    have G12 := Lib.hid (G11.out.trans (h12.mono G11.out.size))
    have B12 := Lib.hid (B11.out.trans (h12.mono B11.out.size))
    have d12 := C1.out w12 B12.out
    clear h12
    go_wp2_with (fail)
    go_ret
    exact ⟨rfl, G12.out⟩
end Fla
end Go.Proofs.Ytepllhfofhehaaa
