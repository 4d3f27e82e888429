/- Layer 7: an act on the document's flash: model. -/
import Derived.Test.YtepllhfofhehaaaFlaRh
import Derived.Test.YtepllhfofhehaaaFlaD
namespace Go.Proofs.Ytepllhfofhehaaa
open Go.RowKit Go.Own
namespace Fla
open Go.FlaM Byt

set_option maxHeartbeats 4000000 in
theorem model_any {B : Nat} {w0 w : World} {Ps : List Asn} {p : Nat} {s : FS} {N : Nat} (a : ActD) (ab af : Option Addr) (cb cf : Nat) (H : Own.St B w0 w (ARef p s :: Ps)) (ok : Ok s N) (hN : N ≤ 10000) (hb : a.b.length ≤ 10000)
    (hin : inAct a B w (actVs a (.slice ab a.b.length cb) (.slice af a.fates.length cf))) :
    Calls Try.prog 21 #[ptr p, .agg (actVs a (.slice ab a.b.length cb) (.slice af a.fates.length cf)).toArray] w fun e w' => e = .returned (errV (doAct s a).2) ∧ Own.St B w0 w' (ARef p (doAct s a).1 :: Ps) := by
  obtain ⟨i1, i2, i3, i4, i5, i6, i7, i8, i9, i10, i11⟩ := actIn_of hin
  obtain ⟨vs, hvs⟩ : ∃ vs, vs = actVs a (.slice ab a.b.length cb) (.slice af a.fates.length cf) := ⟨_, rfl⟩
  rw [← hvs]
  have VL : Hid (vs.length = 7) := by rw [hvs]; exact rfl
  obtain ⟨b, hbd⟩ : ∃ b, b = w.heap.size := ⟨_, rfl⟩
  obtain ⟨w1, hw1⟩ : ∃ w1, w1 = w.alloc (.cells vs.toArray 35) := ⟨_, rfl⟩
  have hbox := H.boxV 35 vs
  rw [← hbd, ← hw1] at hbox
  have H1 := Lib.hid hbox.swap2
  have g1 : Below w.heap.size w w1 := by rw [hw1]; exact ((Own.St.start w).alloc _).below
  have hcl : ∀ j v, vs[j]? = some v → ∀ wx, Below w1.heap.size w1 wx → wx.cell? ⟨b, j, none⟩ = some v := fun j v hv wx hwx => cellLater (hbox.cellV 0 rfl j hv).1 hwx
  have C0 := hcl 0 (.int .u8 (a.kind.toNat : Int)) (by rw [hvs]; rfl) w1 (Below.refl _ _)
  have C1 := Lib.hid (hcl 1 (.int .i64 a.seg) (by rw [hvs]; rfl))
  have C2 := Lib.hid (hcl 2 (.int .i64 a.page) (by rw [hvs]; rfl))
  have C5 := Lib.hid (hcl 5 (.int .i64 a.n) (by rw [hvs]; rfl))
  have C6 := Lib.hid (hcl 6 (.slice af a.fates.length cf) (by rw [hvs]; rfl))
  have BLK : Hid (w1.heap[b]? = some (.cells vs.toArray 35 (0, 0))) := hbox.rowV 0 rfl
  have V1 : View w1 (fun k => k < B) ab a.b := View.same i1 (Go.Own.Below.both H.below hbox.below)
  have HV1 := Lib.hid V1
  have CB : Hid (∀ wx, Below w1.heap.size w1 wx → Calls Try.prog 24 #[.agg vs.toArray] wx fun e w' => ∃ v, e = .returned v ∧ (tyG (bytesOf a)).holds v w' ∧ Below wx.heap.size wx w') := by
    intro wx hwx
    rw [hvs]
    have hvx : View wx (fun k => k < wx.heap.size) ab a.b := (V1.live.mono fun k hk => hk.2).below hwx |>.mono (fun k hk => Nat.lt_of_lt_of_le hk hwx.size)
    refine (bytes_fresh wx.heap.size a ab af cb cf wx (Nat.le_refl _) ⟨hvx, i2, i3, i4⟩).mono ?_
    rintro e w' ⟨v, he, ⟨ao, cap, rfl, hc⟩, hb⟩
    refine ⟨_, he, ⟨ao, cap, rfl, ?_⟩, hb⟩
    rcases hc with ⟨h1, T, h2, h3⟩ | ⟨h1, rfl, rfl⟩
    · obtain ⟨l1, l2, l3, l4⟩ := AB.len h2
      exact ⟨(AB.view h2).live.mono (fun k hk => hk.2), rfl, ⟨l2, l3⟩, fun h => (l4 h).2⟩
    · have hxe : bytesOf a = a.b := by unfold bytesOf; rw [if_pos h1]
      rw [hxe]
      exact ⟨(hvx.below hb).mono (fun k hk => Nat.lt_of_lt_of_le hk hb.size), rfl, ⟨i2, i3⟩, i4⟩
  have I1 := Lib.hid (IView.same i5 (Go.Own.Below.both H.below hbox.below) g1.size)
  have GIV := Lib.hid (And.intro i2 (And.intro i3 (And.intro i4 (And.intro i6 (And.intro i7 i8)))))
  have SEG := Lib.hid i9
  have PAGE := Lib.hid i10
  have NB := Lib.hid i11
  have OKS := Lib.hid ok
  obtain ⟨r, hr⟩ : ∃ r, r = a.kind.toNat % 6 := ⟨_, rfl⟩
  have hr6 : r < 6 := by omega
  have hri : (a.kind.toNat : Int) % 6 = (r : Int) := by omega
  have hkb : a.kind.toNat < 256 := a.kind.toNat_lt
  have HR := Lib.hid hr.symm
  clear hin i1 i2 i3 i4 i5 i6 i7 i8 i9 i10 i11 hcl V1 ok hr hbox H g1 hvs
  match r, hr6 with
  | 0, _ =>
    have hri0 : (a.kind.toNat : Int) % 6 = 0 := hri
    have HD : Hid (doAct s a = progF s a.seg a.page (bytesOf a)) := by
      show doAct s a = progF s a.seg a.page (bytesOf a)
      unfold doAct
      rw [HR.out]
      rfl
    rw [HD.out]
    clear hri HD HR
    go_enter Try.func21, Try.ntmps21
    rw [hw1, hbd] at C0
    go_wp2_with (fail)
    rw [← hw1, ← hbd]
    clear C0 hw1 hbd
    refine wp_laxW_list 8 (by kernel_rfl) (by kernel_rfl) (by kernel_rfl) (by kernel_rfl) (by kernel_rfl) ?_
    simp only [List.take_succ_cons, List.take_zero, List.drop_succ_cons, List.drop_zero]
    refine wpL_move (ptr p) rfl (by kernel_rfl) (by kernel_rfl) (by kernel_rfl) (by kernel_rfl) ?_
    refine wpL_run1 (x := .tmp 3) (.pointer (some ⟨b, 0, none⟩)) (.pointer (some ⟨b, 1, none⟩)) (by kernel_rfl) (by kernel_rfl) (by kernel_rfl) (by kernel_rfl) (by kernel_rfl) (fun wx ρ hwx h0 hc => by simp [go_sem, h0, hc]) ?_
    refine wpL_run1 (x := .tmp 11) (.pointer (some ⟨b, 1, none⟩)) (.int .i64 a.seg) (by kernel_rfl) (by kernel_rfl) (by kernel_rfl) (by kernel_rfl) (by kernel_rfl) (fun wx ρ hwx h0 hc => by simp [go_sem, h0, hc, C1.out wx hwx]) ?_
    refine wpL_run1 (x := .tmp 3) (.pointer (some ⟨b, 0, none⟩)) (.pointer (some ⟨b, 2, none⟩)) (by kernel_rfl) (by kernel_rfl) (by kernel_rfl) (by kernel_rfl) (by kernel_rfl) (fun wx ρ hwx h0 hc => by simp [go_sem, h0, hc]) ?_
    refine wpL_run1 (x := .tmp 13) (.pointer (some ⟨b, 2, none⟩)) (.int .i64 a.page) (by kernel_rfl) (by kernel_rfl) (by kernel_rfl) (by kernel_rfl) (by kernel_rfl) (fun wx ρ hwx h0 hc => by simp [go_sem, h0, hc, C2.out wx hwx]) ?_
    refine wpL_run1 (x := .tmp 3) (.pointer (some ⟨b, 0, none⟩)) (.agg vs.toArray) (by kernel_rfl) (by kernel_rfl) (by kernel_rfl) (by kernel_rfl) (by kernel_rfl) (fun wx ρ hwx h0 hc => load_actV rfl VL.out BLK.out hwx ρ h0) ?_
    refine wpL_fnT (tyG (bytesOf a)) [.agg vs.toArray] rfl rfl (by kernel_rfl) (by kernel_rfl) (by kernel_rfl) (by kernel_rfl) (fun _ _ => by simp [go_sem]) (fun wx hwx => CB.out wx hwx) ?_
    refine wpL_conv (strV (bytesOf a)) rfl rfl (by kernel_rfl) (by kernel_rfl) (fun u wx hwx hu => tyG_str hu) ?_
    refine wpL_end (by kernel_rfl) (fun wd hwd => ?_)
    simp only [FinL, setL, List.set_cons_zero, List.set_cons_succ]
    intro v hv _
    have H2 := Lib.hid (H1.out.later hwd)
    clear hv hwd
    go_wp2_with (fail)
    refine (progR_any H2.out OKS.out (by omega) a.seg a.page (bytesOf a)).mono ?_
    rintro e w2 ⟨rfl, h2⟩
    have H9 := Lib.hid h2.drop2
    clear h2
    go_wp2
    go_ret
    exact ⟨rfl, H9.out⟩
  | 1, _ =>
    have hri0 : (a.kind.toNat : Int) % 6 = 1 := hri
    have HD : Hid (doAct s a = erase s a.seg) := by
      show doAct s a = erase s a.seg
      unfold doAct
      rw [HR.out]
      rfl
    rw [HD.out]
    clear hri HD HR
    have D := C1.out w1 (Below.refl _ _)
    go_enter Try.func21, Try.ntmps21
    rw [hw1, hbd] at C0 D
    go_wp2_with (fail)
    rw [← hw1]
    clear C0 hw1 hbd D
    refine (eraseR_any H1.out OKS.out (by omega) a.seg).mono ?_
    rintro e w2 ⟨rfl, h2⟩
    have H9 := Lib.hid h2.drop2
    clear h2
    go_wp2
    go_ret
    exact ⟨rfl, H9.out⟩
  | 2, _ =>
    have hri0 : (a.kind.toNat : Int) % 6 = 2 := hri
    have HD : Hid (doAct s a = barrier s) := by
      show doAct s a = barrier s
      unfold doAct
      rw [HR.out]
      rfl
    rw [HD.out]
    clear hri HD HR
    go_enter Try.func21, Try.ntmps21
    rw [hw1, hbd] at C0
    go_wp2_with (fail)
    rw [← hw1]
    clear C0 hw1 hbd
    refine (barrierR_any H1.out OKS.out (by omega)).mono ?_
    rintro e w2 ⟨rfl, h2⟩
    have H9 := Lib.hid h2.drop2
    clear h2
    go_wp2
    go_ret
    exact ⟨rfl, H9.out⟩
  | 3, _ =>
    have hri0 : (a.kind.toNat : Int) % 6 = 3 := hri
    have HD : Hid (doAct s a = (cut s a.n, 0)) := by
      show doAct s a = (cut s a.n, 0)
      unfold doAct
      rw [HR.out]
      rfl
    rw [HD.out]
    clear hri HD HR
    have D := C5.out w1 (Below.refl _ _)
    go_enter Try.func21, Try.ntmps21
    rw [hw1, hbd] at C0 D
    go_wp2_with (fail)
    rw [← hw1]
    clear C0 hw1 hbd D
    refine (cutR_any H1.out a.n NB.out).mono ?_
    rintro e w2 ⟨rfl, h2⟩
    have H9 := Lib.hid h2.drop2
    clear h2
    go_wp2
    go_ret
    exact ⟨rfl, H9.out⟩
  | 4, _ =>
    have hri0 : (a.kind.toNat : Int) % 6 = 4 := hri
    have HD : Hid (doAct s a = (crash s a.fates, 0)) := by
      show doAct s a = (crash s a.fates, 0)
      unfold doAct
      rw [HR.out]
      rfl
    rw [HD.out]
    clear hri HD HR
    have D := C6.out w1 (Below.refl _ _)
    go_enter Try.func21, Try.ntmps21
    rw [hw1, hbd] at C0 D
    go_wp2_with (fail)
    rw [← hw1]
    clear C0 hw1 hbd D
    refine (crashR_any H1.out OKS.out (by omega) af _ cf a.fates (liesI_reads (w := w1) ⟨rfl, ⟨GIV.out.2.2.2.1, GIV.out.2.2.2.2.1⟩, GIV.out.2.2.2.2.2, iview_ints I1.out, .inr I1.out⟩ H1.out.below) rfl ⟨GIV.out.2.2.2.1, GIV.out.2.2.2.2.1⟩ (iview_ints I1.out)).mono ?_
    rintro e w2 ⟨rfl, h2⟩
    have H9 := Lib.hid h2.drop2
    clear h2
    go_wp2
    go_ret
    exact ⟨rfl, H9.out⟩
  | 5, _ =>
    have hri0 : (a.kind.toNat : Int) % 6 = 5 := hri
    have HD : Hid (doAct s a = (s, 0)) := by
      show doAct s a = (s, 0)
      unfold doAct
      rw [HR.out]
      rfl
    rw [HD.out]
    clear hri HD HR
    go_enter Try.func21, Try.ntmps21
    rw [hw1, hbd] at C0
    go_wp2_with (fail)
    go_ret
    rw [← hw1]
    exact ⟨rfl, H1.out.drop2⟩
end Fla
end Go.Proofs.Ytepllhfofhehaaa
