/- does. -/
import Derived.Test.YtepllhfofhehaaaFlaQ
namespace Go.Proofs.Ytepllhfofhehaaa
open Go.RowKit Go.Own
namespace Fla
open Go.FlaM Byt

theorem actIn_of {a : ActD} {B : Nat} {w : World} {ab af : Option Addr} {cb cf : Nat} (h : inAct a B w (actVs a (.slice ab a.b.length cb) (.slice af a.fates.length cf))) :
    View w (fun k => k < B) ab a.b ∧ a.b.length ≤ cb ∧ cb ≤ maxLen ∧ (ab = none → cb = 0) ∧ IView w B af a.fates ∧ a.fates.length ≤ cf ∧ cf ≤ maxLen ∧ (af = none → cf = 0) ∧ i64B a.seg ∧ i64B a.page ∧ i64B a.n := by
  obtain ⟨ab', cb', af', cf', hcs, h⟩ := h
  simp only [List.cons.injEq, Value.slice.injEq, true_and, and_true] at hcs
  obtain ⟨⟨rfl, rfl⟩, rfl, rfl⟩ := hcs
  exact h
theorem IView.same {w w' : World} {B : Nat} {ao : Option Addr} {l : List Int} (h : IView w B ao l) (g : ∀ k, k < B → w'.heap[k]? = w.heap[k]?) (hs : w.heap.size ≤ w'.heap.size) : IView w' B ao l := by
  rcases h with h | ⟨b, o, e, hb, hsz, hc⟩
  · exact .inl h
  · exact .inr ⟨b, o, e, hb, Nat.lt_of_lt_of_le hsz hs, fun j hj => ⟨(World.cell?_of_block (w := w) (g b hb)).trans (hc j hj).1, (hc j hj).2⟩⟩
theorem IView.same' {w w' : World} {B : Nat} {ao : Option Addr} {l : List Int} (h : IView w B ao l) (g : ∀ k, k < B → w'.heap[k]? = w.heap[k]?) (hs : B ≤ w'.heap.size) : IView w' B ao l := by
  rcases h with h | ⟨b, o, e, hb, hsz, hc⟩
  · exact .inl h
  · exact .inr ⟨b, o, e, hb, Nat.lt_of_lt_of_le hb hs, fun j hj => ⟨(World.cell?_of_block (w := w) (g b hb)).trans (hc j hj).1, (hc j hj).2⟩⟩
theorem iview_ints {w : World} {B : Nat} {ao : Option Addr} {l : List Int} (h : IView w B ao l) : ∀ j, j < l.length → i64B (l.getD j 0) := by
  intro j hj
  rcases h with rfl | ⟨b, o, _, _, _, hc⟩
  · simp at hj
  · exact (hc j hj).2

section
variable {W : World} (K : Kept W)
set_option maxHeartbeats 4000000 in
theorem does_any {B : Nat} {w0 w : World} {Ps : List Asn} {p : Nat} {s : FS} {N : Nat} (a : ActD) (ab af : Option Addr) (cb cf : Nat) (hW : Below W.heap.size W w) (H : Own.St B w0 w (K.A p s :: Ps)) (ok : Ok s N) (hN : N ≤ 10000) (hb : a.b.length ≤ 10000)
    (hin : inAct a B w (actVs a (.slice ab a.b.length cb) (.slice af a.fates.length cf))) :
    Calls Try.prog 20 #[ptr p, .agg (actVs a (.slice ab a.b.length cb) (.slice af a.fates.length cf)).toArray] w fun e w' => e = .returned (errV (doAct s a).2) ∧ Own.St B w0 w' (K.A p (doAct s a).1 :: Ps) := by
  obtain ⟨i1, i2, i3, i4, i5, i6, i7, i8, i9, i10, i11⟩ := actIn_of hin
  obtain ⟨vs, hvs⟩ : ∃ vs, vs = actVs a (.slice ab a.b.length cb) (.slice af a.fates.length cf) := ⟨_, rfl⟩
  rw [← hvs]
  have VL : Hid (vs.length = 7) := by rw [hvs]; exact rfl
  obtain ⟨b, hbd⟩ : ∃ b, b = w.heap.size := ⟨_, rfl⟩
  obtain ⟨w1, hw1⟩ : ∃ w1, w1 = w.alloc (.cells vs.toArray 35) := ⟨_, rfl⟩
  have hbox := H.boxV 35 vs
  rw [← hbd, ← hw1] at hbox
  have H1 := Lib.hid hbox.swap2
  have g1 : Below w.heap.size w w1 := by rw [hw1]; exact ((Own.St.start w).alloc _).below
  have HW1 := Lib.hid (hW.trans (g1.mono hW.size))
  have hcl : ∀ j v, vs[j]? = some v → ∀ wx, Below w1.heap.size w1 wx → wx.cell? ⟨b, j, none⟩ = some v := fun j v hv wx hwx => cellLater (hbox.cellV 0 rfl j hv).1 hwx
  have C0 := hcl 0 (.int .u8 (a.kind.toNat : Int)) (by rw [hvs]; rfl) w1 (Below.refl _ _)
  have C1 := Lib.hid (hcl 1 (.int .i64 a.seg) (by rw [hvs]; rfl))
  have C2 := Lib.hid (hcl 2 (.int .i64 a.page) (by rw [hvs]; rfl))
  have C5 := Lib.hid (hcl 5 (.int .i64 a.n) (by rw [hvs]; rfl))
  have C6 := Lib.hid (hcl 6 (.slice af a.fates.length cf) (by rw [hvs]; rfl))
  have BLK : Hid (w1.heap[b]? = some (.cells vs.toArray 35 (0, 0))) := hbox.rowV 0 rfl
  have V1 : View w1 (fun k => k < B) ab a.b := View.same i1 (Go.Own.Below.both H.below hbox.below)
  have HV1 := Lib.hid V1
  have CB : Hid (∀ wx, Below w1.heap.size w1 wx → Calls Try.prog 24 #[.agg vs.toArray] wx fun e w' => ∃ v, e = .returned v ∧ (tyBy w1.heap.size a ab cb).holds v w' ∧ Below wx.heap.size wx w') := by
    intro wx hwx
    rw [hvs]
    exact bytes_fresh w1.heap.size a ab af cb cf wx hwx.size ⟨(V1.live.mono fun k hk => hk.2).below hwx |>.mono (fun k hk => Nat.lt_of_lt_of_le hk hwx.size), i2, i3, i4⟩
  have I1 := Lib.hid (IView.same i5 (Go.Own.Below.both H.below hbox.below) g1.size)
  have GIV := Lib.hid (And.intro i2 (And.intro i3 (And.intro i4 (And.intro i6 (And.intro i7 i8)))))
  have SEG := Lib.hid i9
  have PAGE := Lib.hid i10
  have NB := Lib.hid i11
  have OKS := Lib.hid ok
  obtain ⟨r, hr⟩ : ∃ r, r = a.kind.toNat % 6 := ⟨_, rfl⟩
  have hr6 : r < 6 := by omega
  have hri : (a.kind.toNat : Int) % 6 = (r : Int) := by omega
  have hkb : a.kind.toNat < 256 := a.kind.toNat_lt
  have HR := Lib.hid hr.symm
  clear hin i1 i2 i3 i4 i5 i6 i7 i8 i9 i10 i11 hcl V1 ok hr hbox hW H g1 hvs
  match r, hr6 with
  | 0, _ =>
    have hri0 : (a.kind.toNat : Int) % 6 = 0 := hri
    have HD : Hid (doAct s a = progF s a.seg a.page (bytesOf a)) := by
      show doAct s a = progF s a.seg a.page (bytesOf a)
      unfold doAct
      rw [HR.out]
      rfl
    rw [HD.out]
    clear hri HD HR
    go_enter Try.func20, Try.ntmps20
    rw [hw1, hbd] at C0
    go_wp2_with (fail)
    rw [← hw1, ← hbd]
    clear C0 hw1 hbd
    refine wp_laxW_list 7 (by kernel_rfl) (by kernel_rfl) (by kernel_rfl) (by kernel_rfl) (by kernel_rfl) ?_
    simp only [List.take_succ_cons, List.take_zero, List.drop_succ_cons, List.drop_zero]
    refine wpL_move (ptr p) rfl (by kernel_rfl) (by kernel_rfl) (by kernel_rfl) (by kernel_rfl) ?_
    refine wpL_run1 (x := .tmp 3) (.pointer (some ⟨b, 0, none⟩)) (.pointer (some ⟨b, 1, none⟩)) (by kernel_rfl) (by kernel_rfl) (by kernel_rfl) (by kernel_rfl) (by kernel_rfl) (fun wx ρ hwx h0 hc => by simp [go_sem, h0, hc]) ?_
    refine wpL_run1 (x := .tmp 11) (.pointer (some ⟨b, 1, none⟩)) (.int .i64 a.seg) (by kernel_rfl) (by kernel_rfl) (by kernel_rfl) (by kernel_rfl) (by kernel_rfl) (fun wx ρ hwx h0 hc => by simp [go_sem, h0, hc, C1.out wx hwx]) ?_
    refine wpL_run1 (x := .tmp 3) (.pointer (some ⟨b, 0, none⟩)) (.pointer (some ⟨b, 2, none⟩)) (by kernel_rfl) (by kernel_rfl) (by kernel_rfl) (by kernel_rfl) (by kernel_rfl) (fun wx ρ hwx h0 hc => by simp [go_sem, h0, hc]) ?_
    refine wpL_run1 (x := .tmp 13) (.pointer (some ⟨b, 2, none⟩)) (.int .i64 a.page) (by kernel_rfl) (by kernel_rfl) (by kernel_rfl) (by kernel_rfl) (by kernel_rfl) (fun wx ρ hwx h0 hc => by simp [go_sem, h0, hc, C2.out wx hwx]) ?_
    refine wpL_run1 (x := .tmp 3) (.pointer (some ⟨b, 0, none⟩)) (.agg vs.toArray) (by kernel_rfl) (by kernel_rfl) (by kernel_rfl) (by kernel_rfl) (by kernel_rfl) (fun wx ρ hwx h0 hc => load_actV rfl VL.out BLK.out hwx ρ h0) ?_
    refine wpL_fnT (tyBy w1.heap.size a ab cb) [.agg vs.toArray] rfl rfl (by kernel_rfl) (by kernel_rfl) (by kernel_rfl) (by kernel_rfl) (fun _ _ => by simp [go_sem]) (fun wx hwx => CB.out wx hwx) ?_
    refine wpL_end (by kernel_rfl) (fun wd hwd => ?_)
    simp only [FinL, setL, List.set_cons_zero, List.set_cons_succ]
    intro v hv _
    have H2 := Lib.hid (H1.out.later hwd)
    have HWD := Lib.hid (HW1.out.trans (hwd.mono HW1.out.size))
    obtain ⟨ao, cap, rfl, hcase⟩ := hv
    have hbl : (bytesOf a).length ≤ 20000 := by rw [bytesOf_len]; omega
    have PR : Hid (Calls Try.prog 18 #[ptr p, .int .i64 a.seg, .int .i64 a.page, .slice ao (bytesOf a).length cap] wd fun e w' => e = .returned (errV (progF s a.seg a.page (bytesOf a)).2) ∧ Own.St B w0 w' (K.A p (progF s a.seg a.page (bytesOf a)).1 :: Ps)) := by
      rcases hcase with ⟨h1, T, h2, h3⟩ | ⟨h1, rfl, rfl⟩
      · have H3 := (H1.out.adopt hwd (AB ao (bytesOf a).length cap (bytesOf a)) h2 h3).swap2
        refine (K.program a.seg a.page ao _ cap (bytesOf a) HWD.out H3 OKS.out hN SEG.out PAGE.out ⟨given_own H3 1 rfl, .inl ⟨0, rfl⟩⟩ hbl).mono ?_
        rintro e w' ⟨he, h4⟩
        exact ⟨he, h4.drop2.drop2⟩
      · have hxe : bytesOf a = a.b := by unfold bytesOf; rw [if_pos h1]
        have hvw : View wd (fun k => k < B) ao a.b := View.same HV1.out (Go.Own.Below.both H1.out.below H2.out.below)
        refine (K.program a.seg a.page ao _ cap (bytesOf a) HWD.out H2.out OKS.out hN SEG.out PAGE.out ⟨⟨?_, rfl, ⟨?_, GIV.out.2.1⟩, GIV.out.2.2.1⟩, .inr ?_⟩ hbl).mono ?_
        · rw [hxe]; exact hvw.mono (fun k hk => Nat.lt_of_lt_of_le hk H2.out.size)
        · rw [hxe]; exact GIV.out.1
        · rw [hxe]; exact hvw
        · rintro e w' ⟨he, h4⟩
          exact ⟨he, h4.drop2⟩
    clear hcase hwd H2 HWD hbl
    go_wp2_with (fail)
    refine PR.out.mono ?_
    rintro e w2 ⟨rfl, h2⟩
    have H9 := Lib.hid h2
    clear h2 PR
    go_wp2
    go_ret
    exact ⟨rfl, H9.out⟩
  | 1, _ =>
    have hri0 : (a.kind.toNat : Int) % 6 = 1 := hri
    have HD : Hid (doAct s a = erase s a.seg) := by
      show doAct s a = erase s a.seg
      unfold doAct
      rw [HR.out]
      rfl
    rw [HD.out]
    clear hri HD HR
    have D := C1.out w1 (Below.refl _ _)
    go_enter Try.func20, Try.ntmps20
    rw [hw1, hbd] at C0 D
    go_wp2_with (fail)
    rw [← hw1]
    clear C0 hw1 hbd D
    refine (K.erase a.seg HW1.out H1.out OKS.out hN SEG.out).mono ?_
    rintro e w2 ⟨rfl, h2⟩
    have H9 := Lib.hid h2.drop2
    clear h2
    go_wp2
    go_ret
    exact ⟨rfl, H9.out⟩
  | 2, _ =>
    have hri0 : (a.kind.toNat : Int) % 6 = 2 := hri
    have HD : Hid (doAct s a = barrier s) := by
      show doAct s a = barrier s
      unfold doAct
      rw [HR.out]
      rfl
    rw [HD.out]
    clear hri HD HR
    go_enter Try.func20, Try.ntmps20
    rw [hw1, hbd] at C0
    go_wp2_with (fail)
    rw [← hw1]
    clear C0 hw1 hbd
    refine (K.barrier HW1.out H1.out OKS.out hN).mono ?_
    rintro e w2 ⟨rfl, h2⟩
    have H9 := Lib.hid h2.drop2
    clear h2
    go_wp2
    go_ret
    exact ⟨rfl, H9.out⟩
  | 3, _ =>
    have hri0 : (a.kind.toNat : Int) % 6 = 3 := hri
    have HD : Hid (doAct s a = (cut s a.n, 0)) := by
      show doAct s a = (cut s a.n, 0)
      unfold doAct
      rw [HR.out]
      rfl
    rw [HD.out]
    clear hri HD HR
    have D := C5.out w1 (Below.refl _ _)
    go_enter Try.func20, Try.ntmps20
    rw [hw1, hbd] at C0 D
    go_wp2_with (fail)
    rw [← hw1]
    clear C0 hw1 hbd D
    refine (K.cut a.n HW1.out H1.out OKS.out hN NB.out).mono ?_
    rintro e w2 ⟨rfl, h2⟩
    have H9 := Lib.hid h2.drop2
    clear h2
    go_wp2
    go_ret
    exact ⟨rfl, H9.out⟩
  | 4, _ =>
    have hri0 : (a.kind.toNat : Int) % 6 = 4 := hri
    have HD : Hid (doAct s a = (crash s a.fates, 0)) := by
      show doAct s a = (crash s a.fates, 0)
      unfold doAct
      rw [HR.out]
      rfl
    rw [HD.out]
    clear hri HD HR
    have D := C6.out w1 (Below.refl _ _)
    go_enter Try.func20, Try.ntmps20
    rw [hw1, hbd] at C0 D
    go_wp2_with (fail)
    rw [← hw1]
    clear C0 hw1 hbd D
    refine (K.crash af _ cf a.fates HW1.out H1.out OKS.out hN ⟨rfl, ⟨GIV.out.2.2.2.1, GIV.out.2.2.2.2.1⟩, GIV.out.2.2.2.2.2, iview_ints I1.out, .inr I1.out⟩).mono ?_
    rintro e w2 ⟨rfl, h2⟩
    have H9 := Lib.hid h2.drop2
    clear h2
    go_wp2
    go_ret
    exact ⟨rfl, H9.out⟩
  | 5, _ =>
    have hri0 : (a.kind.toNat : Int) % 6 = 5 := hri
    have HD : Hid (doAct s a = (s, 0)) := by
      show doAct s a = (s, 0)
      unfold doAct
      rw [HR.out]
      rfl
    rw [HD.out]
    clear hri HD HR
    go_enter Try.func20, Try.ntmps20
    rw [hw1, hbd] at C0
    go_wp2_with (fail)
    go_ret
    rw [← hw1]
    exact ⟨rfl, H1.out.drop2⟩
end
end Fla
end Go.Proofs.Ytepllhfofhehaaa
