/- CrcBack: the walk. -/
import Derived.Test.YthbipankdbfdjaaLaw2
namespace Go.Proofs.Ythbipankdbfdjaa
open Go.RowKit Go.Own
namespace Crc
open Go.CrcM Cod

set_option maxHeartbeats 1600000 in
theorem walk_back (a1 : Option Addr) (len1 cap1 : Nat) (x1 : List UInt8) {w : World} (w1 : inBytes x1 w.heap.size w [.slice a1 len1 cap1]) (a2 : Option Addr) (len2 cap2 : Nat) (x2 : List UInt8) (w2 : inBytes x2 w.heap.size w [.slice a2 len2 cap2]) :
    Calls Try.prog 7 #[.slice a1 len1 cap1, .slice a2 len2 cap2] w (RetTrue w) := by
  obtain ⟨m1, hm1⟩ : ∃ m, (fw x1).length = m := ⟨_, rfl⟩
  obtain ⟨m2, hm2⟩ : ∃ m, (fw x2).length = m := ⟨_, rfl⟩
  have hm15 : m1 ≤ 50000 := by rw [← hm1, fw_len]; omega
  have hm25 : m2 ≤ 50000 := by rw [← hm2, fw_len]; omega
  have HF1 := Lib.hid (fun (w3 : World) => few_in (w := w3) w1 hm1)
  have HF2 := Lib.hid (fun (w3 : World) => few_in (w := w3) w2 hm2)
  have HV01 := Lib.hid (in_few w1).2.2.2.2.2
  have HV02 := Lib.hid (in_few w2).2.2.2.2.2
  have HM1 := Lib.hid hm1
  have HM2 := Lib.hid hm2
  obtain ⟨d, t, hdt⟩ : ∃ d t, openOf (fw x2) = (d, t) := ⟨_, _, rfl⟩
  have HDT := Lib.hid hdt
  clear w1 w2 hm1 hm2 hdt
  go_enter Try.func7, Try.ntmps7
  go_wp2_with (fail)
  refine (shown_any w).mono ?_
  rintro e wa ⟨rfl, hb⟩
  have HBa := Lib.hid hb
  clear hb
  go_wp2_with (fail)
  refine (HF1.out wa).mono ?_
  rintro e wb ⟨rfl, rfl⟩
  go_wp2_with (fail)
  have hc := seal_any _ a1 (fw x1) cap1 (m1 + 4) wa (HV01.out.below HBa.out) (by rw [HM1.out]; omega) (by rw [HM1.out])
  rw [HM1.out] at hc
  refine hc.mono ?_
  clear hc
  rintro e wb ⟨v, rfl, a6, c6, T6, rfl, hr6, hs6⟩
  have HR6 := Lib.hid hr6
  have HBb := Lib.hid (HBa.out.trans ((below_of_step hs6).mono HBa.out.size))
  have hsl : (sealed (fw x1)).length = m1 + 4 := by have := hr6.own.1; simpa using this
  have HSL := Lib.hid hsl
  clear hr6 hs6 hsl
  go_wp2_with (fail)
  have hc := open_any T6 a6 (sealed (fw x1)) c6 wb (Row.view HR6.out) (by rw [HSL.out]; omega)
  rw [HSL.out, openOf_sealed] at hc
  refine hc.mono ?_
  clear hc
  rintro e wc ⟨v, n7, rfl, hn7, a7, c7, T7, rfl, hr7, hs7⟩
  obtain rfl : m1 = n7 := by rw [← HM1.out]; exact hn7
  have HBS7 := Lib.hid (below_of_step hs7)
  have HX7b := Lib.hid (Row.view hr7)
  have HBc := Lib.hid (HBb.out.trans ((below_of_step hs7).mono HBb.out.size))
  clear hn7 hr7 hs7
  go_wp2_with (fail)
  refine (HF2.out wc).mono ?_
  rintro e wd ⟨rfl, rfl⟩
  go_wp2_with (fail)
  have hc := open_any _ a2 (fw x2) cap2 wc (HV02.out.below HBc.out) (by rw [HM2.out]; omega)
  rw [HM2.out, HDT.out] at hc
  refine hc.mono ?_
  clear hc
  rintro e wd ⟨v, n9, rfl, hn9, a9, c9, T9, rfl, hr9, hs9⟩
  have hn9' : d.length = n9 := hn9
  have hr9' : Row wd 5 1 T9 (.slice a9 n9 c9) n9 (d.map byteV) := hr9
  have HN := Lib.hid hn9'
  have HY := Lib.hid (Row.view hr9')
  have hbs9 := below_of_step hs9
  have HBd := Lib.hid (HBc.out.trans (hbs9.mono HBc.out.size))
  have HX7 := Lib.hid (view_later HX7b.out hbs9)
  have HV6 := Lib.hid (view_later (Row.view HR6.out) (HBS7.out.trans (hbs9.mono HBS7.out.size)))
  have HV1 := Lib.hid (HV01.out.below HBd.out)
  have HV2 := Lib.hid (HV02.out.below HBd.out)
  have hnd : n9 ≤ 50000 := by
    rw [← hn9']
    rcases openOf_take (fw x2) with h | h <;> rw [HDT.out] at h <;> simp only [Prod.mk.injEq] at h
    · rw [h.1]; simp
    · rw [h.1, List.length_take, HM2.out]; omega
  clear hn9 hn9' hr9 hr9' hs9 hbs9
  have HSUM : Hid (∀ wx, Below wd.heap.size wd wx → Calls Try.prog 13 #[.slice a6 (m1 + 4) c6] wx fun e w' => e = .returned (.int .u32 558161692) ∧ Below wx.heap.size wx w') := by
    intro wx hwx
    have h := sum_any _ a6 (sealed (fw x1)) c6 wx (view_later HV6.out hwx) (by rw [HSL.out]; omega)
    rw [HSL.out, msum_sealed] at h
    exact h.mono fun _ _ h => ⟨h.1, h.2 ▸ Below.refl _ _⟩
  go_wp2_with (fail)
  -- the second test is no
  cases t with
  | true =>
    have HQ := Lib.hid ((openOf_is HDT.out).1 rfl)
    refine wp_lax_list (by kernel_rfl) (by kernel_rfl) (by kernel_rfl) ?_
    refine wpL_move (.bool true) rfl (by kernel_rfl) (by kernel_rfl) (by kernel_rfl) (by kernel_rfl) ?_
    refine wpL_move (.slice a9 n9 c9) rfl (by kernel_rfl) (by kernel_rfl) (by kernel_rfl) (by kernel_rfl) ?_
    refine wpL_fnT (tyB (sealed d) (n9 + 4)) [.slice a9 n9 c9] rfl rfl (by kernel_rfl) (by kernel_rfl) (by kernel_rfl) (by kernel_rfl) (fun _ _ => by simp [go_sem]) (fun wx hwx => seal_ty c9 (n9 + 4) HY.out HN.out (by omega) rfl hwx) ?_
    refine wpL_conv (.string (strB (sealed d))) rfl rfl (by kernel_rfl) (by kernel_rfl) (fun u wx hwx hu => tyB_str hu) ?_
    refine wpL_move (.slice a2 len2 cap2) rfl (by kernel_rfl) (by kernel_rfl) (by kernel_rfl) (by kernel_rfl) ?_
    refine wpL_fn (.slice a2 m2 cap2) [.slice a2 len2 cap2] rfl (by kernel_rfl) (by kernel_rfl) (by kernel_rfl) (by kernel_rfl) (fun _ _ => by simp [go_sem]) (fun wx hwx => (HF2.out wx).mono fun _ _ h => ⟨h.1, h.2 ▸ Below.refl _ _⟩) ?_
    refine wpL_convK (.slice a2 m2 cap2) (.string (strB (fw x2))) rfl (by kernel_rfl) (by kernel_rfl) (by kernel_rfl) (by kernel_rfl) (fun wx hwx => str_old HV2.out HM2.out cap2 hwx) ?_
    refine wpL_run2 (x := .tmp 29) (y := .tmp 32) (.string (strB (sealed d))) (.string (strB (fw x2))) (.bool true) (by kernel_rfl) (by kernel_rfl) (by kernel_rfl) (by kernel_rfl) (by kernel_rfl) (by kernel_rfl) (fun wx ρ hwx h0 h1 hc => by simp [h0, h1, hc, go_sem, HQ.out]) ?_
    refine wpL_run2 (x := .tmp 26) (y := .tmp 33) (.bool true) (.bool true) (.bool false) (by kernel_rfl) (by kernel_rfl) (by kernel_rfl) (by kernel_rfl) (by kernel_rfl) (by kernel_rfl) (fun wx ρ hwx h0 h1 hc => by simp [go_sem, h0, h1, hc]) ?_
    refine wpL_move (.bool false) rfl (by kernel_rfl) (by kernel_rfl) (by kernel_rfl) (by kernel_rfl) ?_
    refine wpL_move (.bool true) rfl (by kernel_rfl) (by kernel_rfl) (by kernel_rfl) (by kernel_rfl) ?_
    refine wpL_run1 (x := .tmp 36) (.bool true) (.bool false) (by kernel_rfl) (by kernel_rfl) (by kernel_rfl) (by kernel_rfl) (by kernel_rfl) (fun wx ρ hwx h0 hc => by simp [go_sem, h0, hc]) ?_
    refine wpL_move (.bool false) rfl (by kernel_rfl) (by kernel_rfl) (by kernel_rfl) (by kernel_rfl) ?_
    refine wpL_skip (by kernel_rfl) (by kernel_rfl) ?_
    refine wpL_skip (by kernel_rfl) (by kernel_rfl) ?_
    refine wpL_skip (by kernel_rfl) (by kernel_rfl) ?_
    refine wpL_run1 (x := .tmp 38) (.bool false) (.bool false) (by kernel_rfl) (by kernel_rfl) (by kernel_rfl) (by kernel_rfl) (by kernel_rfl) (fun wx ρ hwx h0 hc => by simp [go_sem, h0, hc]) ?_
    refine wpL_run2 (x := .tmp 35) (y := .tmp 42) (.bool false) (.bool false) (.bool false) (by kernel_rfl) (by kernel_rfl) (by kernel_rfl) (by kernel_rfl) (by kernel_rfl) (by kernel_rfl) (fun wx ρ hwx h0 h1 hc => by simp [go_sem, h0, h1]) ?_
    refine wpL_end (by kernel_rfl) (fun we hwe v28 hv28 => ?_)
    have HE := Lib.hid hwe
    clear hwe hv28
    simp only [FinL, setL, List.set_cons_zero, List.set_cons_succ]
    go_wp2_with (fail)
    refine wp_lax_list (by kernel_rfl) (by kernel_rfl) (by kernel_rfl) ?_
    refine wpL_move (.bool true) rfl (by kernel_rfl) (by kernel_rfl) (by kernel_rfl) (by kernel_rfl) ?_
    refine wpL_move (.bool true) rfl (by kernel_rfl) (by kernel_rfl) (by kernel_rfl) (by kernel_rfl) ?_
    refine wpL_move (.bool true) rfl (by kernel_rfl) (by kernel_rfl) (by kernel_rfl) (by kernel_rfl) ?_
    refine wpL_run2 (x := .tmp 45) (y := .tmp 46) (.bool true) (.bool true) (.bool true) (by kernel_rfl) (by kernel_rfl) (by kernel_rfl) (by kernel_rfl) (by kernel_rfl) (by kernel_rfl) (fun wx ρ hwx h0 h1 hc => by simp [go_sem, h0, h1]) ?_
    refine wpL_move (.bool true) rfl (by kernel_rfl) (by kernel_rfl) (by kernel_rfl) (by kernel_rfl) ?_
    refine wpL_move (.slice a7 m1 c7) rfl (by kernel_rfl) (by kernel_rfl) (by kernel_rfl) (by kernel_rfl) ?_
    refine wpL_convK (.slice a7 m1 c7) (.string (strB (fw x1))) rfl (by kernel_rfl) (by kernel_rfl) (by kernel_rfl) (by kernel_rfl) (fun wx hwx => str_old HX7.out HM1.out c7 (HE.out.trans (hwx.mono HE.out.size))) ?_
    refine wpL_move (.slice a1 len1 cap1) rfl (by kernel_rfl) (by kernel_rfl) (by kernel_rfl) (by kernel_rfl) ?_
    refine wpL_fn (.slice a1 m1 cap1) [.slice a1 len1 cap1] rfl (by kernel_rfl) (by kernel_rfl) (by kernel_rfl) (by kernel_rfl) (fun _ _ => by simp [go_sem]) (fun wx hwx => (HF1.out wx).mono fun _ _ h => ⟨h.1, h.2 ▸ Below.refl _ _⟩) ?_
    refine wpL_convK (.slice a1 m1 cap1) (.string (strB (fw x1))) rfl (by kernel_rfl) (by kernel_rfl) (by kernel_rfl) (by kernel_rfl) (fun wx hwx => str_old HV1.out HM1.out cap1 (HE.out.trans (hwx.mono HE.out.size))) ?_
    refine wpL_run2 (x := .tmp 50) (y := .tmp 53) (.string (strB (fw x1))) (.string (strB (fw x1))) (.bool true) (by kernel_rfl) (by kernel_rfl) (by kernel_rfl) (by kernel_rfl) (by kernel_rfl) (by kernel_rfl) (fun wx ρ hwx h0 h1 hc => by simp [go_sem, h0, h1, hc]) ?_
    refine wpL_run2 (x := .tmp 48) (y := .tmp 54) (.bool true) (.bool true) (.bool true) (by kernel_rfl) (by kernel_rfl) (by kernel_rfl) (by kernel_rfl) (by kernel_rfl) (by kernel_rfl) (fun wx ρ hwx h0 h1 hc => by simp [go_sem, h0, h1]) ?_
    refine wpL_move (.bool true) rfl (by kernel_rfl) (by kernel_rfl) (by kernel_rfl) (by kernel_rfl) ?_
    refine wpL_move (.slice a6 (m1 + 4) c6) rfl (by kernel_rfl) (by kernel_rfl) (by kernel_rfl) (by kernel_rfl) ?_
    refine wpL_fn (.int .u32 558161692) [.slice a6 (m1 + 4) c6] rfl (by kernel_rfl) (by kernel_rfl) (by kernel_rfl) (by kernel_rfl) (fun _ _ => by simp [go_sem]) (fun wx hwx => HSUM.out wx (HE.out.trans (hwx.mono HE.out.size))) ?_
    refine wpL_run1 (x := .tmp 58) (.int .u32 558161692) (.bool true) (by kernel_rfl) (by kernel_rfl) (by kernel_rfl) (by kernel_rfl) (by kernel_rfl) (fun wx ρ hwx h0 hc => by simp [go_sem, h0, hc]) ?_
    refine wpL_run2 (x := .tmp 56) (y := .tmp 59) (.bool true) (.bool true) (.bool true) (by kernel_rfl) (by kernel_rfl) (by kernel_rfl) (by kernel_rfl) (by kernel_rfl) (by kernel_rfl) (fun wx ρ hwx h0 h1 hc => by simp [go_sem, h0, h1]) ?_
    refine wpL_assign (.bool true) rfl (by kernel_rfl) (by kernel_rfl) (by kernel_rfl) (by kernel_rfl) ?_
    refine wpL_end (by kernel_rfl) (fun wf hwf => ?_)
    have HW := Lib.hid (HBd.out.trans ((HE.out.trans (hwf.mono HE.out.size)).mono HBd.out.size))
    clear hwf
    simp only [FinL, setL, List.set_cons_zero, List.set_cons_succ]
    go_wp2
    go_ret
    exact ⟨rfl, HW.out⟩
  | false =>
    have hq := (openOf_is HDT.out).2 rfl
    have HQ : Hid (¬ (strB (sealed d)).toList = (strB (fw x2)).toList) := by show ¬ _; rw [strB_toList, strB_toList]; exact hq.2
    have hn0 : n9 = 0 := by rw [← HN.out, hq.1]; rfl
    clear hq
    refine wp_lax_list (by kernel_rfl) (by kernel_rfl) (by kernel_rfl) ?_
    refine wpL_move (.bool false) rfl (by kernel_rfl) (by kernel_rfl) (by kernel_rfl) (by kernel_rfl) ?_
    refine wpL_move (.slice a9 n9 c9) rfl (by kernel_rfl) (by kernel_rfl) (by kernel_rfl) (by kernel_rfl) ?_
    refine wpL_fnT (tyB (sealed d) (n9 + 4)) [.slice a9 n9 c9] rfl rfl (by kernel_rfl) (by kernel_rfl) (by kernel_rfl) (by kernel_rfl) (fun _ _ => by simp [go_sem]) (fun wx hwx => seal_ty c9 (n9 + 4) HY.out HN.out (by omega) rfl hwx) ?_
    refine wpL_conv (.string (strB (sealed d))) rfl rfl (by kernel_rfl) (by kernel_rfl) (fun u wx hwx hu => tyB_str hu) ?_
    refine wpL_move (.slice a2 len2 cap2) rfl (by kernel_rfl) (by kernel_rfl) (by kernel_rfl) (by kernel_rfl) ?_
    refine wpL_fn (.slice a2 m2 cap2) [.slice a2 len2 cap2] rfl (by kernel_rfl) (by kernel_rfl) (by kernel_rfl) (by kernel_rfl) (fun _ _ => by simp [go_sem]) (fun wx hwx => (HF2.out wx).mono fun _ _ h => ⟨h.1, h.2 ▸ Below.refl _ _⟩) ?_
    refine wpL_convK (.slice a2 m2 cap2) (.string (strB (fw x2))) rfl (by kernel_rfl) (by kernel_rfl) (by kernel_rfl) (by kernel_rfl) (fun wx hwx => str_old HV2.out HM2.out cap2 hwx) ?_
    refine wpL_run2 (x := .tmp 29) (y := .tmp 32) (.string (strB (sealed d))) (.string (strB (fw x2))) (.bool false) (by kernel_rfl) (by kernel_rfl) (by kernel_rfl) (by kernel_rfl) (by kernel_rfl) (by kernel_rfl) (fun wx ρ hwx h0 h1 hc => by simp [h0, h1, hc, go_sem, HQ.out]) ?_
    refine wpL_run2 (x := .tmp 26) (y := .tmp 33) (.bool false) (.bool false) (.bool false) (by kernel_rfl) (by kernel_rfl) (by kernel_rfl) (by kernel_rfl) (by kernel_rfl) (by kernel_rfl) (fun wx ρ hwx h0 h1 hc => by simp [go_sem, h0, h1, hc]) ?_
    refine wpL_move (.bool false) rfl (by kernel_rfl) (by kernel_rfl) (by kernel_rfl) (by kernel_rfl) ?_
    refine wpL_move (.bool false) rfl (by kernel_rfl) (by kernel_rfl) (by kernel_rfl) (by kernel_rfl) ?_
    refine wpL_run1 (x := .tmp 36) (.bool false) (.bool true) (by kernel_rfl) (by kernel_rfl) (by kernel_rfl) (by kernel_rfl) (by kernel_rfl) (fun wx ρ hwx h0 hc => by simp [go_sem, h0, hc]) ?_
    refine wpL_move (.bool true) rfl (by kernel_rfl) (by kernel_rfl) (by kernel_rfl) (by kernel_rfl) ?_
    refine wpL_move (.slice a9 n9 c9) rfl (by kernel_rfl) (by kernel_rfl) (by kernel_rfl) (by kernel_rfl) ?_
    refine wpL_run1 (x := .tmp 39) (.slice a9 n9 c9) (.int .i64 n9) (by kernel_rfl) (by kernel_rfl) (by kernel_rfl) (by kernel_rfl) (by kernel_rfl) (fun wx ρ hwx h0 hc => by simp [go_sem, h0, hc]) ?_
    refine wpL_run1 (x := .tmp 40) (.int .i64 n9) (.bool false) (by kernel_rfl) (by kernel_rfl) (by kernel_rfl) (by kernel_rfl) (by kernel_rfl) (fun wx ρ hwx h0 hc => by simp [h0, hc, go_sem]; omega) ?_
    refine wpL_run2 (x := .tmp 38) (y := .tmp 41) (.bool true) (.bool false) (.bool false) (by kernel_rfl) (by kernel_rfl) (by kernel_rfl) (by kernel_rfl) (by kernel_rfl) (by kernel_rfl) (fun wx ρ hwx h0 h1 hc => by simp [go_sem, h0, h1]) ?_
    refine wpL_run2 (x := .tmp 35) (y := .tmp 42) (.bool false) (.bool false) (.bool false) (by kernel_rfl) (by kernel_rfl) (by kernel_rfl) (by kernel_rfl) (by kernel_rfl) (by kernel_rfl) (fun wx ρ hwx h0 h1 hc => by simp [go_sem, h0, h1]) ?_
    refine wpL_end (by kernel_rfl) (fun we hwe v28 hv28 => ?_)
    have HE := Lib.hid hwe
    clear hwe hv28 hn0
    simp only [FinL, setL, List.set_cons_zero, List.set_cons_succ]
    go_wp2_with (fail)
    refine wp_lax_list (by kernel_rfl) (by kernel_rfl) (by kernel_rfl) ?_
    refine wpL_move (.bool true) rfl (by kernel_rfl) (by kernel_rfl) (by kernel_rfl) (by kernel_rfl) ?_
    refine wpL_move (.bool true) rfl (by kernel_rfl) (by kernel_rfl) (by kernel_rfl) (by kernel_rfl) ?_
    refine wpL_move (.bool true) rfl (by kernel_rfl) (by kernel_rfl) (by kernel_rfl) (by kernel_rfl) ?_
    refine wpL_run2 (x := .tmp 45) (y := .tmp 46) (.bool true) (.bool true) (.bool true) (by kernel_rfl) (by kernel_rfl) (by kernel_rfl) (by kernel_rfl) (by kernel_rfl) (by kernel_rfl) (fun wx ρ hwx h0 h1 hc => by simp [go_sem, h0, h1]) ?_
    refine wpL_move (.bool true) rfl (by kernel_rfl) (by kernel_rfl) (by kernel_rfl) (by kernel_rfl) ?_
    refine wpL_move (.slice a7 m1 c7) rfl (by kernel_rfl) (by kernel_rfl) (by kernel_rfl) (by kernel_rfl) ?_
    refine wpL_convK (.slice a7 m1 c7) (.string (strB (fw x1))) rfl (by kernel_rfl) (by kernel_rfl) (by kernel_rfl) (by kernel_rfl) (fun wx hwx => str_old HX7.out HM1.out c7 (HE.out.trans (hwx.mono HE.out.size))) ?_
    refine wpL_move (.slice a1 len1 cap1) rfl (by kernel_rfl) (by kernel_rfl) (by kernel_rfl) (by kernel_rfl) ?_
    refine wpL_fn (.slice a1 m1 cap1) [.slice a1 len1 cap1] rfl (by kernel_rfl) (by kernel_rfl) (by kernel_rfl) (by kernel_rfl) (fun _ _ => by simp [go_sem]) (fun wx hwx => (HF1.out wx).mono fun _ _ h => ⟨h.1, h.2 ▸ Below.refl _ _⟩) ?_
    refine wpL_convK (.slice a1 m1 cap1) (.string (strB (fw x1))) rfl (by kernel_rfl) (by kernel_rfl) (by kernel_rfl) (by kernel_rfl) (fun wx hwx => str_old HV1.out HM1.out cap1 (HE.out.trans (hwx.mono HE.out.size))) ?_
    refine wpL_run2 (x := .tmp 50) (y := .tmp 53) (.string (strB (fw x1))) (.string (strB (fw x1))) (.bool true) (by kernel_rfl) (by kernel_rfl) (by kernel_rfl) (by kernel_rfl) (by kernel_rfl) (by kernel_rfl) (fun wx ρ hwx h0 h1 hc => by simp [go_sem, h0, h1, hc]) ?_
    refine wpL_run2 (x := .tmp 48) (y := .tmp 54) (.bool true) (.bool true) (.bool true) (by kernel_rfl) (by kernel_rfl) (by kernel_rfl) (by kernel_rfl) (by kernel_rfl) (by kernel_rfl) (fun wx ρ hwx h0 h1 hc => by simp [go_sem, h0, h1]) ?_
    refine wpL_move (.bool true) rfl (by kernel_rfl) (by kernel_rfl) (by kernel_rfl) (by kernel_rfl) ?_
    refine wpL_move (.slice a6 (m1 + 4) c6) rfl (by kernel_rfl) (by kernel_rfl) (by kernel_rfl) (by kernel_rfl) ?_
    refine wpL_fn (.int .u32 558161692) [.slice a6 (m1 + 4) c6] rfl (by kernel_rfl) (by kernel_rfl) (by kernel_rfl) (by kernel_rfl) (fun _ _ => by simp [go_sem]) (fun wx hwx => HSUM.out wx (HE.out.trans (hwx.mono HE.out.size))) ?_
    refine wpL_run1 (x := .tmp 58) (.int .u32 558161692) (.bool true) (by kernel_rfl) (by kernel_rfl) (by kernel_rfl) (by kernel_rfl) (by kernel_rfl) (fun wx ρ hwx h0 hc => by simp [go_sem, h0, hc]) ?_
    refine wpL_run2 (x := .tmp 56) (y := .tmp 59) (.bool true) (.bool true) (.bool true) (by kernel_rfl) (by kernel_rfl) (by kernel_rfl) (by kernel_rfl) (by kernel_rfl) (by kernel_rfl) (fun wx ρ hwx h0 h1 hc => by simp [go_sem, h0, h1]) ?_
    refine wpL_assign (.bool true) rfl (by kernel_rfl) (by kernel_rfl) (by kernel_rfl) (by kernel_rfl) ?_
    refine wpL_end (by kernel_rfl) (fun wf hwf => ?_)
    have HW := Lib.hid (HBd.out.trans ((HE.out.trans (hwf.mono HE.out.size)).mono HBd.out.size))
    clear hwf
    simp only [FinL, setL, List.set_cons_zero, List.set_cons_succ]
    go_wp2
    go_ret
    exact ⟨rfl, HW.out⟩

end Crc
end Go.Proofs.Ythbipankdbfdjaa
