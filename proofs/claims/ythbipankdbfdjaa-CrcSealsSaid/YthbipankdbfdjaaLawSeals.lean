/- CrcSeals: the walk. -/
import Derived.Test.YthbipankdbfdjaaLaw2
namespace Go.Proofs.Ythbipankdbfdjaa
open Go.RowKit Go.Own
namespace Crc
open Go.CrcM Cod

set_option maxHeartbeats 800000 in
theorem walk_seals (a1 : Option Addr) (len1 cap1 : Nat) (x1 : List UInt8) {w : World} (w1 : inBytes x1 w.heap.size w [.slice a1 len1 cap1]) :
    Calls Try.prog 4 #[.slice a1 len1 cap1] w (RetTrue w) := by
  obtain ⟨m, hm⟩ : ∃ m, (fw x1).length = m := ⟨_, rfl⟩
  have hm5 : m ≤ 50000 := by rw [← hm, fw_len]; omega
  have HF := Lib.hid (fun (w2 : World) => few_in (w := w2) w1 hm)
  have hv := (in_few w1).2.2.2.2.2
  have hin : m ≤ cap1 ∧ cap1 ≤ maxLen ∧ (a1 = none → cap1 = 0) := by
    obtain ⟨h1, h2, h3, h4, _⟩ := in_few w1
    exact ⟨by rw [← hm, fw_len]; omega, h3, fun e => (h4 e).2⟩
  obtain ⟨d, t, hdt⟩ : ∃ d t, openOf (fw x1) = (d, t) := ⟨_, _, rfl⟩
  have hro := fun (w2 : World) (h : View w2 (fun k => k < w.heap.size) a1 (fw x1)) => refOpen_v _ a1 (fw x1) m cap1 w2 h hm hin.2.2 hin.1 hin.2.1 (by omega)
  have hop := fun (w2 : World) (h : View w2 (fun k => k < w.heap.size) a1 (fw x1)) => open_any _ a1 (fw x1) cap1 w2 h (by omega)
  rw [hdt] at hro hop
  rw [hm] at hop
  have HV := Lib.hid hv
  have HM := Lib.hid hm
  have HIN := Lib.hid hin
  have HRO := Lib.hid hro
  have HOP := Lib.hid hop
  clear hv hm hin hro hop hdt w1
  go_enter Try.func4, Try.ntmps4
  go_wp2_with (fail)
  refine (HF.out w).mono ?_
  rintro e w2 ⟨rfl, rfl⟩
  go_wp2_with (fail)
  refine (HOP.out w HV.out).mono ?_
  rintro e w2 ⟨v, n, rfl, hn, a3, c3, T3, rfl, hr3, hs3⟩
  have HN := Lib.hid hn
  have HB2 := Lib.hid (below_of_step hs3)
  have HR3 := Lib.hid hr3
  clear hn hr3 hs3
  go_wp2_with (fail)
  refine (HRO.out w2 (HV.out.below HB2.out)).mono ?_
  rintro e w3 ⟨hb3, V6, rfl, hz⟩
  have HZ := Lib.hid hz
  have HB3 := Lib.hid hb3
  have hn' : d.length = n := HN.out
  have hr3 : Row w2 5 1 T3 (.slice a3 n c3) n (d.map byteV) := HR3.out
  have HY := Lib.hid (view_later (Row.view hr3) hb3)
  have HN' := Lib.hid hn'
  have HX := Lib.hid ((HV.out.below HB2.out).below (hb3.mono HB2.out.size))
  have HBW := Lib.hid (HB2.out.trans (hb3.mono HB2.out.size))
  clear hz hb3 hn' hr3
  go_wp2_with (fail)
  refine wp_lax_list (by kernel_rfl) (by kernel_rfl) (by kernel_rfl) ?_
  refine wpL_fn (.bool true) [] rfl (by kernel_rfl) (by kernel_rfl) (by kernel_rfl) (by kernel_rfl) (fun _ _ => by simp [go_sem]) (fun wx hwx => shown_any wx) ?_
  refine wpL_move (.bool true) rfl (by kernel_rfl) (by kernel_rfl) (by kernel_rfl) (by kernel_rfl) ?_
  refine wpL_move (.slice a1 m cap1) rfl (by kernel_rfl) (by kernel_rfl) (by kernel_rfl) (by kernel_rfl) ?_
  refine wpL_fnT (tyB (sealed (fw x1)) (m + 4)) [.slice a1 m cap1] rfl rfl (by kernel_rfl) (by kernel_rfl) (by kernel_rfl) (by kernel_rfl) (fun _ _ => by simp [go_sem]) (fun wx hwx => seal_ty cap1 (m + 4) HX.out HM.out (by omega) rfl hwx) ?_
  refine wpL_conv (.string (strB (sealed (fw x1)))) rfl rfl (by kernel_rfl) (by kernel_rfl) (fun u wx hwx hu => tyB_str hu) ?_
  refine wpL_move (.slice a1 m cap1) rfl (by kernel_rfl) (by kernel_rfl) (by kernel_rfl) (by kernel_rfl) ?_
  refine wpL_fnT (tyB (sealed (fw x1)) (m + 4)) [.slice a1 m cap1] rfl rfl (by kernel_rfl) (by kernel_rfl) (by kernel_rfl) (by kernel_rfl) (fun _ _ => by simp [go_sem]) (fun wx hwx => refSeal_ty cap1 (m + 4) HX.out HM.out HIN.out.2.2 (by omega) rfl hwx) ?_
  refine wpL_conv (.string (strB (sealed (fw x1)))) rfl rfl (by kernel_rfl) (by kernel_rfl) (fun u wx hwx hu => tyB_str hu) ?_
  refine wpL_run2 (x := .tmp 24) (y := .tmp 27) (.string (strB (sealed (fw x1)))) (.string (strB (sealed (fw x1)))) (.bool true) (by kernel_rfl) (by kernel_rfl) (by kernel_rfl) (by kernel_rfl) (by kernel_rfl) (by kernel_rfl) (fun wx ρ hwx h0 h1 hc => by simp [go_sem, h0, h1, hc]) ?_
  refine wpL_run2 (x := .tmp 21) (y := .tmp 28) (.bool true) (.bool true) (.bool true) (by kernel_rfl) (by kernel_rfl) (by kernel_rfl) (by kernel_rfl) (by kernel_rfl) (by kernel_rfl) (fun wx ρ hwx h0 h1 hc => by simp [go_sem, h0, h1]) ?_
  refine wpL_move (.bool true) rfl (by kernel_rfl) (by kernel_rfl) (by kernel_rfl) (by kernel_rfl) ?_
  refine wpL_move (.slice a3 n c3) rfl (by kernel_rfl) (by kernel_rfl) (by kernel_rfl) (by kernel_rfl) ?_
  refine wpL_convK (.slice a3 n c3) (.string (strB d)) rfl (by kernel_rfl) (by kernel_rfl) (by kernel_rfl) (by kernel_rfl) (fun wx hwx => str_old HY.out HN'.out c3 hwx) ?_
  refine wpL_move (V6) rfl (by kernel_rfl) (by kernel_rfl) (by kernel_rfl) (by kernel_rfl) ?_
  refine wpL_convK V6 (.string (strB d)) rfl (by kernel_rfl) (by kernel_rfl) (by kernel_rfl) (by kernel_rfl) (fun wx hwx => HZ.out wx hwx) ?_
  refine wpL_run2 (x := .tmp 32) (y := .tmp 34) (.string (strB d)) (.string (strB d)) (.bool true) (by kernel_rfl) (by kernel_rfl) (by kernel_rfl) (by kernel_rfl) (by kernel_rfl) (by kernel_rfl) (fun wx ρ hwx h0 h1 hc => by simp [go_sem, h0, h1, hc]) ?_
  refine wpL_run2 (x := .tmp 30) (y := .tmp 35) (.bool true) (.bool true) (.bool true) (by kernel_rfl) (by kernel_rfl) (by kernel_rfl) (by kernel_rfl) (by kernel_rfl) (by kernel_rfl) (fun wx ρ hwx h0 h1 hc => by simp [go_sem, h0, h1]) ?_
  refine wpL_move (.bool true) rfl (by kernel_rfl) (by kernel_rfl) (by kernel_rfl) (by kernel_rfl) ?_
  refine wpL_move (.bool t) rfl (by kernel_rfl) (by kernel_rfl) (by kernel_rfl) (by kernel_rfl) ?_
  refine wpL_move (.bool t) rfl (by kernel_rfl) (by kernel_rfl) (by kernel_rfl) (by kernel_rfl) ?_
  refine wpL_run2 (x := .tmp 38) (y := .tmp 39) (.bool t) (.bool t) (.bool true) (by kernel_rfl) (by kernel_rfl) (by kernel_rfl) (by kernel_rfl) (by kernel_rfl) (by kernel_rfl) (fun wx ρ hwx h0 h1 hc => by simp [go_sem, h0, h1, hc]) ?_
  refine wpL_run2 (x := .tmp 37) (y := .tmp 40) (.bool true) (.bool true) (.bool true) (by kernel_rfl) (by kernel_rfl) (by kernel_rfl) (by kernel_rfl) (by kernel_rfl) (by kernel_rfl) (fun wx ρ hwx h0 h1 hc => by simp [go_sem, h0, h1]) ?_
  refine wpL_assign (.bool true) rfl (by kernel_rfl) (by kernel_rfl) (by kernel_rfl) (by kernel_rfl) ?_
  refine wpL_end (by kernel_rfl) (fun w1 hw v1 hv1 v2 hv2 => ?_)
  have HW := Lib.hid hw
  clear hw hv1 hv2
  simp only [FinL, setL, List.set_cons_zero, List.set_cons_succ]
  go_wp2
  go_ret
  exact ⟨rfl, HBW.out.trans (HW.out.mono HBW.out.size)⟩

end Crc
end Go.Proofs.Ythbipankdbfdjaa
