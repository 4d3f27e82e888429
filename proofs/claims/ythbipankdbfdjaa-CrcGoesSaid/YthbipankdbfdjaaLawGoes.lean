/- CrcGoes: the walk. -/
import Derived.Test.YthbipankdbfdjaaLaw2
namespace Go.Proofs.Ythbipankdbfdjaa
open Go.RowKit Go.Own
namespace Crc
open Go.CrcM Cod

set_option maxHeartbeats 800000 in
theorem walk_goes (a1 : Option Addr) (len1 cap1 : Nat) (x1 : List UInt8) {w : World} (w1 : inBytes x1 w.heap.size w [.slice a1 len1 cap1]) (a2 : Int) (w2 : (Lit.int .u64 a2).wf = true) :
    Calls Try.prog 5 #[.slice a1 len1 cap1, .int .u64 a2] w (RetTrue w) := by
  have h2 : 0 ≤ a2 ∧ a2 ≤ 18446744073709551615 := by simpa [Lit.wf, IntKind.min, IntKind.max, IntKind.signed, IntKind.bits] using w2
  obtain ⟨c, rfl⟩ := Int.eq_ofNat_of_zero_le h2.1
  obtain ⟨m, hm⟩ : ∃ m, (fw x1).length = m := ⟨_, rfl⟩
  have hm5 : m ≤ 50000 := by rw [← hm, fw_len]; omega
  obtain ⟨k, hk, hkm⟩ : ∃ k : Nat, (c : Int) % ((m : Int) + 1) = (k : Int) ∧ k ≤ m := ⟨c % (m + 1), by simp, Nat.le_of_lt_succ (Nat.mod_lt c (by omega))⟩
  have HF := Lib.hid (fun (w2 : World) => few_in (w := w2) w1 hm)
  have hv := (in_few w1).2.2.2.2.2
  have hin : m ≤ cap1 ∧ cap1 ≤ maxLen ∧ (a1 = none → cap1 = 0) := by
    obtain ⟨h1, h2, h3, h4, _⟩ := in_few w1
    exact ⟨by rw [← hm, fw_len]; omega, h3, fun e => (h4 e).2⟩
  obtain ⟨a2, c2, hcut, hdrop⟩ := cut_from a1 (fw x1) m cap1 k hm hkm hin.1 hin.2.1 hin.2.2
  obtain ⟨x, hx⟩ : ∃ x, x = msum 0 ((fw x1).take k) := ⟨_, rfl⟩
  obtain ⟨y, hy⟩ : ∃ y, y = msum 0 (fw x1) := ⟨_, rfl⟩
  have c1 : ∀ w2, Below w.heap.size w w2 → Calls Try.prog 13 #[.slice a1 k cap1] w2 fun e w' => e = .returned (.int .u32 x.toNat) ∧ Below w2.heap.size w2 w' := by
    intro w2 hb
    have := sum_any _ a1 ((fw x1).take k) cap1 w2 ((View.take hv k).below hb) (by rw [List.length_take]; omega)
    rw [← hx, List.length_take, hm, Nat.min_eq_left hkm] at this
    exact this.mono fun _ _ h => ⟨h.1, h.2 ▸ Below.refl _ _⟩
  have cc2 : ∀ w2, Below w.heap.size w w2 → Calls Try.prog 15 #[.int .u32 x.toNat, .slice a2 (m - k) c2] w2 fun e w' => e = .returned (.int .u32 y.toNat) ∧ Below w2.heap.size w2 w' := by
    intro w2 hb
    have := more_any _ x a2 ((fw x1).drop k) c2 w2 (hdrop _ _ (hv.below hb)) (by rw [List.length_drop]; omega)
    rw [List.length_drop, hm, hx, msum_append, List.take_append_drop, ← hy, ← hx] at this
    exact this.mono fun _ _ h => ⟨h.1, h.2 ▸ Below.refl _ _⟩
  have c3 : ∀ w2, Below w.heap.size w w2 → Calls Try.prog 13 #[.slice a1 m cap1] w2 fun e w' => e = .returned (.int .u32 y.toNat) ∧ Below w2.heap.size w2 w' := by
    intro w2 hb
    have := sum_any _ a1 (fw x1) cap1 w2 (hv.below hb) (by omega)
    rw [hm, ← hy] at this
    exact this.mono fun _ _ h => ⟨h.1, h.2 ▸ Below.refl _ _⟩
  have HCUT := Lib.hid hcut
  have HIN := Lib.hid hin
  have C1 := Lib.hid c1
  have C2 := Lib.hid cc2
  have C3 := Lib.hid c3
  clear hx hy c1 cc2 c3 hcut hdrop hv hin w1 hm
  go_enter Try.func5, Try.ntmps5
  go_wp2_with (fail)
  refine (HF.out w).mono ?_
  rintro e w2 ⟨rfl, rfl⟩
  go_wp2_with (fail)
  refine wp_lax_list (by kernel_rfl) (by kernel_rfl) (by kernel_rfl) ?_
  refine wpL_fn (.bool true) [] rfl (by kernel_rfl) (by kernel_rfl) (by kernel_rfl) (by kernel_rfl) (fun _ _ => by simp [go_sem]) (fun wx hwx => shown_any wx) ?_
  refine wpL_move (.bool true) rfl (by kernel_rfl) (by kernel_rfl) (by kernel_rfl) (by kernel_rfl) ?_
  refine wpL_move (.slice a1 m cap1) rfl (by kernel_rfl) (by kernel_rfl) (by kernel_rfl) (by kernel_rfl) ?_
  refine wpL_move (.int .i64 k) rfl (by kernel_rfl) (by kernel_rfl) (by kernel_rfl) (by kernel_rfl) ?_
  refine wpL_run2 (x := .tmp 18) (y := .tmp 19) (.slice a1 m cap1) (.int .i64 k) (.slice a1 k cap1) (by kernel_rfl) (by kernel_rfl) (by kernel_rfl) (by kernel_rfl) (by kernel_rfl) (by kernel_rfl) (fun wx ρ hwx h0 h1 hc => cut_to rfl a1 m cap1 k hkm HIN.out.1 HIN.out.2.1 HIN.out.2.2 ρ wx h0 h1) ?_
  refine wpL_fn (.int .u32 x.toNat) [.slice a1 k cap1] rfl (by kernel_rfl) (by kernel_rfl) (by kernel_rfl) (by kernel_rfl) (fun _ _ => by simp [go_sem]) (fun wx hwx => C1.out wx hwx) ?_
  refine wpL_move (.slice a1 m cap1) rfl (by kernel_rfl) (by kernel_rfl) (by kernel_rfl) (by kernel_rfl) ?_
  refine wpL_move (.int .i64 k) rfl (by kernel_rfl) (by kernel_rfl) (by kernel_rfl) (by kernel_rfl) ?_
  refine wpL_run2 (x := .tmp 22) (y := .tmp 23) (.slice a1 m cap1) (.int .i64 k) (.slice a2 (m - k) c2) (by kernel_rfl) (by kernel_rfl) (by kernel_rfl) (by kernel_rfl) (by kernel_rfl) (by kernel_rfl) (fun wx ρ hwx h0 h1 hc => HCUT.out _ _ _ rfl ρ wx h0 h1) ?_
  refine wpL_fn (.int .u32 y.toNat) [.int .u32 x.toNat, .slice a2 (m - k) c2] rfl (by kernel_rfl) (by kernel_rfl) (by kernel_rfl) (by kernel_rfl) (fun _ _ => by simp [go_sem]) (fun wx hwx => C2.out wx hwx) ?_
  refine wpL_move (.slice a1 m cap1) rfl (by kernel_rfl) (by kernel_rfl) (by kernel_rfl) (by kernel_rfl) ?_
  refine wpL_fn (.int .u32 y.toNat) [.slice a1 m cap1] rfl (by kernel_rfl) (by kernel_rfl) (by kernel_rfl) (by kernel_rfl) (fun _ _ => by simp [go_sem]) (fun wx hwx => C3.out wx hwx) ?_
  refine wpL_run2 (x := .tmp 25) (y := .tmp 27) (.int .u32 y.toNat) (.int .u32 y.toNat) (.bool true) (by kernel_rfl) (by kernel_rfl) (by kernel_rfl) (by kernel_rfl) (by kernel_rfl) (by kernel_rfl) (fun wx ρ hwx h0 h1 hc => by simp [go_sem, h0, h1, hc]) ?_
  refine wpL_run2 (x := .tmp 17) (y := .tmp 28) (.bool true) (.bool true) (.bool true) (by kernel_rfl) (by kernel_rfl) (by kernel_rfl) (by kernel_rfl) (by kernel_rfl) (by kernel_rfl) (fun wx ρ hwx h0 h1 hc => by simp [go_sem, h0, h1]) ?_
  refine wpL_assign (.bool true) rfl (by kernel_rfl) (by kernel_rfl) (by kernel_rfl) (by kernel_rfl) ?_
  refine wpL_end (by kernel_rfl) (fun w1 hw => ?_)
  have HW := Lib.hid hw
  clear hw
  simp only [FinL, setL, List.set_cons_zero, List.set_cons_succ]
  go_wp2
  go_ret
  exact ⟨rfl, HW.out⟩

end Crc
end Go.Proofs.Ythbipankdbfdjaa
