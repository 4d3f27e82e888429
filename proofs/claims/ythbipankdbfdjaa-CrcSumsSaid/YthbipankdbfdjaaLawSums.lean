/- CrcSums, CrcGoes: the walks. -/
import Derived.Test.YthbipankdbfdjaaLaw2
namespace Go.Proofs.Ythbipankdbfdjaa
open Go.RowKit Go.Own
namespace Crc
open Go.CrcM Cod

set_option maxHeartbeats 800000 in
theorem walk_sums (a0 : Int) (w0 : (Lit.int .u32 a0).wf = true) (a1 : Option Addr) (len1 cap1 : Nat) (x1 : List UInt8) {w : World} (w1 : inBytes x1 w.heap.size w [.slice a1 len1 cap1]) :
    Calls Try.prog 3 #[.int .u32 a0, .slice a1 len1 cap1] w (RetTrue w) := by
  obtain ⟨s, rfl⟩ := reg_of w0
  obtain ⟨m, hm⟩ : ∃ m, (fw x1).length = m := ⟨_, rfl⟩
  have hm5 : m ≤ 50000 := by rw [← hm, fw_len]; omega
  have HF := Lib.hid (fun (w2 : World) => few_in (w := w2) w1 hm)
  have HV := Lib.hid (in_few w1).2.2.2.2.2
  have HM := Lib.hid hm
  clear w0 w1 hm
  obtain ⟨x, hx⟩ : ∃ x, x = msum 0 (fw x1) := ⟨_, rfl⟩
  obtain ⟨y, hy⟩ : ∃ y, y = msum s (fw x1) := ⟨_, rfl⟩
  have c1 : ∀ w2, Below w.heap.size w w2 → Calls Try.prog 13 #[.slice a1 m cap1] w2 fun e w' => e = .returned (.int .u32 x.toNat) ∧ w2 = w' := by
    intro w2 hb
    have := sum_any _ a1 (fw x1) cap1 w2 (HV.out.below hb) (by have := HM.out; omega)
    rwa [HM.out, ← hx] at this
  have c2 : ∀ (w2 : World) (z u : R), u = msum z (fw x1) → Below w.heap.size w w2 → Calls Try.prog 14 #[.int .u32 z.toNat, .slice a1 m cap1] w2 fun e w' => e = .returned (.int .u32 u.toNat) ∧ w2 = w' := by
    intro w2 z u hu hb
    have := refMore_any _ z a1 (fw x1) cap1 w2 (HV.out.below hb) (by have := HM.out; omega)
    rwa [HM.out, ← hu] at this
  have c3 : ∀ w2, Below w.heap.size w w2 → Calls Try.prog 15 #[.int .u32 s.toNat, .slice a1 m cap1] w2 fun e w' => e = .returned (.int .u32 y.toNat) ∧ w2 = w' := by
    intro w2 hb
    have := more_any _ s a1 (fw x1) cap1 w2 (HV.out.below hb) (by have := HM.out; omega)
    rwa [HM.out, ← hy] at this
  have HX := Lib.hid hx
  have HY := Lib.hid hy
  have C1 := Lib.hid c1
  have C2 := Lib.hid c2
  have C3 := Lib.hid c3
  clear hx hy c1 c2 c3
  go_enter Try.func3, Try.ntmps3
  go_wp2_with (fail)
  refine (HF.out w).mono ?_
  rintro e w2 ⟨rfl, rfl⟩
  go_wp2_with (fail)
  refine (shown_any w).mono ?_
  rintro e w2 ⟨rfl, hb⟩
  have HB := Lib.hid hb
  clear hb
  go_wp2_with (fail)
  refine (C1.out _ HB.out).mono ?_
  rintro e w3 ⟨rfl, rfl⟩
  go_wp2_with (fail)
  refine (C2.out _ 0 x HX.out HB.out).mono ?_
  rintro e w3 ⟨rfl, rfl⟩
  go_wp2_with (fail)
  refine (C3.out _ HB.out).mono ?_
  rintro e w3 ⟨rfl, rfl⟩
  go_wp2_with (fail)
  refine (C2.out _ s y HY.out HB.out).mono ?_
  rintro e w3 ⟨rfl, rfl⟩
  go_wp2_with (fail)
  go_ret
  exact ⟨rfl, HB.out⟩

end Crc
end Go.Proofs.Ythbipankdbfdjaa
