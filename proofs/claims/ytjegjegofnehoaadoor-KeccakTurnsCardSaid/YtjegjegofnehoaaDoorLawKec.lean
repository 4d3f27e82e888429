/- KeccakTurns, KeccakMarks: the walks. -/
import Derived.Test.YtjegjegofnehoaaDoorKecQ
namespace Go.Proofs.YtjegjegofnehoaaDoor
open Go.RowKit Go.Own
namespace Kec
open Go.KecM

theorem i64_in {a : Int} (h : (Lit.int .i64 a).wf = true) : -9223372036854775808 ≤ a ∧ a ≤ 9223372036854775807 := by
  simp [Lit.wf, IntKind.min, IntKind.max, IntKind.signed, IntKind.bits] at h
  omega

set_option maxHeartbeats 400000 in
theorem walk_turns (a0 : Int) (w0 : (Lit.int .i64 a0).wf = true) (a1 : Int) (w1 : (Lit.int .i64 a1).wf = true) {w : World} (K : Kept w) :
    Calls Tryd.prog 3 #[.int .i64 a0, .int .i64 a1] w (RetYes w) := by
  have HX := Lib.hid (i64_in w0)
  have HY := Lib.hid (i64_in w1)
  obtain ⟨t, ht⟩ : ∃ t : Nat, t = KecM.turn (a0 % 5).toNat (a1 % 5).toNat := ⟨_, rfl⟩
  have CK : Hid (∀ wx, Below w.heap.size w wx → Calls Tryd.prog 12 #[.int .i64 a0, .int .i64 a1] wx fun e w' => e = .returned (.int .i64 t) ∧ Below wx.heap.size wx w') := by
    intro wx hwx
    rw [ht]
    exact K.turn a0 a1 wx hwx HX.out.1 HX.out.2 HY.out.1 HY.out.2
  have CR : Hid (∀ wx, Calls Tryd.prog 13 #[.int .i64 a0, .int .i64 a1] wx fun e w' => e = .returned (.int .i64 t) ∧ wx = w') := by
    intro wx
    rw [ht]
    exact turnOf_any a0 a1 wx
  have SH := Lib.hid (shown_any K)
  clear ht w0 w1 HX HY K
  go_enter Tryd.func3, Tryd.ntmps3
  go_wp2_with (fail)
  refine SH.out.mono ?_
  rintro e w2 ⟨rfl, h2⟩
  have H2 := Lib.hid h2
  clear h2
  go_wp2_with (fail)
  refine (CK.out _ H2.out).mono ?_
  rintro e w3 ⟨rfl, h3⟩
  have H3 := Lib.hid (H2.out.trans (h3.mono H2.out.size))
  clear h3
  go_wp2_with (fail)
  refine (CR.out _).mono ?_
  rintro e w4 ⟨rfl, rfl⟩
  go_wp2_with (fail)
  go_ret
  exact ⟨rfl, H3.out⟩

set_option maxHeartbeats 400000 in
theorem walk_marks (a0 : Int) (w0 : (Lit.int .i64 a0).wf = true) {w : World} (K : Kept w) :
    Calls Tryd.prog 4 #[.int .i64 a0] w (RetYes w) := by
  have HX := Lib.hid (i64_in w0)
  obtain ⟨t, ht⟩ : ∃ t : Nat, t = (markOf a0).toNat := ⟨_, rfl⟩
  have CK : Hid (∀ wx, Below w.heap.size w wx → Calls Tryd.prog 14 #[.int .i64 a0] wx fun e w' => e = .returned (.int .u64 t) ∧ Below wx.heap.size wx w') := by
    intro wx hwx
    rw [ht]
    exact K.mark a0 wx hwx HX.out.1 HX.out.2
  have CR : Hid (∀ wx, Calls Tryd.prog 15 #[.int .i64 a0] wx fun e w' => e = .returned (.int .u64 t) ∧ wx = w') := by
    intro wx
    rw [ht]
    exact markOf_any a0 HX.out.1 HX.out.2 wx
  have SH := Lib.hid (shown_any K)
  clear ht w0 HX K
  go_enter Tryd.func4, Tryd.ntmps4
  go_wp2_with (fail)
  refine SH.out.mono ?_
  rintro e w2 ⟨rfl, h2⟩
  have H2 := Lib.hid h2
  clear h2
  go_wp2_with (fail)
  refine (CK.out _ H2.out).mono ?_
  rintro e w3 ⟨rfl, h3⟩
  have H3 := Lib.hid (H2.out.trans (h3.mono H2.out.size))
  clear h3
  go_wp2_with (fail)
  refine (CR.out _).mono ?_
  rintro e w4 ⟨rfl, rfl⟩
  go_wp2_with (fail)
  go_ret
  exact ⟨rfl, H3.out⟩

end Kec
end Go.Proofs.YtjegjegofnehoaaDoor
