/- KeccakUnlike: the walk. -/
import Derived.Test.YtjegjegofnehoaaDoorLawKecA
namespace Go.Proofs.YtjegjegofnehoaaDoor
open Go.RowKit Go.Own
namespace Kec
open Go.KecM

theorem u8_in {a : Int} (h : (Lit.int .u8 a).wf = true) : ∃ x : Nat, a = x ∧ x < 256 := by
  have h' : 0 ≤ a ∧ a ≤ 255 := by simpa [Lit.wf, IntKind.min, IntKind.max, IntKind.signed, IntKind.bits] using h
  exact ⟨a.toNat, by omega, by omega⟩

set_option maxHeartbeats 800000 in
theorem walk_unlike (a0 : Int) (w0 : (Lit.int .u8 a0).wf = true) (a1 : Int) (w1 : (Lit.int .u8 a1).wf = true) {w : World} (K : Kept w) :
    Calls Tryd.prog 9 #[.int .u8 a0, .int .u8 a1] w (RetYes w) := by
  obtain ⟨x, rfl, hx⟩ := u8_in w0
  obtain ⟨y, rfl, hy⟩ := u8_in w1
  obtain ⟨i, hi⟩ : ∃ i, i = x % 25 := ⟨_, rfl⟩
  obtain ⟨k, hk⟩ : ∃ k, k = y % 25 := ⟨_, rfl⟩
  have hi25 : i < 25 := by omega
  have hk25 : k < 25 := by omega
  obtain ⟨m, hm⟩ : ∃ m : Nat, m = turns.getD i 0 := ⟨_, rfl⟩
  obtain ⟨n, hn⟩ : ∃ n : Nat, n = turns.getD k 0 := ⟨_, rfl⟩
  have ti : ∀ z : Nat, KecM.turn ((((z : Int) % 5) % 5).toNat) (((z : Int) % 25 / 5) % 5).toNat = turns.getD (z % 25) 0 := by
    intro z
    unfold KecM.turn
    congr 1
    omega
  have CI : Hid (∀ wx, Below w.heap.size w wx → Calls Tryd.prog 12 #[.int .i64 ((x : Int) % 5), .int .i64 ((x : Int) % 25 / 5)] wx fun e w' => e = .returned (.int .i64 (m : Int)) ∧ Below wx.heap.size wx w') := by
    intro wx hwx
    have h := K.turn ((x : Int) % 5) ((x : Int) % 25 / 5) wx hwx (by omega) (by omega) (by omega) (by omega)
    rw [ti x, ← hi, ← hm] at h
    exact h
  have CK : Hid (∀ wx, Below w.heap.size w wx → Calls Tryd.prog 12 #[.int .i64 ((y : Int) % 5), .int .i64 ((y : Int) % 25 / 5)] wx fun e w' => e = .returned (.int .i64 (n : Int)) ∧ Below wx.heap.size wx w') := by
    intro wx hwx
    have h := K.turn ((y : Int) % 5) ((y : Int) % 25 / 5) wx hwx (by omega) (by omega) (by omega) (by omega)
    rw [ti y, ← hk, ← hn] at h
    exact h
  have HE : Hid (((m : Int) = n) ↔ ((x : Int) % 25 = (y : Int) % 25)) := by
    show ((m : Int) = n) ↔ ((x : Int) % 25 = (y : Int) % 25)
    have := turns_unlike ⟨i, hi25⟩ ⟨k, hk25⟩
    simp only [Fin.mk.injEq] at this
    rw [hm, hn]
    constructor
    · intro h
      have h' : turns.getD i 0 = turns.getD k 0 := by omega
      rw [this] at h'
      omega
    · intro h
      have h' : i = k := by omega
      rw [h']
  have HM : Hid (m < 64) := by
    show m < 64
    have := turn_lt (i % 5) (i / 5)
    unfold KecM.turn at this
    rw [show i % 5 % 5 + 5 * (i / 5 % 5) = i by omega, ← hm] at this
    exact this
  have SH : Hid (∀ wx, Below w.heap.size w wx → Calls Tryd.prog 11 #[] wx (RetYes wx)) := fun wx hwx => shown_any (K.later hwx)
  clear hm hn hi hk hi25 hk25 ti K w0 w1
  go_enter Tryd.func9, Tryd.ntmps9
  go_wp2_with (fail)
  refine (CI.out _ (Below.refl _ _)).mono ?_
  rintro e w1 ⟨rfl, h1⟩
  have W1 := Lib.hid h1
  clear h1
  go_wp2_with (fail)
  refine (CK.out _ W1.out).mono ?_
  rintro e w2 ⟨rfl, h2⟩
  have W2 := Lib.hid (W1.out.trans (h2.mono W1.out.size))
  clear h2
  go_wp2_with (fail)
  refine (SH.out _ W2.out).mono ?_
  rintro e w3 ⟨rfl, h3⟩
  have W3 := Lib.hid (W2.out.trans (h3.mono W2.out.size))
  clear h3
  have hsame : ((m : Int) == (n : Int)) = ((x : Int) % 25 == (y : Int) % 25) := by
    rw [Bool.eq_iff_iff, beq_iff_eq, beq_iff_eq]
    exact HE.out
  have hlt : (m : Int) < 64 := by have := HM.out; omega
  go_wp2_with (fail)
  all_goals first
    | exact absurd hsame (by assumption)
    | (go_ret; exact ⟨rfl, W3.out⟩)

end Kec
end Go.Proofs.YtjegjegofnehoaaDoor
