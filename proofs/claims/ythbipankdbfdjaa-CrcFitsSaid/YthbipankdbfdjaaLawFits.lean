/- CrcFits: the walk. -/
import Derived.Test.YthbipankdbfdjaaLaw2
namespace Go.Proofs.Ythbipankdbfdjaa
open Go.RowKit Go.Own
namespace Crc
open Go.CrcM Cod

theorem top_bit (x : R) : x.getLsbD 31 = decide (x.toNat / 2147483648 = 1) := by
  have h := x.isLt
  rw [BitVec.getLsbD, Nat.testBit_eq_decide_div_mod_eq]
  apply decide_eq_decide.2
  omega
theorem dbl (x : R) : (x <<< 1).toNat = x.toNat * 2 % 4294967296 := by
  rw [BitVec.toNat_shiftLeft, Nat.shiftLeft_eq]
theorem tock_no (x : R) (h : ¬ x.toNat / 2147483648 = 1) : (tock x).toNat = x.toNat * 2 % 4294967296 := by
  unfold tock; rw [top_bit]; simp only [h, decide_false, Bool.false_eq_true, if_false]; exact dbl x
theorem tock_yes (x : R) (h : x.toNat / 2147483648 = 1) : bits .xor .u32 ((x.toNat : Int) * 2 % 4294967296) 3681617473 = ((tock x).toNat : Int) := by
  have e := u32_xor_nat (x.toNat * 2 % 4294967296) 3681617473 (by omega) (by omega)
  have e2 : (((x.toNat * 2 % 4294967296 : Nat) : Int)) = (x.toNat : Int) * 2 % 4294967296 := by omega
  rw [e2] at e
  refine e.trans ?_
  unfold tock
  rw [top_bit]
  simp only [h, decide_true, if_true, BitVec.toNat_xor, dbl]
  rfl

set_option maxHeartbeats 800000 in
theorem walk_fits (a0 : Int) (w0 : (Lit.int .u32 a0).wf = true) (a1 : Int) (w1 : (Lit.int .u32 a1).wf = true) (w : World) :
    Calls Try.prog 9 #[.int .u32 a0, .int .u32 a1] w (RetTrue w) := by
  obtain ⟨s, rfl⟩ := reg_of w0
  obtain ⟨t, rfl⟩ := reg_of w1
  clear w0 w1
  have hnt := not_eq t
  obtain ⟨nt, hntd⟩ : ∃ nt, nt = ~~~ t := ⟨_, rfl⟩
  rw [← hntd] at hnt
  have HNT := Lib.hid hntd
  clear hntd
  go_enter Try.func9, Try.ntmps9
  go_wp2_with (fail)
  refine (shown_any w).mono ?_
  rintro e wa ⟨rfl, hb⟩
  have HB := Lib.hid hb
  clear hb
  go_wp2_with (fail)
  clear hnt
  go_loop [6, 12] (fun x i => ∃ k : Nat, k ≤ 32 ∧ i = .int .i64 k ∧ x = .int .u32 (tocks k nt).toNat) (fun _ i => 32 - (intOf i).toNat)
  case atStart => exact ⟨0, by omega, rfl, rfl⟩
  case round =>
    obtain ⟨k, hk, rfl, rfl⟩ := hrel
    obtain ⟨x, hx⟩ : ∃ x, x = tocks k nt := ⟨_, rfl⟩
    rw [← hx]
    have HX := Lib.hid hx
    clear hx
    have hlt : x.toNat < 4294967296 := x.isLt
    by_cases h8 : (k : Int) < 32
    · by_cases h1 : x.toNat / 2147483648 = 1
      · have hand : ((x.toNat : Int) / 2147483648 == 1) = true := by rw [show (x.toNat : Int) / 2147483648 = 1 by omega]; rfl
        have HY := Lib.hid (tock_yes x h1)
        clear h1
        go_wp2
        go_round
        case rel => exact ⟨k + 1, by omega, by go_num, by rw [HY.out, HX.out]; rfl⟩
        case measure => simp [intOf]; omega
      · have hand : ((x.toNat : Int) / 2147483648 == 1) = false := by rw [show (x.toNat : Int) / 2147483648 = 0 by omega]; rfl
        have HY := Lib.hid (tock_no x h1)
        clear h1
        go_wp2
        go_round
        case rel => exact ⟨k + 1, by omega, by go_num, by rw [show (x.toNat : Int) * 2 % 4294967296 = ((x.toNat * 2 % 4294967296 : Nat) : Int) by omega, ← HY.out, HX.out]; rfl⟩
        case measure => simp [intOf]; omega
    · have hk8 : k = 32 := by omega
      have HK := Lib.hid hk8
      clear hk8
      have hns := not_eq s
      obtain ⟨ns, hnsd⟩ : ∃ ns, ns = ~~~ s := ⟨_, rfl⟩
      rw [← hnsd] at hns
      have hz := u32_xor_nat x.toNat ns.toNat x.isLt ns.isLt
      rw [← BitVec.toNat_xor] at hz
      obtain ⟨z, hzd⟩ : ∃ z, z = x ^^^ ns := ⟨_, rfl⟩
      rw [← hzd] at hz
      have hzlt : z.toNat < 4294967296 := z.isLt
      have HZ : Hid (msum s (le4 z) = t) := by
        show msum s (le4 z) = t
        rw [hzd, hnsd, HX.out, HK.out, HNT.out]
        exact msum_fits s t
      obtain ⟨c0, c1, c2, c3, hc, k0, k1, k2, k3⟩ : ∃ c0 c1 c2 c3 : UInt8, le4 z = [c0, c1, c2, c3] ∧ (z.toNat : Int) % 256 = (c0.toNat : Int) ∧ (z.toNat : Int) / 256 % 256 = (c1.toNat : Int) ∧ (z.toNat : Int) / 65536 % 256 = (c2.toNat : Int) ∧ (z.toNat : Int) / 16777216 = (c3.toNat : Int) :=
        ⟨_, _, _, _, rfl, by simp, by simp, by simp, by simp; omega⟩
      have HC := Lib.hid hc
      clear hnsd hzd hc
      go_wp2_with (fail)
      have hm := more_any _ s _ [c0, c1, c2, c3] 4 _ (view_new wa [c0, c1, c2, c3] 5 (0, 0)) (by simp)
      rw [← HC.out, HZ.out, HC.out] at hm
      refine hm.mono ?_
      clear hm
      rintro e wb ⟨rfl, hwb⟩
      have HBb : Hid (Below w.heap.size w wb) := by show Below w.heap.size w wb; rw [← hwb]; exact HB.out.alloc HB.out.size _
      clear hwb
      go_wp2_with (fail)
      go_ret
      exact ⟨rfl, HBb.out⟩

end Crc
end Go.Proofs.Ythbipankdbfdjaa
