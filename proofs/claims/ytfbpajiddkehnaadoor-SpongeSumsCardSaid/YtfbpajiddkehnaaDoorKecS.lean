/- Contracts of the landed package's smaller functions: places, turns, words turned, steps, marks. -/
import Derived.Test.YtfbpajiddkehnaaDoorKecD
import Derived.Test.YtfbpajiddkehnaaDoorKecL
namespace Go.Proofs.YtfbpajiddkehnaaDoor
open Go.RowKit Go.Own
namespace Kec
open Go.KecM

/-- the table is there -/
def Tab (w : World) : Prop := ∀ i : Nat, i < 25 → w.cell? ⟨0, i, none⟩ = some (.int .i64 ((turns.getD i 0 : Nat) : Int))
theorem Tab.later {w w' : World} (h : Tab w) (g : Below w.heap.size w w') : Tab w' := fun i hi => cell_later (h i hi) g

theorem atK_nat (x y i : Nat) (hx : x ≤ 1000) (hy : y ≤ 1000) (hi : i = x % 5 + 5 * (y % 5)) (w : World) : Calls Tryd.prog 33 #[.int .i64 x, .int .i64 y] w fun e w' => e = .returned (.int .i64 i) ∧ w = w' := by
  have HI : Hid ((x : Int) % 5 + (y : Int) % 5 * 5 = (i : Int)) := by
    show (x : Int) % 5 + (y : Int) % 5 * 5 = (i : Int)
    omega
  clear hi
  go_enter Tryd.func33, Tryd.ntmps33
  go_wp2
  go_ret
  exact ⟨by rw [← HI.out]; rfl, rfl⟩

theorem u64_and63 (n : Nat) (hn : n < 64) : bits .and .u64 (n : Int) 63 = (n : Int) := by
  have h := u64_and_nat n 63 (by omega) (by omega)
  rw [show n &&& 63 = n % 64 from Nat.and_two_pow_sub_one_eq_mod n 6, Nat.mod_eq_of_lt hn] at h
  exact h

theorem rotK_any (x : W) (n : Nat) (hn : n < 64) (w : World) : Calls Tryd.prog 32 #[.int .u64 x.toNat, .int .i64 n] w fun e w' => e = .returned (.int .u64 (rot x n).toNat) ∧ w = w' := by
  have h := turn_eq x n hn
  obtain ⟨y, hy⟩ : ∃ y, y = rot x n := ⟨_, rfl⟩
  rw [← hy] at h ⊢
  have A63 := u64_and63 n hn
  clear hy
  go_enter Tryd.func32, Tryd.ntmps32
  go_wp2
  go_ret
  exact ⟨rfl, rfl⟩

theorem stepK_any (r : Nat) (hr : r < 256) (w : World) : Calls Tryd.prog 34 #[.int .u64 r] w fun e w' => e = .returned (.int .u64 ((lf r : Nat) : Int)) ∧ w = w' := by
  by_cases h256 : 2 * r ≥ 256
  · have hx := u64_xor_nat (2 * r) 369 (by omega) (by omega)
    have hgo : decide ((256 : Int) ≤ (r : Int) * 2) = true := by simp; omega
    have HX : Hid (bits .xor .u64 ((r : Int) * 2) 369 = ((lf r : Nat) : Int)) := by
      show bits .xor .u64 ((r : Int) * 2) 369 = ((lf r : Nat) : Int)
      rw [show (r : Int) * 2 = ((2 * r : Nat) : Int) by omega]
      refine hx.trans ?_
      unfold lf
      rw [if_pos h256]
    clear hx
    go_enter Tryd.func34, Tryd.ntmps34
    go_wp2
    go_ret
    exact ⟨by rw [HX.out]; rfl, rfl⟩
  · have hgo : decide ((256 : Int) ≤ (r : Int) * 2) = false := by simp; omega
    have HX : Hid ((r : Int) * 2 = ((lf r : Nat) : Int)) := by
      show (r : Int) * 2 = ((lf r : Nat) : Int)
      unfold lf
      rw [if_neg h256]; omega
    go_enter Tryd.func34, Tryd.ntmps34
    go_wp2
    go_ret
    exact ⟨by rw [HX.out]; rfl, rfl⟩

theorem lfs_255 : lfs 255 = 1 := by decide +kernel
theorem lfs_per (t : Nat) : lfs (t + 255) = lfs t := by
  induction t with
  | zero => exact lfs_255
  | succ t ih =>
    rw [show t + 1 + 255 = t + 255 + 1 by omega]
    show lf (lfs (t + 255)) = lf (lfs t)
    rw [ih]
theorem lfs_mod (t : Nat) : lfs (t % 255) = lfs t := by
  have h : ∀ q r, lfs (r + 255 * q) = lfs r := by
    intro q r
    induction q with
    | zero => rfl
    | succ q ih => rw [show r + 255 * (q + 1) = r + 255 * q + 255 by omega, lfs_per, ih]
  have := h (t / 255) (t % 255)
  rw [Nat.mod_add_div] at this
  exact this.symm
theorem cbit_mod (t : Nat) : cbit (t % 255) = lfs t % 2 := by unfold cbit; rw [lfs_mod]
theorem or_add (m z e : Nat) (hm : m < 2 ^ e) : m ||| z * 2 ^ e = m + z * 2 ^ e := by
  have h := Nat.two_pow_add_eq_or_of_lt hm z
  rw [Nat.or_comm, Nat.mul_comm z, ← h, Nat.add_comm]

set_option maxHeartbeats 800000 in
theorem markK_any (round : Int) (h0 : -9223372036854775808 ≤ round) (h1 : round ≤ 9223372036854775807) (w : World) : Calls Tryd.prog 30 #[.int .i64 round] w fun e w' => e = .returned (.int .u64 (markOf round).toNat) ∧ w = w' := by
  by_cases hneg : round < 0
  · have hm : markOf round = 0 := by unfold markOf; rw [if_pos hneg]
    rw [hm]
    go_enter Tryd.func30, Tryd.ntmps30
    go_wp2
    go_ret
    exact ⟨rfl, rfl⟩
  · obtain ⟨n, rfl⟩ := Int.eq_ofNat_of_zero_le (show 0 ≤ round by omega)
    obtain ⟨r, hr⟩ : ∃ r, r = n % 255 := ⟨_, rfl⟩
    have hri : (n : Int) % 255 = (r : Int) := by omega
    have hrl : r < 255 := by omega
    obtain ⟨x, hx⟩ : ∃ x, x = (markOf (n : Int)).toNat := ⟨_, rfl⟩
    have hx2 : x = markTo r 7 := by
      rw [hx]; unfold markOf markW
      rw [if_neg hneg, Int.toNat_natCast, BitVec.toNat_ofNat, kmark_to, ← hr]
      exact Nat.mod_eq_of_lt (markTo_7 r)
    rw [← hx]
    have HX := Lib.hid hx2
    clear hx hx2 hr
    go_enter Tryd.func30, Tryd.ntmps30
    go_wp2
    go_loop [3, 11] (fun p i => ∃ k : Nat, k ≤ 7 * r ∧ i = .int .i64 k ∧ p = .int .u64 (lfs k)) (fun _ i => 7 * r - (intOf i).toNat)
    case atStart => exact ⟨0, by omega, rfl, rfl⟩
    case round =>
      obtain ⟨k, hk, rfl, rfl⟩ := hrel
      have hl := lfs_lt k
      obtain ⟨g, hg⟩ : ∃ g, g = lfs k := ⟨_, rfl⟩
      rw [← hg] at hl ⊢
      have HG := Lib.hid hg
      clear hg
      by_cases hkm : (k : Int) < 7 * (r : Int)
      · have C := Lib.hid (stepK_any g hl w)
        go_wp2_with (fail)
        refine C.out.mono ?_
        rintro e w' ⟨rfl, rfl⟩
        go_wp2
        go_round
        case rel => exact ⟨k + 1, by omega, by go_num, by rw [HG.out]; rfl⟩
        case measure => simp [intOf]; omega
      · have HK : Hid (k = 7 * r) := by show k = 7 * r; omega
        clear hk
        go_wp2
        go_loop [3, 4, 16] (fun p m i => ∃ j : Nat, j ≤ 7 ∧ i = .int .i64 j ∧ m = .int .u64 (markTo r j) ∧ p = .int .u64 (lfs (7 * r + j))) (fun _ _ i => 7 - (intOf i).toNat)
        case atStart => exact ⟨0, by omega, rfl, rfl, by rw [HG.out, HK.out]; rfl⟩
        case round =>
          obtain ⟨j, hj, rfl, rfl, rfl⟩ := hrel
          have hl2 := lfs_lt (7 * r + j)
          obtain ⟨q, hq⟩ : ∃ q, q = lfs (7 * r + j) := ⟨_, rfl⟩
          rw [← hq] at hl2 ⊢
          have HQ := Lib.hid hq
          obtain ⟨m, hm⟩ : ∃ m, m = markTo r j := ⟨_, rfl⟩
          rw [← hm]
          have HM := Lib.hid hm
          clear hm hq
          by_cases h7 : (j : Int) < 7
          · obtain ⟨p, hpd⟩ : ∃ p, p = 2 ^ j := ⟨_, rfl⟩
            have hp0 : 1 ≤ p := by rw [hpd]; exact Nat.pow_pos (by decide)
            have hp64 : p ≤ 64 := by rw [hpd]; exact Nat.pow_le_pow_right (show 2 > 0 by decide) (show j ≤ 6 by omega)
            have hpi : (2 : Int) ^ j = (p : Int) := by rw [hpd]; simp
            obtain ⟨e, he⟩ : ∃ e, e = p - 1 := ⟨_, rfl⟩
            have hpe : (p : Int) - 1 = (e : Int) := by omega
            have he63 : e ≤ 63 := by omega
            have HE : Hid (e = 2 ^ j - 1) := by show e = 2 ^ j - 1; rw [he, hpd]
            obtain ⟨z, hz⟩ : ∃ z, z = q % 2 := ⟨_, rfl⟩
            have HZ : Hid (z = cbit ((j + 7 * r) % 255)) := by
              show z = cbit ((j + 7 * r) % 255)
              rw [cbit_mod, Nat.add_comm, ← HQ.out, hz]
            have HA : Hid (bits .and .u64 (q : Int) 1 = (z : Int)) := by
              show bits .and .u64 (q : Int) 1 = (z : Int)
              have h := u64_and_nat q 1 (by omega) (by omega)
              rw [Nat.and_one_is_mod, ← hz] at h
              exact h
            have HS : Hid (bits .or .u64 (m : Int) (IntKind.u64.wrap ((z : Int) * 2 ^ e)) = (markTo r (j + 1) : Int)) := by
              show bits .or .u64 (m : Int) (IntKind.u64.wrap ((z : Int) * 2 ^ e)) = (markTo r (j + 1) : Int)
              have e1 : markTo r (j + 1) = m + z * 2 ^ e := by
                show markTo r j + cbit ((j + 7 * r) % 255) * 2 ^ (2 ^ j - 1) = _
                rw [← HM.out, ← HZ.out, ← HE.out]
              have h2 := markTo_64 r (j + 1) (by omega)
              have h3 := markTo_lt r j (by omega)
              rw [← HM.out, ← HE.out] at h3
              have h4 := or_add m z e h3
              rw [e1] at h2 ⊢
              have c1 : (z : Int) * 2 ^ e = ((z * 2 ^ e : Nat) : Int) := by simp
              rw [c1]
              generalize z * 2 ^ e = y at h2 h4 ⊢
              rw [IntWalk.u64_in (y : Int) (by omega), u64_or_nat _ _ (by omega) (by omega), h4]
            have C := Lib.hid (stepK_any q hl2 w)
            clear hz he hpd
            go_wp2_with (fail)
            refine C.out.mono ?_
            rintro e w' ⟨rfl, rfl⟩
            go_wp2
            go_round
            case rel => exact ⟨j + 1, by omega, by go_num, by rw [HA.out, HS.out], by rw [HQ.out]; rfl⟩
            case measure => simp [intOf]; omega
          · go_wp2
            go_ret
            exact ⟨by rw [HX.out, HM.out, show j = 7 by omega]; rfl, rfl⟩

end Kec
end Go.Proofs.YtfbpajiddkehnaaDoor
