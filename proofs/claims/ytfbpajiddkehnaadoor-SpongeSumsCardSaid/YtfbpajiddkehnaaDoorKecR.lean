/- Contracts of the document's own answer for layer 3: places, turns, marks. -/
import Derived.Test.YtfbpajiddkehnaaDoorRows
import Derived.Test.YtfbpajiddkehnaaDoorKecM
import Derived.Test.YtfbpajiddkehnaaDoorLax
import Derived.Test.YtfbpajiddkehnaaDoorArr
import Derived.Test.YtfbpajiddkehnaaDoorArrEq
import Derived.WalkKit
import Derived.Deep.QuietTactic
import Derived.BigQuiet
import Derived.Lib.Hide
import Derived.Laws.BitsAllLaws
import Derived.WalkLawsBesides
namespace Go.Proofs.YtfbpajiddkehnaaDoor
open Go.RowKit Go.Own
namespace Kec
open Go.KecM

theorem five_eq (n : Int) : (n.tmod 5 + 5) % 5 = n % 5 := by
  have h := Int.tmod_add_mul_tdiv n 5
  omega
theorem tmod5_lo (n : Int) : -5 < n.tmod 5 ∧ n.tmod 5 < 5 := by
  rcases Int.le_total 0 n with h | h
  · have := Int.tmod_nonneg 5 h; have := Int.tmod_lt_of_pos n (show (0 : Int) < 5 by decide); omega
  · have h2 := Int.tmod_nonneg 5 (show 0 ≤ -n by omega)
    have h3 := Int.tmod_lt_of_pos (-n) (show (0 : Int) < 5 by decide)
    rw [Int.neg_tmod] at h2 h3
    omega

theorem five_any (n : Int) (w : World) : Calls Tryd.prog 22 #[.int .i64 n] w fun e w' => e = .returned (.int .i64 (n % 5)) ∧ w = w' := by
  have h := tmod5_lo n
  obtain ⟨m, hm⟩ : ∃ m, m = n.tmod 5 := ⟨_, rfl⟩
  have e := five_eq n
  rw [← hm] at h e
  have HM := Lib.hid hm
  have hm' : n.tmod 5 = m := hm.symm
  have HE := Lib.hid e
  clear e hm
  go_enter Tryd.func22, Tryd.ntmps22
  go_wp2
  go_ret
  exact ⟨by rw [HE.out]; rfl, rfl⟩

theorem at_any (x y : Int) (w : World) : Calls Tryd.prog 21 #[.int .i64 x, .int .i64 y] w fun e w' => e = .returned (.int .i64 (x % 5 + 5 * (y % 5))) ∧ w = w' := by
  obtain ⟨a, ha⟩ : ∃ a, a = x % 5 := ⟨_, rfl⟩
  obtain ⟨b, hb⟩ : ∃ b, b = y % 5 := ⟨_, rfl⟩
  have h1 : 0 ≤ a ∧ a < 5 := by omega
  have h2 : 0 ≤ b ∧ b < 5 := by omega
  have c1 := five_any x w
  have c2 := five_any y w
  rw [← ha] at c1 ⊢
  rw [← hb] at c2 ⊢
  clear ha hb
  go_enter Tryd.func21, Tryd.ntmps21
  go_wp2_with (fail)
  refine c1.mono ?_
  rintro e w' ⟨rfl, rfl⟩
  go_wp2_with (fail)
  refine c2.mono ?_
  rintro e w' ⟨rfl, rfl⟩
  go_wp2_with (fail)
  go_ret
  exact ⟨rfl, rfl⟩

/-- the other places, one behind the other -/
def trail : Nat → Nat × Nat
  | 0 => (1, 0)
  | t + 1 => ((trail t).2, (2 * (trail t).1 + 3 * (trail t).2) % 5)
theorem trail_lt (t : Nat) : (trail t).1 < 5 ∧ (trail t).2 < 5 := by
  induction t with
  | zero => simp [trail]
  | succ t ih => exact ⟨ih.2, Nat.mod_lt _ (by decide)⟩
theorem trail_turn : ∀ t : Fin 24, turns.getD ((trail t.val).1 + 5 * (trail t.val).2) 0 = (t.val + 1) * (t.val + 2) / 2 % 64 := by decide
theorem trail_all : ∀ x y : Fin 5, (x.val = 0 ∧ y.val = 0) ∨ ∃ t : Fin 24, trail t.val = (x.val, y.val) := by decide

set_option maxHeartbeats 800000 in
theorem turnOf_any (x y : Int) (w : World) : Calls Tryd.prog 24 #[.int .i64 x, .int .i64 y] w fun e w' => e = .returned (.int .i64 ((turn (x % 5).toNat (y % 5).toNat : Nat) : Int)) ∧ w = w' := by
  obtain ⟨a, ha⟩ : ∃ a : Nat, x % 5 = (a : Int) := ⟨(x % 5).toNat, by omega⟩
  obtain ⟨b, hb⟩ : ∃ b : Nat, y % 5 = (b : Int) := ⟨(y % 5).toNat, by omega⟩
  have h1 : a < 5 := by omega
  have h2 : b < 5 := by omega
  have c1 := five_any x w
  have c2 := five_any y w
  rw [ha] at c1 ⊢
  rw [hb] at c2 ⊢
  have ht : turn (a : Int).toNat (b : Int).toNat = turns.getD (a + 5 * b) 0 := by
    unfold turn; rw [Int.toNat_natCast, Int.toNat_natCast, Nat.mod_eq_of_lt h1, Nat.mod_eq_of_lt h2]
  rw [ht]
  obtain ⟨v, hv⟩ : ∃ v, v = turns.getD (a + 5 * b) 0 := ⟨_, rfl⟩
  rw [← hv]
  have HVV := Lib.hid hv
  have C1 := Lib.hid c1
  have C2 := Lib.hid c2
  clear ha hb ht c1 c2 hv
  go_enter Tryd.func24, Tryd.ntmps24
  go_wp2
  go_loop [5, 6, 7] (fun p q i => ∃ t : Nat, t ≤ 24 ∧ i = .int .i64 t ∧ p = .int .i64 (trail t).1 ∧ q = .int .i64 (trail t).2 ∧ ∀ s, s < t → trail s ≠ (a, b)) (fun _ _ i => 24 - (intOf i).toNat)
  case atStart => exact ⟨0, by omega, rfl, rfl, rfl, fun s h => by omega⟩
  case round =>
    obtain ⟨t, hk, rfl, rfl, rfl, hno⟩ := hrel
    have HNO := Lib.hid hno
    have htl := trail_lt t
    obtain ⟨p, hp⟩ : ∃ p, p = (trail t).1 := ⟨_, rfl⟩
    obtain ⟨q, hq⟩ : ∃ q, q = (trail t).2 := ⟨_, rfl⟩
    rw [← hp, ← hq] at htl
    rw [← hp, ← hq]
    have HP := Lib.hid hp
    have HQ := Lib.hid hq
    clear hp hq hno
    by_cases h24 : (t : Int) < 24
    · have hnext : ((2 * (p : Int) + 3 * (q : Int)) % 5) = (((2 * p + 3 * q) % 5 : Nat) : Int) := by omega
      have c3 := five_any (2 * (p : Int) + 3 * (q : Int)) w
      rw [hnext] at c3
      obtain ⟨r, hr⟩ : ∃ r, r = (2 * p + 3 * q) % 5 := ⟨_, rfl⟩
      rw [← hr] at c3
      have HR := Lib.hid hr
      have C3 := Lib.hid c3
      clear hnext c3 hr
      obtain ⟨m2, hm2⟩ : ∃ m2, m2 = (t + 1) * (t + 2) := ⟨_, rfl⟩
      have hmi : ((t : Int) + 1) * ((t : Int) + 2) = (m2 : Int) := by rw [hm2]; simp
      have hml : m2 ≤ 650 := by
        rw [hm2]
        exact Nat.le_trans (Nat.mul_le_mul (show t + 1 ≤ 25 by omega) (show t + 2 ≤ 26 by omega)) (by decide)
      have HM2 := Lib.hid hm2
      clear hm2
      by_cases e1 : p = a
      · have g1 : ((p : Int) == (a : Int)) = true := by rw [e1]; simp
        by_cases e2 : q = b
        · have g2 : ((q : Int) == (b : Int)) = true := by rw [e2]; simp
          have HT : Hid (v = m2 / 2 % 64) := by
            show v = m2 / 2 % 64
            rw [HVV.out]
            have := trail_turn ⟨t, by omega⟩
            simp only at this
            rw [← HP.out, ← HQ.out, e1, e2] at this
            rw [this, HM2.out]
          clear e1 e2
          go_wp2_with (fail)
          refine C1.out.mono ?_
          rintro e w' ⟨rfl, rfl⟩
          go_wp2_with (fail)
          refine C2.out.mono ?_
          rintro e w' ⟨rfl, rfl⟩
          go_wp2_with (fail)
          go_ret
          exact ⟨by rw [HT.out]; simp, rfl⟩
        · have g2 : ((q : Int) == (b : Int)) = false := by simp; omega
          have HNE : Hid (trail t ≠ (a, b)) := fun h => e2 (by rw [HQ.out, h])
          clear e1 e2
          go_wp2_with (fail)
          refine C1.out.mono ?_
          rintro e w' ⟨rfl, rfl⟩
          go_wp2_with (fail)
          refine C2.out.mono ?_
          rintro e w' ⟨rfl, rfl⟩
          go_wp2_with (fail)
          refine C3.out.mono ?_
          rintro e w' ⟨rfl, rfl⟩
          go_wp2
          go_round
          case rel => exact ⟨t + 1, by omega, by go_num, by rw [HQ.out]; rfl, by rw [HR.out, HP.out, HQ.out]; rfl, fun s hs => by
            by_cases h : s = t
            · rw [h]; exact HNE.out
            · exact HNO.out s (by omega)⟩
          case measure => simp [intOf]; omega
      · have g1 : ((p : Int) == (a : Int)) = false := by simp; omega
        have HNE : Hid (trail t ≠ (a, b)) := fun h => e1 (by rw [HP.out, h])
        clear e1
        go_wp2_with (fail)
        refine C1.out.mono ?_
        rintro e w' ⟨rfl, rfl⟩
        go_wp2_with (fail)
        refine C3.out.mono ?_
        rintro e w' ⟨rfl, rfl⟩
        go_wp2
        go_round
        case rel => exact ⟨t + 1, by omega, by go_num, by rw [HQ.out]; rfl, by rw [HR.out, HP.out, HQ.out]; rfl, fun s hs => by
          by_cases h : s = t
          · rw [h]; exact HNE.out
          · exact HNO.out s (by omega)⟩
        case measure => simp [intOf]; omega
    · have HT : Hid (v = 0) := by
        show v = 0
        rw [HVV.out]
        rcases trail_all ⟨a, h1⟩ ⟨b, h2⟩ with ⟨rfl, rfl⟩ | ⟨s, hs⟩
        · rfl
        · exact absurd hs (HNO.out s.val (by have := s.isLt; omega))
      go_wp2
      go_ret
      exact ⟨by rw [HT.out]; rfl, rfl⟩

/-- a number of 64 bits -/
def u64V (w : W) : Value := .int .u64 (w.toNat : Int)

theorem lf_lt : ∀ r : Fin 256, lf r.val < 256 := by decide +kernel
theorem lfs_lt (t : Nat) : lfs t < 256 := by
  induction t with
  | zero => decide
  | succ t ih => exact lf_lt ⟨lfs t, ih⟩

set_option maxHeartbeats 400000 in
theorem bitOf_any (t : Nat) (ht : t ≤ 10000) (w : World) : Calls Tryd.prog 31 #[.int .i64 t] w fun e w' => e = .returned (.int .u64 ((cbit (t % 255) : Nat) : Int)) ∧ w = w' := by
  obtain ⟨m, hm⟩ : ∃ m, m = t % 255 := ⟨_, rfl⟩
  have hmi : (t : Int) % 255 = (m : Int) := by omega
  have hml : m < 255 := by omega
  rw [← hm]
  clear hm
  go_enter Tryd.func31, Tryd.ntmps31
  go_wp2
  go_loop [3, 4] (fun r i => ∃ k : Nat, k ≤ m ∧ i = .int .i64 k ∧ r = .int .u64 (lfs k)) (fun _ i => m - (intOf i).toNat)
  case atStart => exact ⟨0, by omega, rfl, rfl⟩
  case round =>
    obtain ⟨k, hk, rfl, rfl⟩ := hrel
    have hl := lfs_lt k
    obtain ⟨r, hr⟩ : ∃ r, r = lfs k := ⟨_, rfl⟩
    rw [← hr] at hl ⊢
    have HR := Lib.hid hr
    clear hr
    by_cases hkm : k < m
    · by_cases h256 : 2 * r ≥ 256
      · have hx := u64_xor_nat (2 * r) 369 (by omega) (by omega)
        have hgo : decide ((256 : Int) ≤ (r : Int) * 2) = true := by simp; omega
        have HX : Hid (bits .xor .u64 ((r : Int) * 2) 369 = (lfs (k + 1) : Int)) := by
          show bits .xor .u64 ((r : Int) * 2) 369 = (lfs (k + 1) : Int)
          rw [show (r : Int) * 2 = ((2 * r : Nat) : Int) by omega]
          refine hx.trans ?_
          show _ = ((lf (lfs k) : Nat) : Int)
          rw [← HR.out]
          unfold lf
          rw [if_pos h256]
        clear hx
        go_wp2
        go_round
        case rel => exact ⟨k + 1, by omega, by go_num, by rw [HX.out]⟩
        case measure => simp [intOf]; omega
      · have hgo : decide ((256 : Int) ≤ (r : Int) * 2) = false := by simp; omega
        have HX : Hid ((r : Int) * 2 = (lfs (k + 1) : Int)) := by
          show (r : Int) * 2 = ((lf (lfs k) : Nat) : Int)
          rw [← HR.out]
          unfold lf
          rw [if_neg h256]; omega
        go_wp2
        go_round
        case rel => exact ⟨k + 1, by omega, by go_num, by rw [HX.out]⟩
        case measure => simp [intOf]; omega
    · have HM : Hid (cbit m = r % 2) := by
        show cbit m = r % 2
        unfold cbit
        rw [HR.out, show k = m by omega]
      go_wp2
      go_ret
      exact ⟨by rw [HM.out]; simp, rfl⟩

theorem wrap_u64' (n : Int) : IntKind.u64.wrap n = n % 18446744073709551616 := by simp [IntKind.wrap, IntKind.bits, IntKind.signed]
theorem turn_eq (w : W) (n : Nat) (hn : n < 64) : bits .or .u64 (IntKind.u64.wrap ((w.toNat : Int) * 2 ^ n)) ((w.toNat : Int) / 2 ^ (64 - n)) = ((rot w n).toNat : Int) := by
  have hw := w.isLt
  have h1 : w.toNat * 2 ^ n % 18446744073709551616 < 18446744073709551616 := Nat.mod_lt _ (by decide)
  have h2 : w.toNat / 2 ^ (64 - n) < 18446744073709551616 := Nat.lt_of_le_of_lt (Nat.div_le_self _ _) hw
  have e := u64_or_nat _ _ h1 h2
  have e1 : ((w.toNat * 2 ^ n % 18446744073709551616 : Nat) : Int) = (w.toNat : Int) * 2 ^ n % 18446744073709551616 := by simp
  have e2 : ((w.toNat / 2 ^ (64 - n) : Nat) : Int) = (w.toNat : Int) / 2 ^ (64 - n) := by simp
  rw [e1, e2] at e
  rw [wrap_u64', e]
  unfold rot
  rw [BitVec.toNat_or, BitVec.toNat_shiftLeft, BitVec.toNat_ushiftRight, Nat.shiftLeft_eq, Nat.shiftRight_eq_div_pow]

theorem turnW_any (x : W) (n : Nat) (hn : n < 64) (w : World) : Calls Tryd.prog 23 #[.int .u64 x.toNat, .int .i64 n] w fun e w' => e = .returned (.int .u64 (rot x n).toNat) ∧ ∃ m, w' = w.drewN m := by
  have h := turn_eq x n hn
  obtain ⟨y, hy⟩ : ∃ y, y = rot x n := ⟨_, rfl⟩
  rw [← hy] at h ⊢
  clear hy
  go_enter Tryd.func23, Tryd.ntmps23
  go_wp2
  go_quiet (fail)
  go_wp2
  go_ret
  exact ⟨rfl, nq, rfl⟩

/-- the constant of a round, in parts -/
def markTo (r : Nat) : Nat → Nat
  | 0 => 0
  | j + 1 => markTo r j + cbit ((j + 7 * r) % 255) * 2 ^ (2 ^ j - 1)
theorem sum_to (r n : Nat) : ((List.range n).map fun j => cbit ((j + 7 * r) % 255) * 2 ^ (2 ^ j - 1)).sum = markTo r n := by
  induction n with
  | zero => rfl
  | succ n ih => rw [List.range_succ, List.map_append, List.sum_append, ih]; simp [markTo]
theorem kmark_to (round : Nat) : kmark round = markTo (round % 255) 7 := sum_to _ 7
theorem cbit_le (t : Nat) : cbit t ≤ 1 := by unfold cbit; omega
theorem markTo_lt (r j : Nat) (hj : j ≤ 7) : markTo r j < 2 ^ (2 ^ j - 1) := by
  induction j with
  | zero => simp [markTo]
  | succ j ih =>
    have h1 := ih (by omega)
    have h2 := cbit_le ((j + 7 * r) % 255)
    have h3 : cbit ((j + 7 * r) % 255) * 2 ^ (2 ^ j - 1) ≤ 2 ^ (2 ^ j - 1) := by
      have := Nat.mul_le_mul_right (2 ^ (2 ^ j - 1)) h2
      simpa using this
    have h4 : 2 ^ (2 ^ j - 1) + 2 ^ (2 ^ j - 1) ≤ 2 ^ (2 ^ (j + 1) - 1) := by
      have hp : 0 < 2 ^ j := Nat.pow_pos (by decide)
      rw [← Nat.two_mul, ← Nat.pow_succ']
      exact Nat.pow_le_pow_right (by decide) (by rw [Nat.pow_succ]; omega)
    simp only [markTo]
    omega
theorem markTo_7 (r : Nat) : markTo r 7 < 18446744073709551616 := by
  have h := markTo_lt r 6 (by omega)
  have h2 := cbit_le ((6 + 7 * r) % 255)
  have e : markTo r 7 = markTo r 6 + cbit ((6 + 7 * r) % 255) * 2 ^ (2 ^ 6 - 1) := rfl
  rw [e]
  have h3 : cbit ((6 + 7 * r) % 255) * 2 ^ (2 ^ 6 - 1) ≤ 1 * 2 ^ (2 ^ 6 - 1) := Nat.mul_le_mul_right _ h2
  have h4 : (2 : Nat) ^ (2 ^ 6 - 1) = 9223372036854775808 := by decide
  rw [h4] at h h3 ⊢
  omega
theorem markTo_64 (r j : Nat) (hj : j ≤ 7) : markTo r j < 18446744073709551616 := by
  by_cases h : j = 7
  · rw [h]; exact markTo_7 r
  · have h1 := markTo_lt r j hj
    have h2 : 2 ^ (2 ^ j - 1) ≤ 2 ^ (2 ^ 6 - 1) := Nat.pow_le_pow_right (by decide) (by
      have := Nat.pow_le_pow_right (show 2 > 0 by decide) (show j ≤ 6 by omega)
      omega)
    have h3 : (2 : Nat) ^ (2 ^ 6 - 1) = 9223372036854775808 := by decide
    omega
theorem kmark_lt (round : Nat) : kmark round < 18446744073709551616 := by rw [kmark_to]; exact markTo_7 _

def markOf (round : Int) : W := if round < 0 then 0 else markW round.toNat


set_option maxHeartbeats 800000 in
theorem markOf_any (round : Int) (h0 : -9223372036854775808 ≤ round) (h1 : round ≤ 9223372036854775807) (w : World) : Calls Tryd.prog 25 #[.int .i64 round] w fun e w' => e = .returned (.int .u64 (markOf round).toNat) ∧ w = w' := by
  by_cases hneg : round < 0
  · have hm : markOf round = 0 := by unfold markOf; rw [if_pos hneg]
    rw [hm]
    go_enter Tryd.func25, Tryd.ntmps25
    go_wp2
    go_ret
    exact ⟨rfl, rfl⟩
  · obtain ⟨n, rfl⟩ := Int.eq_ofNat_of_zero_le (show 0 ≤ round by omega)
    obtain ⟨r, hr⟩ : ∃ r, r = n % 255 := ⟨_, rfl⟩
    have hri : (n : Int) % 255 = (r : Int) := by omega
    have hrl : r < 255 := by omega
    obtain ⟨x, hx⟩ : ∃ x, x = (markOf (n : Int)).toNat := ⟨_, rfl⟩
    have hx2 : x = markTo r 7 := by
      rw [hx]; unfold markOf markW
      rw [if_neg hneg, Int.toNat_natCast, BitVec.toNat_ofNat, kmark_to, ← hr]
      exact Nat.mod_eq_of_lt (markTo_7 r)
    rw [← hx]
    have HX := Lib.hid hx2
    clear hx hx2 hr
    go_enter Tryd.func25, Tryd.ntmps25
    go_wp2
    go_loop [3, 4] (fun m i => ∃ j : Nat, j ≤ 7 ∧ i = .int .i64 j ∧ m = .int .u64 (markTo r j)) (fun _ i => 7 - (intOf i).toNat)
    case atStart => exact ⟨0, by omega, rfl, rfl⟩
    case round =>
      obtain ⟨j, hj, rfl, rfl⟩ := hrel
      obtain ⟨m, hm⟩ : ∃ m, m = markTo r j := ⟨_, rfl⟩
      rw [← hm]
      have HM := Lib.hid hm
      clear hm
      by_cases h7 : (j : Int) < 7
      · go_wp2
        go_loop [5, 6] (fun p i => ∃ k : Nat, k ≤ j ∧ i = .int .i64 k ∧ p = .int .i64 ((2 ^ k : Nat) : Int)) (fun _ i => j - (intOf i).toNat)
        case atStart => exact ⟨0, by omega, rfl, rfl⟩
        case round =>
          obtain ⟨k, hk, rfl, rfl⟩ := hrel
          have hp : 2 ^ k ≤ 2 ^ 7 := Nat.pow_le_pow_right (by decide) (by omega)
          obtain ⟨p, hpd⟩ : ∃ p, p = 2 ^ k := ⟨_, rfl⟩
          rw [← hpd] at hp ⊢
          have HP := Lib.hid hpd
          clear hpd
          by_cases hkj : k < j
          · go_wp2
            go_round
            case rel => exact ⟨k + 1, by omega, by go_num, by rw [Nat.pow_succ, ← HP.out]; simp⟩
            case measure => simp [intOf]; omega
          · go_wp2_with (fail)
            have c := bitOf_any (j + 7 * r) (by omega) w
            rw [show ((j + 7 * r : Nat) : Int) = (j : Int) + 7 * (r : Int) by omega] at c
            obtain ⟨z, hz⟩ : ∃ z, z = cbit ((j + 7 * r) % 255) := ⟨_, rfl⟩
            have hz1 : z ≤ 1 := by rw [hz]; exact cbit_le _
            rw [← hz] at c
            have HZ := Lib.hid hz
            clear hz
            refine c.mono ?_
            clear c
            rintro e w' ⟨rfl, rfl⟩
            have hp0 : 1 ≤ p := by rw [HP.out]; exact Nat.pow_pos (by decide)
            have hp64 : p ≤ 64 := by rw [HP.out]; exact Nat.pow_le_pow_right (show 2 > 0 by decide) (show k ≤ 6 by omega)
            obtain ⟨e, he⟩ : ∃ e, e = p - 1 := ⟨_, rfl⟩
            have hpe : (p : Int) - 1 = (e : Int) := by omega
            have he63 : e ≤ 63 := by omega
            have HE : Hid (e = 2 ^ j - 1) := by show e = 2 ^ j - 1; rw [he, HP.out, show k = j by omega]
            clear he
            have HS : Hid (IntKind.u64.wrap ((m : Int) + IntKind.u64.wrap ((z : Int) * 2 ^ e)) = (markTo r (j + 1) : Int)) := by
              show IntKind.u64.wrap ((m : Int) + IntKind.u64.wrap ((z : Int) * 2 ^ e)) = (markTo r (j + 1) : Int)
              have e1 : markTo r (j + 1) = m + z * 2 ^ e := by
                show markTo r j + cbit ((j + 7 * r) % 255) * 2 ^ (2 ^ j - 1) = _
                rw [← HM.out, ← HZ.out, ← HE.out]
              have h2 := markTo_64 r (j + 1) (by omega)
              rw [e1] at h2 ⊢
              have c1 : (z : Int) * 2 ^ e = ((z * 2 ^ e : Nat) : Int) := by simp
              rw [c1]
              generalize z * 2 ^ e = y at h2 ⊢
              rw [IntWalk.u64_in (y : Int) (by omega), IntWalk.u64_in _ (by omega)]
              omega
            go_wp2
            go_round
            case rel => exact ⟨j + 1, by omega, by go_num, by rw [HS.out]⟩
            case measure => simp [intOf]; omega
      · go_wp2
        go_ret
        exact ⟨by rw [HX.out, HM.out, show j = 7 by omega]; rfl, rfl⟩

end Kec
end Go.Proofs.YtfbpajiddkehnaaDoor
