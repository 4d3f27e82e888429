/- The landed Common, heads, and what lies within reach. -/
import Derived.Test.YthmnaofmpijbiaaMatJ
import Derived.Test.YthmnaofmpijbiaaMatR
import Derived.BigQuiet
namespace Go.Proofs.Ythmnaofmpijbiaa
open Go.RowKit Go.Own
namespace Mat
open Go.MatM Byt

theorem isPos_any (ao : Option Addr) (len cap : Nat) (i : Int) (v : Bool) (hv : decide (0 ≤ i ∧ i < (len : Int)) = v) (w : World) (hb : len ≤ 1000000000) :
    Calls Try.prog 36 #[.slice ao len cap, .int .i64 i] w fun e w' => e = .returned (.bool v) ∧ w = w' := by
  have HV := Lib.hid hv
  clear hv
  by_cases h0 : 0 ≤ i
  · by_cases h1 : i < (len : Int)
    · go_enter Try.func36, Try.ntmps36
      go_wp2
      go_ret
      exact ⟨by rw [← HV.out]; simp; omega, rfl⟩
    · go_enter Try.func36, Try.ntmps36
      go_wp2
      go_ret
      exact ⟨by rw [← HV.out]; simp; omega, rfl⟩
  · go_enter Try.func36, Try.ntmps36
    go_wp2
    go_ret
    exact ⟨by rw [← HV.out]; simp; omega, rfl⟩

theorem hasHead_any (ao : Option Addr) (len cap : Nat) (i : Int) (v : Bool) (hv : decide (0 ≤ i ∧ i + 3 ≤ (len : Int)) = v) (w : World) (hb : len ≤ 1000000000) (h2 : i ≤ 9223372036854775807) :
    Calls Try.prog 26 #[.slice ao len cap, .int .i64 i] w fun e w' => e = .returned (.bool v) ∧ w = w' := by
  have HV := Lib.hid hv
  clear hv
  by_cases h0 : 0 ≤ i
  · by_cases h1 : i ≤ (len : Int) - 3
    · go_enter Try.func26, Try.ntmps26
      go_wp2
      go_ret
      exact ⟨by rw [← HV.out]; simp; omega, rfl⟩
    · go_enter Try.func26, Try.ntmps26
      go_wp2
      go_ret
      exact ⟨by rw [← HV.out]; simp; omega, rfl⟩
  · go_enter Try.func26, Try.ntmps26
    go_wp2
    go_ret
    exact ⟨by rw [← HV.out]; simp; omega, rfl⟩

theorem cnt_at (b : Bs) (i k f n : Nat) (h : ¬ (i + n < b.length ∧ k + n < b.length ∧ by' b (i + n) = by' b (k + n))) : cnt b i k f n = n := by
  cases f with
  | zero => rfl
  | succ f => unfold cnt; rw [if_neg h]
theorem cnt_on (b : Bs) (i k n : Nat) (hn : n < 130) (h : i + n < b.length ∧ k + n < b.length ∧ by' b (i + n) = by' b (k + n)) : cnt b i k (130 - n) n = cnt b i k (130 - (n + 1)) (n + 1) := by
  rw [show 130 - n = (130 - (n + 1)) + 1 by omega]
  conv => lhs; unfold cnt
  rw [if_pos h]

set_option maxHeartbeats 4000000 in
theorem common_any (ao : Option Addr) (len cap : Nat) (l : Bs) (i k : Int) (w : World) (hV : View w (fun k => k < w.heap.size) ao l) (hn : l.length = len) (hb : len ≤ 1000000) :
    Calls Try.prog 33 #[.slice ao len cap, .int .i64 i, .int .i64 k] w fun e w' => e = .returned (.int .i64 (comI l i k : Nat)) ∧ ∃ q, w' = w.drewN q := by
  have HN := Lib.hid hn
  have HV := Lib.hid hV
  obtain ⟨R, hR⟩ : ∃ r, r = comI l i k := ⟨_, rfl⟩
  rw [← hR]
  clear hn hV
  by_cases hi : 0 ≤ i ∧ i < (len : Int)
  · have P1 := Lib.hid (fun wx => isPos_any ao len cap i true (decide_eq_true hi) wx (by omega))
    by_cases hk : 0 ≤ k ∧ k < (len : Int)
    · have P2 := Lib.hid (fun wx => isPos_any ao len cap k true (decide_eq_true hk) wx (by omega))
      obtain ⟨hi0, hil⟩ := hi
      obtain ⟨hk0, hkl⟩ := hk
      obtain ⟨i, rfl⟩ := Int.eq_ofNat_of_zero_le hi0
      obtain ⟨k, rfl⟩ := Int.eq_ofNat_of_zero_le hk0
      have HR : Hid (R = com l i k) := by show R = com l i k; rw [hR]; unfold comI; rw [if_neg (by have := HN.out; omega)]; rfl
      obtain ⟨b, o, hao, _, _, _⟩ := vat HV.out (k := i) (by rw [HN.out]; omega)
      have HAO := Lib.hid hao
      have HBYTE : Hid (∀ j, j < len → w.cell? ⟨b, o + j, none⟩ = some (.int .u8 ((by' l j).toNat : Int))) := by
        intro j hj
        obtain ⟨b', o', h1, _, _, h2⟩ := vat HV.out (k := j) (by rw [HN.out]; exact hj)
        rw [HAO.out] at h1
        cases h1
        exact h2
      subst hao
      clear hR HAO
      obtain ⟨most, hmost⟩ : ∃ m, m = min (len - max i k) 130 := ⟨_, rfl⟩
      have HM : Hid (most ≤ 130 ∧ (i + most ≤ len ∧ k + most ≤ len) ∧ (most = 130 ∨ i + most = len ∨ k + most = len)) := by
        show _ ∧ _ ∧ _
        refine ⟨?_, ⟨?_, ?_⟩, ?_⟩ <;> omega
      have HMI : Hid (min ((len : Int) - max (i : Int) (k : Int)) 130 = (most : Int)) := by
        show min ((len : Int) - max (i : Int) (k : Int)) 130 = (most : Int)
        omega
      clear hmost
      go_enter Try.func33, Try.ntmps33
      go_wp2_with (first | (refine (P1.out _).mono ?_; clear P1; rintro e w' ⟨rfl, rfl⟩) | (refine (P2.out _).mono ?_; clear P2; rintro e w' ⟨rfl, rfl⟩))
      rw [HMI.out]
      go_loopw [8] (fun v wr => ∃ n : Nat, ∃ q, n ≤ most ∧ v = .int .i64 (n : Int) ∧ wr = w.drewN q ∧ cnt l i k (130 - n) n = R) (fun v _ => 131 - (intOf v).toNat)
      case atStart => exact ⟨0, 0, Nat.zero_le _, rfl, rfl, HR.out.symm⟩
      case round =>
        obtain ⟨n, q, hnm, rfl, rfl, hcnt⟩ := hrel
        have HCNT := Lib.hid hcnt
        clear hcnt
        have hm130 : most ≤ 130 := HM.out.1
        have hml := HM.out.2.1
        by_cases hlt : n < most
        · have c1 := HBYTE.out (i + n) (by omega)
          have c2 := HBYTE.out (k + n) (by omega)
          obtain ⟨x, hx⟩ : ∃ x, x = by' l (i + n) := ⟨_, rfl⟩
          obtain ⟨y, hy⟩ : ∃ y, y = by' l (k + n) := ⟨_, rfl⟩
          rw [← hx] at c1
          rw [← hy] at c2
          have HXY : Hid (x = by' l (i + n) ∧ y = by' l (k + n)) := ⟨hx, hy⟩
          clear hx hy
          have e1 : IntKind.i64.wrap ((i : Int) + (n : Int)) = ((i + n : Nat) : Int) := (IntWalk.i64_in _ (by omega)).trans (by omega)
          have e2 : IntKind.i64.wrap ((k : Int) + (n : Int)) = ((k + n : Nat) : Int) := (IntWalk.i64_in _ (by omega)).trans (by omega)
          have b1 : i + n < len := by omega
          have b2 : k + n < len := by omega
          by_cases hxy : x = y
          · subst hxy
            go_wp2
            go_quiet (fail)
            go_wp2
            go_roundw
            case rel =>
              refine ⟨n + 1, q + nq, by omega, by simp, rfl, ?_⟩
              rw [← HCNT.out]
              exact (cnt_on l i k n (by omega) ⟨by rw [HN.out]; omega, by rw [HN.out]; omega, by rw [← HXY.out.1, ← HXY.out.2]⟩).symm
            case measure => simp [intOf]; omega
          · have hxy' : ¬ (x.toNat : Int) = (y.toNat : Int) := fun h => hxy (UInt8.toNat_inj.1 (by omega))
            have HE : Hid (R = n) := by
              show R = n
              rw [← HCNT.out]
              exact cnt_at l i k _ n (fun h => hxy (by rw [HXY.out.1, HXY.out.2]; exact h.2.2))
            go_wp2
            go_quiet (fail)
            go_wp2
            go_ret
            exact ⟨by rw [HE.out]; rfl, q + nq, by first | rfl | simp⟩
        · have HE : Hid (R = n) := by
            show R = n
            rw [← HCNT.out]
            rcases HM.out.2.2 with h | h | h
            · rw [show 130 - n = 0 by omega]; rfl
            · exact cnt_at l i k _ n (fun g => by have := HN.out; omega)
            · exact cnt_at l i k _ n (fun g => by have := HN.out; omega)
          have hnm' : ¬ (n : Int) < (most : Int) := by omega
          go_wp2
          go_quiet (fail)
          go_wp2
          go_ret
          exact ⟨by rw [HE.out]; rfl, q + nq, by first | rfl | simp⟩
    · have P2 := Lib.hid (fun wx => isPos_any ao len cap k false (decide_eq_false hk) wx (by omega))
      have h0 : R = 0 := by rw [hR]; unfold comI; rw [if_pos (by have := HN.out; omega)]
      subst h0
      clear hR
      go_enter Try.func33, Try.ntmps33
      go_wp2_with (first | (refine (P1.out _).mono ?_; clear P1; rintro e w' ⟨rfl, rfl⟩) | (refine (P2.out _).mono ?_; clear P2; rintro e w' ⟨rfl, rfl⟩))
      go_ret
      exact ⟨rfl, 0, rfl⟩
  · have P1 := Lib.hid (fun wx => isPos_any ao len cap i false (decide_eq_false hi) wx (by omega))
    have h0 : R = 0 := by rw [hR]; unfold comI; rw [if_pos (by have := HN.out; omega)]
    subst h0
    clear hR
    go_enter Try.func33, Try.ntmps33
    go_wp2_with (refine (P1.out _).mono ?_; clear P1; rintro e w' ⟨rfl, rfl⟩)
    go_ret
    exact ⟨rfl, 0, rfl⟩
end Mat
end Go.Proofs.Ythmnaofmpijbiaa
