/- MatchOne, MatchSame: the walks. -/
import Derived.Test.YtcchapoikliieaaLawMatA
namespace Go.Proofs.Ytcchapoikliieaa
open Go.RowKit Go.Own
namespace Mat
open Go.MatM Byt

set_option maxHeartbeats 1600000 in
theorem walk_one (c0 : Int) (wc : (Lit.int .u8 c0).wf = true) (n0 : Int) (wn : (Lit.int .u16 n0).wf = true) (t0 : Int) (wt : (Lit.int .u16 t0).wf = true) {w : World} (K : Kept w) :
    Calls Try.prog 9 #[.int .u8 c0, .int .u16 n0, .int .u16 t0] w (RetYes w) := by
  obtain ⟨c, rfl⟩ := u8_byte wc
  obtain ⟨n1, rfl, hn1⟩ := u16_nat wn
  obtain ⟨t1, rfl, ht1⟩ := u16_nat wt
  have SH := Lib.hid (shown_any K)
  obtain ⟨N, hN⟩ : ∃ N, N = n1 % 601 := ⟨_, rfl⟩
  have hNi : (n1 : Int) % 601 = (N : Int) := by omega
  have hNb : N ≤ 600 := by omega
  have HK := Lib.hid K
  clear hN wc wn wt K
  go_enter Try.func9, Try.ntmps9
  go_wp2_with (fail)
  refine SH.out.mono ?_
  rintro e w1 ⟨rfl, h1⟩
  have B1 := Lib.hid ((Own.St.start w).later h1)
  clear h1
  obtain ⟨w2, hmk, hst⟩ := ab_make B1.out .i64 .i64 N (by omega)
  obtain ⟨g, hg⟩ : ∃ g, g = w1.heap.size := ⟨_, rfl⟩
  rw [← hg] at hmk hst
  have HST := Lib.hid hst
  clear hst hg B1
  go_wp2
  clear hmk
  go_loopw [23] (fun v wr => ∃ k : Nat, k ≤ N ∧ v = .int .i64 (k : Int) ∧ Own.St w.heap.size w wr [AB (some ⟨g, 0, none⟩) N N (ones c N k)]) (fun v _ => N - (intOf v).toNat)
  case atStart => exact ⟨0, Nat.zero_le _, rfl, by rw [ones_zero]; exact HST.out⟩
  case round =>
    obtain ⟨k, hkN, rfl, H⟩ := hrel
    have H := Lib.hid H
    clear HST
    by_cases hk : k < N
    · obtain ⟨g', hg', cb, fb, hput⟩ := ab_byte H.out 0 rfl k hk
      cases hg'
      have PUT : Hid (Own.St w.heap.size w (wr.setCell ⟨g, k, none⟩ (.int .u8 (c.toNat : Int))) [AB (some ⟨g, 0, none⟩) N N (ones c N (k + 1))]) := by
        have h := hput c
        simp only [List.set_cons_zero] at h
        rw [ones_set c N k hk] at h
        exact h
      clear hput
      go_wp2
      go_roundw
      case rel => exact ⟨k + 1, by omega, by go_num, PUT.out⟩
      case measure => simp [intOf]; omega
    · have H2 : Hid (Own.St w.heap.size w wr [AB (some ⟨g, 0, none⟩) N N (List.replicate N c)]) := by
        have h := H.out
        rw [show k = N by omega, ones_all] at h
        exact h
      clear H
      by_cases hN0 : N = 0
      · have hz : ((N : Int) == 0) = true := by simp; omega
        go_wp2
        go_ret
        exact ⟨rfl, H2.out.below⟩
      · have hz : ((N : Int) == 0) = false := by simp; omega
        obtain ⟨p, hp⟩ : ∃ p, p = t1 % N := ⟨_, rfl⟩
        have hpN : p < N := by rw [hp]; exact Nat.mod_lt _ (by omega)
        have hpi : (t1 : Int) % (N : Int) = (p : Int) := by rw [hp]; simp
        obtain ⟨q, hq⟩ : ∃ q, q = N - p := ⟨_, rfl⟩
        have hsub : (N : Int) - (p : Int) = (q : Int) := by omega
        obtain ⟨L, hL⟩ : ∃ L, L = min 130 q := ⟨_, rfl⟩
        have hmin : min 130 (q : Int) = (L : Int) := by omega
        have hone : longI (List.replicate N c) (p : Int) = if p = 0 ∨ L < 3 then (0, 0) else (1, L) := by
          unfold longI
          rw [if_pos (by rw [List.length_replicate]; omega), Int.toNat_natCast, longest_one c N p hpN, ← hq, ← hL]
        have HONE := Lib.hid hone
        have CL : Hid (∀ d n : Nat, longI (List.replicate N c) (p : Int) = (d, n) → Calls Try.prog 14 #[.slice (some ⟨g, 0, none⟩) N N, .int .i64 (p : Int)] wr fun e w' => e = .returned (.tuple #[.int .i64 (d : Int), .int .i64 (n : Int)]) ∧ Below wr.heap.size wr w') := by
          intro d n hx
          have h := HK.out.longest _ N N _ (p : Int) wr H2.out.below (given_own H2.out 0 rfl) (by omega) (by omega) (by omega)
          rw [hx] at h
          exact h
        clear hone hp hL hq
        by_cases hp0 : p = 0
        · have hz2 : ((p : Int) == 0) = true := by simp; omega
          have ONE : Hid (Calls Try.prog 14 #[.slice (some ⟨g, 0, none⟩) N N, .int .i64 0] wr fun e w' => e = .returned (.tuple #[.int .i64 0, .int .i64 0]) ∧ Below wr.heap.size wr w') := by
            have h := CL.out 0 0 (by rw [HONE.out, if_pos (Or.inl hp0)])
            rw [hp0] at h
            exact h
          clear CL HONE
          go_wp2_with (fail)
          refine (ONE.out).mono ?_
          rintro e w3 ⟨rfl, h3⟩
          have B3 := Lib.hid (H2.out.later h3)
          clear h3
          go_wp2
          go_ret
          exact ⟨rfl, B3.out.below⟩
        · have hz2 : ((p : Int) == 0) = false := by simp; omega
          by_cases hL3 : (L : Int) < 3
          · have ONE : Hid (Calls Try.prog 14 #[.slice (some ⟨g, 0, none⟩) N N, .int .i64 (p : Int)] wr fun e w' => e = .returned (.tuple #[.int .i64 0, .int .i64 0]) ∧ Below wr.heap.size wr w') := by
              exact CL.out 0 0 (by rw [HONE.out, if_pos (Or.inr (by omega))])
            clear CL HONE
            go_wp2_with (fail)
            refine (ONE.out).mono ?_
            rintro e w3 ⟨rfl, h3⟩
            have B3 := Lib.hid (H2.out.later h3)
            clear h3
            go_wp2
            go_ret
            exact ⟨rfl, B3.out.below⟩
          · have ONE : Hid (Calls Try.prog 14 #[.slice (some ⟨g, 0, none⟩) N N, .int .i64 (p : Int)] wr fun e w' => e = .returned (.tuple #[.int .i64 1, .int .i64 (L : Int)]) ∧ Below wr.heap.size wr w') := by
              exact CL.out 1 L (by rw [HONE.out, if_neg (by omega)])
            clear CL HONE
            go_wp2_with (fail)
            refine (ONE.out).mono ?_
            rintro e w3 ⟨rfl, h3⟩
            have B3 := Lib.hid (H2.out.later h3)
            clear h3
            go_wp2
            go_ret
            exact ⟨rfl, B3.out.below⟩

end Mat
end Go.Proofs.Ytcchapoikliieaa
