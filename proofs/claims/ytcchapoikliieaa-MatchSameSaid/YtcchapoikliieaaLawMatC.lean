/- MatchSame: the walk. -/
import Derived.Test.YtcchapoikliieaaLawMatB
namespace Go.Proofs.Ytcchapoikliieaa
open Go.RowKit Go.Own
namespace Mat
open Go.MatM Byt

set_option maxHeartbeats 1600000 in
theorem walk_same (a0 : Option Addr) (len0 cap0 : Nat) (x0 : Bs) (t0 : Int) (wt : (Lit.int .u16 t0).wf = true) (a1 : Option Addr) (len1 cap1 : Nat) (x1 : Bs) {w : World} (w0 : inBytes x0 w.heap.size w [.slice a0 len0 cap0]) (w1 : inBytes x1 w.heap.size w [.slice a1 len1 cap1]) (K : Kept w) :
    Calls Try.prog 8 #[.slice a0 len0 cap0, .int .u16 t0, .slice a1 len1 cap1] w (RetYes w) := by
  obtain ⟨m, hm, hg, hf⟩ := few_in w0
  obtain ⟨m1, hm1, hg1, hf1⟩ := few_in w1
  obtain ⟨t1, rfl, ht1⟩ := u16_nat wt
  have HF := Lib.hid hf
  have HF1 := Lib.hid hf1
  have SH := Lib.hid (shown_any K)
  obtain ⟨x, hx⟩ : ∃ x, x = fw x0 := ⟨_, rfl⟩
  obtain ⟨y, hy⟩ : ∃ y, y = fw x1 := ⟨_, rfl⟩
  rw [← hx] at hg
  rw [← hy] at hg1
  have HL := Lib.hid hg.size
  have C1 := Lib.hid (fun wx (hwx : Below w.heap.size w wx) => K.all a0 m cap0 x wx hwx (hg.later hwx) (by omega))
  have HG := Lib.hid hg
  have HG1 := Lib.hid hg1
  have HK := Lib.hid K
  clear hx hy hg hg1 hf hf1 w0 w1 wt K
  go_enter Try.func8, Try.ntmps8
  go_wp2_with (fail)
  refine SH.out.mono ?_
  rintro e w1 ⟨rfl, h1⟩
  have B1 := Lib.hid ((Own.St.start w).later h1)
  clear h1
  go_wp2_with (fail)
  refine (HF.out w1).mono ?_
  rintro e w2 ⟨rfl, rfl⟩
  by_cases hm0 : m = 0
  · have hz : ((m : Int) == 0) = true := by simp; omega
    go_wp2
    go_ret
    exact ⟨rfl, B1.out.below⟩
  · have hz : ((m : Int) == 0) = false := by simp; omega
    obtain ⟨k, hk⟩ : ∃ k, k = t1 % m := ⟨_, rfl⟩
    have hkm : k < m := by rw [hk]; exact Nat.mod_lt _ (by omega)
    have hki : (t1 : Int) % (m : Int) = (k : Int) := by rw [hk]; simp
    have hkmi : (k : Int) < (m : Int) := by omega
    clear hk
    obtain ⟨d, n, hdn⟩ : ∃ d n, longest x k = (d, n) := ⟨_, _, rfl⟩
    obtain ⟨d2, n2, hdn2⟩ : ∃ d n, longest (x ++ y) k = (d, n) := ⟨_, _, rfl⟩
    have hnb : n ≤ 130 := by
      rcases Nat.lt_or_ge n 131 with h | h
      · omega
      · exfalso
        have h0 := (longest_runs x k d n hdn (by omega)).2.2.2.2.1
        omega
    obtain ⟨M, hM⟩ : ∃ M, M = max n 2 := ⟨_, rfl⟩
    have hMi : max (n : Int) 2 = (M : Int) := by omega
    have hMb : M ≤ 130 := by omega
    have HAP : Hid ((k + M < m → d2 = d ∧ n2 = n) ∧ n ≤ n2) := by
      have h := longest_append x y k (by rw [HL.out]; exact hkm)
      rw [hdn, hdn2, HL.out] at h
      refine ⟨fun hlt => ?_, h.2⟩
      have h' := h.1 (by rw [hM] at hlt; exact hlt)
      cases h'
      exact ⟨rfl, rfl⟩
    have C2 : Hid (∀ wx, Below w.heap.size w wx → Calls Try.prog 14 #[.slice a0 m cap0, .int .i64 (k : Int)] wx fun e w' => e = .returned (.tuple #[.int .i64 (d : Int), .int .i64 (n : Int)]) ∧ Below wx.heap.size wx w') := by
      intro wx hwx
      have h := HK.out.longest a0 m cap0 x (k : Int) wx hwx (HG.out.later hwx) (by omega) (by omega) (by omega)
      have e : longI x (k : Int) = (d, n) := by unfold longI; rw [if_pos (by rw [HL.out]; omega), Int.toNat_natCast, hdn]
      rw [e] at h
      exact h
    have HAT : Hid ((alls x).getD k (0, 0) = (d, n)) := (alls_at x k (by rw [HL.out]; exact hkm)).trans hdn
    have HDN2 := Lib.hid hdn2
    clear hdn hdn2 hM
    go_wp2_with (fail)
    refine (C1.out w1 B1.out.below).mono ?_
    intro e w2 h2
    obtain ⟨aq, cq, rfl, k2⟩ := all_st B1.out h2
    have B2 := Lib.hid k2
    clear k2 h2 B1
    go_wp2_with (fail)
    refine (C2.out w2 B2.out.below).mono ?_
    rintro e w3 ⟨rfl, h3⟩
    have B3 := Lib.hid (B2.out.later h3)
    clear h3 B2
    obtain ⟨g, rfl, ca, cb⟩ := aq_at B3.out 0 rfl k hkm
    rw [HAT.out] at ca cb
    rw [show 2 * k = k * 2 by omega] at ca cb
    have CE := Lib.hid (And.intro ca cb)
    clear ca cb
    have BE := Lib.hid (ab_empty B3.out)
    have HV0 := Lib.hid (vcells (vlater HG.out.view BE.out.below))
    go_wp2_with (first
      | (refine wpList_val rfl (load_pair rfl _ CE.out.1 CE.out.2 rfl) ?_)
      | (refine wpList_val rfl (neq_pair rfl d n _ _ rfl rfl) ?_)
      | (at_builtin; refine Byt.wpList_ab_append rfl (.tmp 51) (.tmp 52) rfl BE.out 0 rfl rfl a0 m cap0 x rfl (fun h => ⟨by rw [← HL.out, vnone HG.out.view h]; rfl, HG.out.nil h⟩) HL.out HV0.out (by omega) ?_; intro ay cy wc hc'; simp only [Nat.zero_add, List.nil_append, List.set_cons_zero] at hc'; have HO := Lib.hid hc'; clear hc'))
    clear CE BE HV0 B3
    refine (HF1.out wc).mono ?_
    rintro e w4 ⟨rfl, rfl⟩
    have HV1 := Lib.hid (vcells (vlater HG1.out.view HO.out.below))
    go_wp2_with (at_builtin; refine Byt.wpList_ab_append rfl (.tmp 53) (.tmp 55) rfl HO.out 0 rfl rfl a1 m1 cap1 y rfl (fun h => ⟨by rw [← HG1.out.size, vnone HG1.out.view h]; rfl, HG1.out.nil h⟩) HG1.out.size HV1.out (by omega) ?_; intro az cz we he'; simp only [List.set_cons_zero] at he'; have HQ := Lib.hid he'; clear he')
    have C3 : Hid (Calls Try.prog 14 #[.slice az (m + m1) cz, .int .i64 (k : Int)] we fun e w' => e = .returned (.tuple #[.int .i64 (d2 : Int), .int .i64 (n2 : Int)]) ∧ Below we.heap.size we w') := by
      have h := HK.out.longest _ (m + m1) cz (x ++ y) (k : Int) we HQ.out.below (given_own HQ.out 0 rfl) (by omega) (by omega) (by omega)
      have e : longI (x ++ y) (k : Int) = (d2, n2) := by unfold longI; rw [if_pos (by rw [List.length_append, HL.out]; omega), Int.toNat_natCast, HDN2.out]
      rw [e] at h
      exact h
    clear HV1 HO
    refine C3.out.mono ?_
    rintro e w5 ⟨rfl, h5⟩
    have B5 := Lib.hid (HQ.out.later h5)
    clear h5 HQ C3
    by_cases hlt : k + M < m
    · obtain ⟨e1, e2⟩ := HAP.out.1 hlt
      subst e1 e2
      have hlti : (k : Int) + (M : Int) < (m : Int) := by omega
      go_wp2
      go_ret
      exact ⟨rfl, B5.out.below⟩
    · have hge := HAP.out.2
      have hgei : (n : Int) ≤ (n2 : Int) := by omega
      have hlti : ¬ (k : Int) + (M : Int) < (m : Int) := by omega
      go_wp2
      go_ret
      exact ⟨rfl, B5.out.below⟩

end Mat
end Go.Proofs.Ytcchapoikliieaa
