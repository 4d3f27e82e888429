/- The landed page: Join; what it keeps. -/
import Derived.Test.YtphdpjfkpidofaaPgaE
namespace Go.Proofs.Ytphdpjfkpidofaa
open Go.RowKit Go.Own
namespace Pag
open Go.PagM Byt
set_option maxRecDepth 10000 in
set_option maxHeartbeats 8000000 in
theorem joinP_any (ao : Option Addr) (n cap : Nat) (L : List PagM.Bs) (w : World) (hg : GivenL w ao n cap L) (hb : n ≤ 1000000) (hlen : ∀ p ∈ L, p.length ≤ 1000000) :
    Calls Try.prog 19 #[.slice ao n cap] w (JoinDone (join L) w) := by
  obtain ⟨X, hX⟩ : ∃ X, X = join L := ⟨_, rfl⟩
  rw [← hX]
  have HX := Lib.hid (show X = joinF 0 0 [] (L.drop 0) from hX)
  have HG := Lib.hid hg
  have HN := Lib.hid hg.size
  have HL := Lib.hid hlen
  have hroom := hg.room
  unfold maxLen at hroom
  have HNO0 : Hid (ao = none → cap = 0) := hg.nil
  have H0 := Lib.hid (ab_nil (Own.St.start w))
  obtain ⟨m, hm⟩ : ∃ m, m = min n 64 := ⟨_, rfl⟩
  have hmn : m ≤ n := by omega
  have hmc : m ≤ cap := by omega
  have hm64 : m ≤ 64 := by omega
  have HM : Hid (m = n ∨ m = 64) := by show _ ∨ _; omega
  have hmin : ∀ wx, (Builtin.min_ #[3, 3] 3 #[.int .i64 (n : Int), .int .i64 64]).run Try.prog wx = .ok (.int .i64 (m : Int)) wx := by
    intro wx
    rw [show (m : Int) = min (n : Int) 64 by omega]
    simp [Builtin.min_, Builtin.min2, go_sem]
    try omega
  clear hX hg hlen hm
  go_enter Try.func19, Try.ntmps19
  go_wp2
  go_loopw [6, 7, 18] (fun v6 v7 v18 wr => ∃ (i na ca : Nat) (k : UInt8) (aa : Option Addr) (all : PagM.Bs), v7 = .slice aa na ca ∧ v6 = .int .u8 (k.toNat : Int) ∧ v18 = .int .i64 (i : Int) ∧ i ≤ m ∧ na ≤ 125 * i ∧ X = joinF i k all (L.drop i) ∧ Own.St w.heap.size w wr [AB aa na ca all]) (fun _ _ v18 _ => m - (intOf v18).toNat)
  case atStart => exact ⟨0, 0, 0, 0, none, [], rfl, rfl, rfl, Nat.zero_le _, Nat.zero_le _, HX.out, H0.out⟩
  case round =>
    obtain ⟨i, na, ca, k, aa, all, rfl, rfl, rfl, him, hna, hXi, hH⟩ := hrel
    have H := Lib.hid hH
    have E := Lib.hid hXi
    have HAL := Lib.hid (ab_len hH 0 rfl).1
    clear hH hXi H0 HX
    by_cases hgo : ¬ (i : Int) < (m : Int)
    · have HXX : Hid (X = ((0, [], 0), 90)) := by
        show X = _
        rw [E.out]
        rcases Nat.lt_or_ge i n with h | h
        · have h6 : 64 ≤ i := by have := HM.out; omega
          rw [List.drop_eq_getElem_cons (by rw [HN.out]; exact h), joinF, if_pos h6]
        · rw [List.drop_of_length_le (by rw [HN.out]; exact h)]; rfl
      clear E
      go_wp2
      refine bodyPost_ret (results_four rfl _ _ rfl rfl rfl rfl) rfl ?_
      exact join_err X HXX.out H.out.below
    · have h1 : (i : Int) < (m : Int) := by omega
      have hin2 : i < n := by omega
      have hi64 : i < 64 := by omega
      have GW := Lib.hid (HG.out.later H.out.below)
      obtain ⟨b, o, aj, cj, rfl, hbl, hcell, hgj⟩ := GW.out.rows i hin2
      obtain ⟨q, hq⟩ : ∃ q, q = L.getD i [] := ⟨_, rfl⟩
      rw [← hq] at hcell hgj
      have hql : q.length ≤ 1000000 := by
        rw [hq, List.getD_eq_getElem?_getD, List.getElem?_eq_getElem (by rw [HN.out]; exact hin2)]
        exact HL.out _ (List.getElem_mem _)
      have EJ := joinF_at i k all L (by rw [HN.out]; exact hin2) hi64
      rw [← hq] at EJ
      obtain ⟨X0, hX0⟩ : ∃ x, x = PagM.take q := ⟨_, rfl⟩
      have TK := take_new aj q.length cj q wr hgj hql
      rw [← hX0] at TK
      obtain ⟨ml, hml⟩ : ∃ m, m = q.length := ⟨_, rfl⟩
      rw [← hml] at hcell TK
      by_cases hpg : isPage q = true
      · obtain ⟨hp1, hp2, hp3⟩ := isPage_props hpg
        obtain ⟨gs1, gs2⟩ := guess_small q hp1 hp2
        have hX1 : X0 = (guess q, 0) := by rw [hX0]; unfold PagM.take; rw [if_pos hpg]
        rw [hpg] at EJ
        obtain ⟨gq, hgq⟩ : ∃ g, g = guess q := ⟨_, rfl⟩
        rw [← hgq] at EJ hX1 gs1 gs2
        obtain ⟨fk, ff, fl, fd⟩ := gq
        simp only at EJ gs1 gs2
        rw [hX1] at TK
        unfold TakeNew at TK
        simp only at TK
        obtain ⟨dl, hdl⟩ : ∃ z, z = fd.length := ⟨_, rfl⟩
        have hdl125 : dl ≤ 125 := by omega
        have TK2 : Hid (Calls Try.prog 14 #[.slice aj ml cj] wr fun e w' => ∃ ao cap, e = .returned (.tuple #[.agg #[.int .u8 (fk.toNat : Int), .bool ff, .bool fl, .slice ao dl cap], errP 0]) ∧ Given w' ao dl cap fd ∧ Below wr.heap.size wr w') := by
          rw [hdl]
          exact TK.mono fun e w' ⟨a, c, h1, h2, _, h3⟩ => ⟨a, c, h1, h2, h3⟩
        have HDL := Lib.hid hdl
        rw [← hdl] at EJ
        have EJ2 := Lib.hid EJ
        have hk8 : fk.toNat ≤ 63 := gs1
        have hself : ((fk.toNat : Int) != (fk.toNat : Int)) = false := by simp
        clear hq hgj EJ TK hX0 hX1 hml hpg hp1 hp2 hp3 gs1 gs2 hgq hdl hgo
        rcases Nat.eq_zero_or_pos i with hi0 | hi0
        · have HI0 := Lib.hid hi0
          have hi2 : ((i : Int) == 0) = true := by simp; omega
          clear hi0
          cases ff
          · skip
            have HXX : Hid (X = ((0, [], 0), 90)) := by show X = _; rw [E.out, EJ2.out]; simp [HI0.out]
            clear EJ2 E
            go_wp2_with (fail)
            refine TK2.out.mono ?_
            clear TK2
            rintro e w3 ⟨a3, c3, rfl, hg3, hb3⟩
            have H3 := Lib.hid (H.out.later hb3)
            have H4 := Lib.hid (H3.out.boxV 24 [.int .u8 (fk.toNat : Int), .bool false, .bool fl, .slice a3 dl c3])
            have G3 := Lib.hid (hg3.later ((Own.St.start w3).alloc (.cells #[.int .u8 (fk.toNat : Int), .bool false, .bool fl, .slice a3 dl c3] 24)).below)
            clear hg3 hb3
            go_wp2_with (fail)
            refine bodyPost_ret (results_four rfl _ _ rfl rfl rfl rfl) rfl ?_
            exact join_err X HXX.out H4.out.below
          · skip
            cases fl
            · by_cases hd5 : dl = 125
              · subst hd5
                have HXX : Hid (X = joinF (i + 1) fk (all ++ fd) (L.drop (i + 1))) := by show X = _; rw [E.out, EJ2.out]; simp [HI0.out]
                clear EJ2 E
                go_wp2_with (fail)
                refine TK2.out.mono ?_
                clear TK2
                rintro e w3 ⟨a3, c3, rfl, hg3, hb3⟩
                have H3 := Lib.hid (H.out.later hb3)
                have H4 := Lib.hid (H3.out.boxV 24 [.int .u8 (fk.toNat : Int), .bool true, .bool false, .slice a3 125 c3])
                have G3 := Lib.hid (hg3.later ((Own.St.start w3).alloc (.cells #[.int .u8 (fk.toNat : Int), .bool true, .bool false, .slice a3 125 c3] 24)).below)
                clear hg3 hb3
                have HNO := Lib.hid (given_nil G3.out)
                have HC := Lib.hid (vcells G3.out.view)
                go_wp2_with (at_builtin; refine Byt.wpList_ab_append rfl (.tmp 47) (.tmp 49) rfl H4.out 1 rfl rfl a3 125 c3 fd rfl HNO.out HDL.out.symm HC.out (by omega) ?_; intro a5 c5 w5 h5; simp only [List.set_cons_succ, List.set_cons_zero] at h5; have d2 := (h5.cellV 0 rfl 2 rfl).1; have d3 := (h5.cellV 0 rfl 3 rfl).1; have H5 := Lib.hid h5; clear h5)
                go_roundw
                case rel => exact ⟨i + 1, na + 125, c5, fk, a5, all ++ fd, rfl, rfl, by go_num, by omega, by omega, HXX.out, H5.out.drop 1⟩
                case measure => simp [intOf]; omega
              · have hd6 : (dl : Int) < 125 := by omega
                have HXX : Hid (X = ((0, [], 0), 90)) := by show X = _; rw [E.out, EJ2.out]; simp [HI0.out, hd5]
                clear EJ2 E hd5
                go_wp2_with (fail)
                refine TK2.out.mono ?_
                clear TK2
                rintro e w3 ⟨a3, c3, rfl, hg3, hb3⟩
                have H3 := Lib.hid (H.out.later hb3)
                have H4 := Lib.hid (H3.out.boxV 24 [.int .u8 (fk.toNat : Int), .bool true, .bool false, .slice a3 dl c3])
                have G3 := Lib.hid (hg3.later ((Own.St.start w3).alloc (.cells #[.int .u8 (fk.toNat : Int), .bool true, .bool false, .slice a3 dl c3] 24)).below)
                clear hg3 hb3
                have HNO := Lib.hid (given_nil G3.out)
                have HC := Lib.hid (vcells G3.out.view)
                go_wp2_with (at_builtin; refine Byt.wpList_ab_append rfl (.tmp 47) (.tmp 49) rfl H4.out 1 rfl rfl a3 dl c3 fd rfl HNO.out HDL.out.symm HC.out (by omega) ?_; intro a5 c5 w5 h5; simp only [List.set_cons_succ, List.set_cons_zero] at h5; have d2 := (h5.cellV 0 rfl 2 rfl).1; have d3 := (h5.cellV 0 rfl 3 rfl).1; have H5 := Lib.hid h5; clear h5)
                refine bodyPost_ret (results_four rfl _ _ rfl rfl rfl rfl) rfl ?_
                exact join_err X HXX.out H5.out.below
            · skip
              have HXX : Hid (X = ((fk, all ++ fd, i + 1), 0)) := by show X = _; rw [E.out, EJ2.out]; simp [HI0.out]
              clear EJ2 E
              go_wp2_with (fail)
              refine TK2.out.mono ?_
              clear TK2
              rintro e w3 ⟨a3, c3, rfl, hg3, hb3⟩
              have H3 := Lib.hid (H.out.later hb3)
              have H4 := Lib.hid (H3.out.boxV 24 [.int .u8 (fk.toNat : Int), .bool true, .bool true, .slice a3 dl c3])
              have G3 := Lib.hid (hg3.later ((Own.St.start w3).alloc (.cells #[.int .u8 (fk.toNat : Int), .bool true, .bool true, .slice a3 dl c3] 24)).below)
              clear hg3 hb3
              have HNO := Lib.hid (given_nil G3.out)
              have HC := Lib.hid (vcells G3.out.view)
              go_wp2_with (at_builtin; refine Byt.wpList_ab_append rfl (.tmp 47) (.tmp 49) rfl H4.out 1 rfl rfl a3 dl c3 fd rfl HNO.out HDL.out.symm HC.out (by omega) ?_; intro a5 c5 w5 h5; simp only [List.set_cons_succ, List.set_cons_zero] at h5; have d2 := (h5.cellV 0 rfl 2 rfl).1; have d3 := (h5.cellV 0 rfl 3 rfl).1; have H5 := Lib.hid h5; clear h5)
              refine bodyPost_ret (results_four rfl _ _ rfl rfl rfl rfl) rfl ?_
              rw [HXX.out]
              refine ⟨a5, c5, ?_, ?_, H5.out.below⟩
              · simp only [List.length_append, HAL.out, ← HDL.out]; rfl
              · simp only [List.length_append, HAL.out, ← HDL.out]
                exact given_own H5.out 1 rfl
        · have hi1 : (0 : Int) < (i : Int) := by omega
          have hi2 : ((i : Int) == 0) = false := by simp; omega
          have hi3 : ¬ i = 0 := by omega
          cases ff
          · by_cases hkk : fk = k
            · subst hkk
              cases fl
              · by_cases hd5 : dl = 125
                · subst hd5
                  have HXX : Hid (X = joinF (i + 1) fk (all ++ fd) (L.drop (i + 1))) := by show X = _; rw [E.out, EJ2.out]; simp [hi3, hi0]
                  clear EJ2 E
                  go_wp2_with (fail)
                  refine TK2.out.mono ?_
                  clear TK2
                  rintro e w3 ⟨a3, c3, rfl, hg3, hb3⟩
                  have H3 := Lib.hid (H.out.later hb3)
                  have H4 := Lib.hid (H3.out.boxV 24 [.int .u8 (fk.toNat : Int), .bool false, .bool false, .slice a3 125 c3])
                  have G3 := Lib.hid (hg3.later ((Own.St.start w3).alloc (.cells #[.int .u8 (fk.toNat : Int), .bool false, .bool false, .slice a3 125 c3] 24)).below)
                  clear hg3 hb3
                  have HNO := Lib.hid (given_nil G3.out)
                  have HC := Lib.hid (vcells G3.out.view)
                  go_wp2_with (at_builtin; refine Byt.wpList_ab_append rfl (.tmp 47) (.tmp 49) rfl H4.out 1 rfl rfl a3 125 c3 fd rfl HNO.out HDL.out.symm HC.out (by omega) ?_; intro a5 c5 w5 h5; simp only [List.set_cons_succ, List.set_cons_zero] at h5; have d2 := (h5.cellV 0 rfl 2 rfl).1; have d3 := (h5.cellV 0 rfl 3 rfl).1; have H5 := Lib.hid h5; clear h5)
                  go_roundw
                  case rel => exact ⟨i + 1, na + 125, c5, fk, a5, all ++ fd, rfl, rfl, by go_num, by omega, by omega, HXX.out, H5.out.drop 1⟩
                  case measure => simp [intOf]; omega
                · have hd6 : (dl : Int) < 125 := by omega
                  have HXX : Hid (X = ((0, [], 0), 90)) := by show X = _; rw [E.out, EJ2.out]; simp [hi3, hi0, hd5]
                  clear EJ2 E hd5
                  go_wp2_with (fail)
                  refine TK2.out.mono ?_
                  clear TK2
                  rintro e w3 ⟨a3, c3, rfl, hg3, hb3⟩
                  have H3 := Lib.hid (H.out.later hb3)
                  have H4 := Lib.hid (H3.out.boxV 24 [.int .u8 (fk.toNat : Int), .bool false, .bool false, .slice a3 dl c3])
                  have G3 := Lib.hid (hg3.later ((Own.St.start w3).alloc (.cells #[.int .u8 (fk.toNat : Int), .bool false, .bool false, .slice a3 dl c3] 24)).below)
                  clear hg3 hb3
                  have HNO := Lib.hid (given_nil G3.out)
                  have HC := Lib.hid (vcells G3.out.view)
                  go_wp2_with (at_builtin; refine Byt.wpList_ab_append rfl (.tmp 47) (.tmp 49) rfl H4.out 1 rfl rfl a3 dl c3 fd rfl HNO.out HDL.out.symm HC.out (by omega) ?_; intro a5 c5 w5 h5; simp only [List.set_cons_succ, List.set_cons_zero] at h5; have d2 := (h5.cellV 0 rfl 2 rfl).1; have d3 := (h5.cellV 0 rfl 3 rfl).1; have H5 := Lib.hid h5; clear h5)
                  refine bodyPost_ret (results_four rfl _ _ rfl rfl rfl rfl) rfl ?_
                  exact join_err X HXX.out H5.out.below
              · skip
                have HXX : Hid (X = ((fk, all ++ fd, i + 1), 0)) := by show X = _; rw [E.out, EJ2.out]; simp [hi3, hi0]
                clear EJ2 E
                go_wp2_with (fail)
                refine TK2.out.mono ?_
                clear TK2
                rintro e w3 ⟨a3, c3, rfl, hg3, hb3⟩
                have H3 := Lib.hid (H.out.later hb3)
                have H4 := Lib.hid (H3.out.boxV 24 [.int .u8 (fk.toNat : Int), .bool false, .bool true, .slice a3 dl c3])
                have G3 := Lib.hid (hg3.later ((Own.St.start w3).alloc (.cells #[.int .u8 (fk.toNat : Int), .bool false, .bool true, .slice a3 dl c3] 24)).below)
                clear hg3 hb3
                have HNO := Lib.hid (given_nil G3.out)
                have HC := Lib.hid (vcells G3.out.view)
                go_wp2_with (at_builtin; refine Byt.wpList_ab_append rfl (.tmp 47) (.tmp 49) rfl H4.out 1 rfl rfl a3 dl c3 fd rfl HNO.out HDL.out.symm HC.out (by omega) ?_; intro a5 c5 w5 h5; simp only [List.set_cons_succ, List.set_cons_zero] at h5; have d2 := (h5.cellV 0 rfl 2 rfl).1; have d3 := (h5.cellV 0 rfl 3 rfl).1; have H5 := Lib.hid h5; clear h5)
                refine bodyPost_ret (results_four rfl _ _ rfl rfl rfl rfl) rfl ?_
                rw [HXX.out]
                refine ⟨a5, c5, ?_, ?_, H5.out.below⟩
                · simp only [List.length_append, HAL.out, ← HDL.out]; rfl
                · simp only [List.length_append, HAL.out, ← HDL.out]
                  exact given_own H5.out 1 rfl
            · have hk6 : ((fk.toNat : Int) != (k.toNat : Int)) = true := by simp; exact fun h => hkk (UInt8.toNat_inj.1 (by omega))
              have HXX : Hid (X = ((0, [], 0), 90)) := by show X = _; rw [E.out, EJ2.out]; simp [hi3, hi0, hkk]
              clear EJ2 E
              go_wp2_with (fail)
              refine TK2.out.mono ?_
              clear TK2
              rintro e w3 ⟨a3, c3, rfl, hg3, hb3⟩
              have H3 := Lib.hid (H.out.later hb3)
              have H4 := Lib.hid (H3.out.boxV 24 [.int .u8 (fk.toNat : Int), .bool false, .bool fl, .slice a3 dl c3])
              have G3 := Lib.hid (hg3.later ((Own.St.start w3).alloc (.cells #[.int .u8 (fk.toNat : Int), .bool false, .bool fl, .slice a3 dl c3] 24)).below)
              clear hg3 hb3
              go_wp2_with (fail)
              refine bodyPost_ret (results_four rfl _ _ rfl rfl rfl rfl) rfl ?_
              exact join_err X HXX.out H4.out.below
          · skip
            have HXX : Hid (X = ((0, [], 0), 90)) := by show X = _; rw [E.out, EJ2.out]; simp [hi3]
            clear EJ2 E
            go_wp2_with (fail)
            refine TK2.out.mono ?_
            clear TK2
            rintro e w3 ⟨a3, c3, rfl, hg3, hb3⟩
            have H3 := Lib.hid (H.out.later hb3)
            have H4 := Lib.hid (H3.out.boxV 24 [.int .u8 (fk.toNat : Int), .bool true, .bool fl, .slice a3 dl c3])
            have G3 := Lib.hid (hg3.later ((Own.St.start w3).alloc (.cells #[.int .u8 (fk.toNat : Int), .bool true, .bool fl, .slice a3 dl c3] 24)).below)
            clear hg3 hb3
            go_wp2_with (fail)
            refine bodyPost_ret (results_four rfl _ _ rfl rfl rfl rfl) rfl ?_
            exact join_err X HXX.out H4.out.below
      · have hpf : isPage q = false := by simpa using hpg
        have hX1 : X0 = (zeroF, 90) := by rw [hX0]; unfold PagM.take; rw [if_neg hpg]
        rw [hX1] at TK
        have TK2 : Hid (Calls Try.prog 14 #[.slice aj ml cj] wr fun e w' => ∃ ao cap, e = .returned (.tuple #[.agg #[.int .u8 0, .bool false, .bool false, .slice ao 0 cap], errP 90]) ∧ Given w' ao 0 cap [] ∧ Below wr.heap.size wr w') := TK.mono fun e w' ⟨a, c, h1, h2, _, h3⟩ => ⟨a, c, h1, h2, h3⟩
        have HXX : Hid (X = ((0, [], 0), 90)) := by
          show X = _
          rw [E.out, EJ, hpf]
          rfl
        clear hq hgj EJ TK hX0 hX1 hml hpg hpf hgo E
        rcases Nat.eq_zero_or_pos i with hi0 | hi0
        · have hi2 : ((i : Int) == 0) = true := by simp; omega
          clear hi0
          go_wp2_with (fail)
          refine TK2.out.mono ?_
          clear TK2
          rintro e w3 ⟨a3, c3, rfl, hg3, hb3⟩
          have H3 := Lib.hid (H.out.later hb3)
          have H4 := Lib.hid (H3.out.boxV 24 [.int .u8 0, .bool false, .bool false, .slice a3 0 c3])
          have G3 := Lib.hid (hg3.later ((Own.St.start w3).alloc (.cells #[.int .u8 0, .bool false, .bool false, .slice a3 0 c3] 24)).below)
          clear hg3 hb3
          go_wp2_with (fail)
          refine bodyPost_ret (results_four rfl _ _ rfl rfl rfl rfl) rfl ?_
          exact join_err X HXX.out H4.out.below
        · have hi2 : ((i : Int) == 0) = false := by simp; omega
          clear hi0
          go_wp2_with (fail)
          refine TK2.out.mono ?_
          clear TK2
          rintro e w3 ⟨a3, c3, rfl, hg3, hb3⟩
          have H3 := Lib.hid (H.out.later hb3)
          have H4 := Lib.hid (H3.out.boxV 24 [.int .u8 0, .bool false, .bool false, .slice a3 0 c3])
          have G3 := Lib.hid (hg3.later ((Own.St.start w3).alloc (.cells #[.int .u8 0, .bool false, .bool false, .slice a3 0 c3] 24)).below)
          clear hg3 hb3
          go_wp2_with (fail)
          refine bodyPost_ret (results_four rfl _ _ rfl rfl rfl rfl) rfl ?_
          exact join_err X HXX.out H4.out.below
theorem kept (W : World) : Kept W where
  lay := fun f ao n cap _ hg _ => layP_any f ao n cap _ hg
  take := fun ao n cap p _ hg hb => take_new ao n cap p _ hg hb
  split := fun kind ao n cap p _ hg hb => splitP_any kind ao n cap p _ hg hb
  join := fun ao n cap L _ hg hb hl => joinP_any ao n cap L _ hg hb hl
end Pag
end Go.Proofs.Ytphdpjfkpidofaa
