/- CodecRoom: the walk. -/
import Derived.Test.YtjnldgijnpgckaaBackP
import Derived.BigGuardPart
namespace Go.Proofs.Ytjnldgijnpgckaa
open Go.RowKit Go.Own
namespace Cod

/-- what an item of a size does to a writer -/
def Stepd (s : WS) (sz : Nat) (s' : WS) : Prop :=
  s'.room = s.room ∧ ((s.err = 0 ∧ (sz : Int) ≤ s.room - s.xs.length ∧ sz ≤ 65537 ∧ s'.err = 0 ∧ ∃ itm : List UInt8, itm.length = sz ∧ s'.xs = s.xs ++ itm) ∨
    (¬ (s.err = 0 ∧ (sz : Int) ≤ s.room - s.xs.length ∧ sz ≤ 65537) ∧ s'.err ≠ 0 ∧ s'.xs = s.xs))

theorem stepd_lay (s : WS) (bs : List UInt8) (hr : s.room ≤ 1000) : Stepd s bs.length (s.lay bs) := by
  obtain ⟨room, xs, err⟩ := s
  simp only at hr
  unfold Stepd WS.lay
  simp only
  by_cases he : err = 0
  · subst he
    by_cases hf : room - (xs.length : Int) < bs.length
    · rw [if_neg (by simp), if_pos hf]
      exact ⟨rfl, .inr ⟨by omega, by simp, rfl⟩⟩
    · rw [if_neg (by simp), if_neg hf]
      exact ⟨rfl, .inl ⟨rfl, by omega, by omega, rfl, bs, rfl, rfl⟩⟩
  · rw [if_pos he]
    exact ⟨rfl, .inr ⟨by simp [he], he, rfl⟩⟩

theorem stepd_num (s : WS) (n : Nat) (hr : s.room ≤ 1000) : Stepd s 5 (s.num n 5) := by
  have h := stepd_lay s (le n 5) hr
  rw [le_len] at h
  unfold WS.num
  by_cases he : s.err = 0
  · rw [if_neg (by simpa using he), if_neg (by omega)]
    exact h
  · rw [if_pos he]
    unfold WS.lay at h
    rw [if_pos he] at h
    exact h

theorem stepd_blob (s : WS) (bs : List UInt8) (hr : s.room ≤ 1000) : Stepd s (bs.length + 2) (s.blob bs) := by
  by_cases hb : 65535 < bs.length
  · obtain ⟨room, xs, err⟩ := s
    unfold Stepd WS.blob
    simp only
    by_cases he : err = 0
    · rw [if_neg (by simpa using he), if_pos hb]
      exact ⟨rfl, .inr ⟨by omega, by simp, rfl⟩⟩
    · rw [if_pos he]
      exact ⟨rfl, .inr ⟨by simp [he], he, rfl⟩⟩
  · have h := stepd_lay s (le bs.length 2 ++ bs) hr
    rw [List.length_append, le_len, Nat.add_comm 2] at h
    unfold WS.blob
    by_cases he : s.err = 0
    · rw [if_neg (by simpa using he), if_neg hb]
      exact h
    · rw [if_pos he]
      unfold WS.lay at h
      rw [if_pos he] at h
      exact h

set_option maxRecDepth 100000 in
set_option maxHeartbeats 40000000 in
theorem walk_room (a0 : Int) (w0 : (Lit.int .u16 a0).wf = true) (ao : Option Addr) (len cap : Nat) (ps : List PutD) {W : World} (h : inSlice 4 inPut ps W.heap.size W [.slice ao len cap]) :
    Calls Try.prog 6 #[.int .u16 a0, .slice ao len cap] W (RetTrue W) := by
  have h0 : 0 ≤ a0 ∧ a0 ≤ 65535 := by simpa [Lit.wf, IntKind.min, IntKind.max, IntKind.signed, IntKind.bits] using w0
  clear w0
  obtain ⟨N, hN⟩ : ∃ N, N = fewN 100000 0 ps := ⟨_, rfl⟩
  have hNl : N ≤ ps.length := by rw [hN]; exact fewN_le _ _ _
  have hN2 : N ≤ 200 := by have := few_cnt ps 100000 0; omega
  have hsum : lenSum (ps.take N) ≤ 100000 := by rw [hN]; exact few_sum _ _ _
  have hfew : ∀ w, Below W.heap.size W w → Calls Try.prog 11 #[.slice ao len cap] w fun e w' => e = .returned (.slice ao N cap) ∧ w = w' := by
    intro w hb
    rw [hN]
    exact few_any ps ao len cap w (stable_slice stable_put _ _ _ _ _ h hb)
  have hcells : ∀ w, Below W.heap.size W w → ∀ k (hk : k < ps.length), _ := fun w hb k hk => (put_cells (stable_slice stable_put _ _ _ _ _ h hb)).2.2.2 (by rintro rfl; simp at hk)
  have HF := Lib.hid hfew
  have HC := Lib.hid hcells
  have HS := Lib.hid hsum
  have HNL := Lib.hid hNl
  clear h hfew hcells hsum hN hNl
  obtain ⟨room, hroom⟩ : ∃ room : Nat, a0 % 1001 = (room : Int) := ⟨(a0 % 1001).toNat, by omega⟩
  have hr1 : room ≤ 1000 := by omega
  go_enter Try.func6, Try.ntmps6
  go_wp2_with (fail)
  refine (shown_any W).mono ?_
  rintro e w1 ⟨rfl, hb⟩
  have H0 : Hid (St W.heap.size W w1 []) := ⟨hb, hb.size, fun _ => False, fun _ h => h, fun _ h => h.elim⟩
  clear hb
  go_wp2_with (fail)
  refine (newWriter_st H0.out room (by omega)).mono ?_
  rintro e w2 ⟨p, rfl, H1⟩
  rw [show max (room : Int) 0 = room by omega] at H1
  have H1 := Lib.hid H1
  clear H0
  go_wp2_with (fail)
  refine (HF.out w2 H1.out.below).mono ?_
  rintro e w3 ⟨rfl, rfl⟩
  go_wp2_with (fail)
  go_loopw [27] (fun i wr => ∃ (k : Nat) (xs : List UInt8) (err : Int), k ≤ N ∧ i = .int .i64 k ∧ xs.length ≤ room ∧ St W.heap.size W wr [AW p ⟨room, xs, err⟩]) (fun i _ => N - (intOf i).toNat)
  case atStart => exact ⟨0, [], 0, Nat.zero_le _, rfl, Nat.zero_le _, H1.out⟩
  case round =>
    obtain ⟨k, xs, err, hk, rfl, hxs, hst⟩ := hrel
    have HST := Lib.hid hst
    clear hst
    by_cases hlt : k < N
    · have hkl : k < ps.length := Nat.lt_of_lt_of_le hlt HNL.out
      obtain ⟨b, o, rfl, hbB, hbw, hc⟩ := HC.out wr HST.out.below k hkl
      obtain ⟨c, cp, c0, c1, c2, c3, q0, q1, q2, hb1, hb2, hcn, hV⟩ := hc k hkl
      have hone := lenSum_one ps k N hkl hlt
      obtain ⟨pk, hpk⟩ : ∃ pk, pk = ps[k] := ⟨_, rfl⟩
      rw [← hpk] at c0 c1 c2 c3 q0 q1 q2 hb1 hV hone
      clear hpk hc
      obtain ⟨kd, n, many, bs⟩ := pk
      simp only at c0 c1 c2 c3 q0 q1 q2 hb1 hV hone
      have hbl : bs.length ≤ 100000 := by have := HS.out; omega
      have HV := Lib.hid hV
      obtain ⟨m, rfl⟩ := Int.eq_ofNat_of_zero_le q1.1
      obtain ⟨n1, hn1⟩ : ∃ n1, n1 = xs.length := ⟨_, rfl⟩
      rw [← hn1] at hxs
      have HN1 := Lib.hid hn1
      have hbound : Hid ((WS.mk room xs err).xs.length ≤ 90000000) := by show xs.length ≤ _; omega
      have hs0 := Lib.hid (stepd_num ⟨room, xs, err⟩ m (by simp only; omega))
      have hs1 := Lib.hid (stepd_lay ⟨room, xs, err⟩ bs (by simp only; omega))
      have hs2 := Lib.hid (stepd_blob ⟨room, xs, err⟩ bs (by simp only; omega))
      clear hV hone hb1 hcn hb2 hn1 HC HF
      have HA := Lib.hid (HST.out.box (.cells #[.int .u8 kd, .int .u64 m, .int .i64 many, .slice c bs.length cp] 34))
      go_wp2_with (fail)
      refine (out_st HA.out 1 rfl (n := n1) HN1.out.symm (by omega)).mono ?_
      rintro e w4 ⟨oa, oc, rfl, H2⟩
      have hbx := H2.block 1 rfl
      have H2 := Lib.hid H2
      have b0 := cell_of_block (i := 0) hbx rfl
      have b1 := cell_of_block (i := 1) hbx rfl
      have b3 := cell_of_block (i := 3) hbx rfl
      have HV4 := Lib.hid (HV.out.same (Below.both HST.out.below H2.out.below))
      clear hbx c0 c1 c2 c3 HV HST HA
      by_cases h0 : kd % 3 = 0
      · go_wp2_with (fail)
        refine (num_st H2.out 2 rfl m 5 (Nat.le_trans hbound.out (by omega))).mono ?_
        rintro e w5 ⟨rfl, H3⟩
        obtain ⟨s', hs'⟩ : ∃ s', s' = (WS.num ⟨room, xs, err⟩ m 5) := ⟨_, rfl⟩
        rw [← hs'] at H3 hs0
        have hsd := hs0
        have H3 := Lib.hid H3
        obtain ⟨n2, hn2⟩ : ∃ n2, n2 = s'.xs.length := ⟨_, rfl⟩
        have HN2 := Lib.hid hn2
        have hb2 : n2 ≤ 1000 := by
          have := HN1.out
          rcases hsd.out.2 with ⟨_, _, _, _, itm, g1, g2⟩ | ⟨_, _, g2⟩
          · rw [hn2, g2, List.length_append]; simp only at *; omega
          · rw [hn2, g2]; simp only; omega
        have HSD := Lib.hid hsd.out
        clear hs0 hs1 hs2 hs' H2 b0 b1 b3 hn2 hsd
        go_wp2_with (fail)
        refine (out_st H3.out 2 rfl (n := n2) HN2.out.symm (by omega)).mono ?_
        rintro e w6 ⟨oa2, oc2, rfl, H4⟩
        obtain ⟨room', xs', err'⟩ := s'
        obtain ⟨rfl, hsd⟩ := HSD.out
        simp only at H4 hsd
        have hN2 := HN2.out
        have hN1 := HN1.out
        simp only at hN2
        obtain ⟨S2, hA2, -, -⟩ := H4.at 0 rfl
        have hl2 := AB.len hA2
        have hvn : View w6 S2 oa2 xs := by
          rcases hsd with ⟨_, _, _, _, itm, g3, g4⟩ | ⟨_, _, g4⟩
          · have := View.take (AB.view hA2) n1
            rw [g4, List.take_append_of_le_length (by omega), List.take_of_length_le (by omega)] at this
            exact this
          · have := AB.view hA2
            rw [g4] at this
            exact this
        have hsn : ∀ nq, (convert 27 9 (.slice oa2 n1 oc2)).run Try.prog (w6.drewN nq) = .ok (.string (strB xs)) (w6.drewN nq) := fun nq => by
          have := run_str (P := Try.prog) (w := w6.drewN nq) 27 5 9 Try.underlying27 Try.underlying5 Try.underlying9 (View.step hvn ((Step.refl (fun _ => False) w6).drewN nq) (fun _ _ h => h)) oc2
          rw [← hN1] at this
          exact this
        have hsw : ∀ nq, (convert 27 9 (.slice oa n1 oc)).run Try.prog (w6.drewN nq) = .ok (.string (strB xs)) (w6.drewN nq) := fun nq => conv_own (H4.drewN nq) 1 rfl
        have H4 := Lib.hid H4
        have hcap := hl2.2.1
        have hgA : decide ((room : Int) < (n2 : Int)) = false := by
          rcases hsd with ⟨_, g, _, _, itm, g3, g4⟩ | ⟨_, _, g4⟩
          · rw [hN2, g4, List.length_append, g3]; simp; omega
          · rw [hN2, g4, ← hN1]; simp; omega
        have hgB : decide ((n2 : Int) < (n1 : Int)) = false := by
          rcases hsd with ⟨_, _, _, _, itm, g3, g4⟩ | ⟨_, _, g4⟩
          · rw [hN2, g4, List.length_append, ← hN1]; simp; omega
          · rw [hN2, g4, ← hN1]; simp
        have hnx : n2 ≤ room := by simp at hgA; omega
        have hgAn : decide (room < n2) = false := by simp; omega
        have hn12 : n1 ≤ n2 := by simp at hgB; omega
        have hsl : (n1 : Int) ≤ (oc2 : Int) := by omega
        have HN12 := hN2
        rcases hsd with ⟨rfl, g1, g2, rfl, itm, g3, rfl⟩ | ⟨g1, g2, rfl⟩
        · have hn' : n2 = n1 + 5 := by rw [hN2, List.length_append, g3, ← hN1]
          subst hn'
          have hgA' : decide ((room : Int) < (n1 : Int) + 5) = false := by simp; omega
          have hgB' : decide ((n1 : Int) + 5 < (n1 : Int)) = false := by simp; omega
          have hgAn' : decide (room < n1 + 5) = false := by simp; omega
          have hgBn' : decide (n1 + 5 < n1) = false := by simp
          clear hgA hgB hgAn
          rw [← hN1] at g1
          have HLX : Hid ((xs ++ itm).length ≤ room) := by show _ ≤ _; omega
          clear hA2 hvn g3 hN2 hN1 HSD H3 HN2 HN1 hbound hl2 HN12
          go_wp2_with (fail)
          go_quiet (fail)
          go_wp2
          go_roundw
          case rel => exact ⟨k + 1, xs ++ itm, 0, by omega, by go_num, by have := HLX.out; omega, (H4.out.drop 3).drewN _⟩
          case measure => simp [intOf]; omega
        · have hn : n2 = n1 := by rw [hN2, ← hN1]
          subst hn
          rw [← hN1] at g1
          have HX : Hid (xs'.length ≤ room) := by show xs'.length ≤ room; omega
          have hz : (err' == 0) = false := by simp [g2]
          by_cases he : err = 0
          · subst he
            have hf : decide ((5 : Int) ≤ (room : Int) - (n2 : Int)) = false := by simp; simp at g1; omega
            have hf' : (room : Int) - (n2 : Int) < 5 := by simp at hf; omega
            clear hA2 hvn hN2 hN1 HSD H3 HN2 HN1 hbound hl2 g1 g2 HN12
            go_wp2_with (fail)
            go_quiet (fail)
            go_wp2
            go_roundw
            case rel => exact ⟨k + 1, xs', err', by omega, by go_num, HX.out, (H4.out.drop 3).drewN _⟩
            case measure => simp [intOf]; omega
          · have he' : (err == 0) = false := by simp [he]
            clear hA2 hvn hN2 hN1 HSD H3 HN2 HN1 hbound hl2 g1 g2 HN12
            go_wp2_with (fail)
            go_quiet (fail)
            go_wp2
            go_roundw
            case rel => exact ⟨k + 1, xs', err', by omega, by go_num, HX.out, (H4.out.drop 3).drewN _⟩
            case measure => simp [intOf]; omega
      · have h0' : (kd % 3 == 0) = false := by simp [h0]
        by_cases h1 : kd % 3 = 1
        · go_wp2_with (fail)
          refine (raw_st H2.out 2 rfl cp HV4.out (by omega) (Nat.le_trans hbound.out (by omega))).mono ?_
          rintro e w5 ⟨rfl, H3⟩
          obtain ⟨s', hs'⟩ : ∃ s', s' = (WS.lay ⟨room, xs, err⟩ bs) := ⟨_, rfl⟩
          rw [← hs'] at H3 hs1
          have hsd := hs1
          have H3 := Lib.hid H3
          obtain ⟨n2, hn2⟩ : ∃ n2, n2 = s'.xs.length := ⟨_, rfl⟩
          have HN2 := Lib.hid hn2
          have hb2 : n2 ≤ 1000 := by
            have := HN1.out
            rcases hsd.out.2 with ⟨_, _, _, _, itm, g1, g2⟩ | ⟨_, _, g2⟩
            · rw [hn2, g2, List.length_append]; simp only at *; omega
            · rw [hn2, g2]; simp only; omega
          have HSD := Lib.hid hsd.out
          clear hs0 hs1 hs2 hs' H2 b0 b1 b3 hn2 hsd
          go_wp2_with (fail)
          refine (out_st H3.out 2 rfl (n := n2) HN2.out.symm (by omega)).mono ?_
          rintro e w6 ⟨oa2, oc2, rfl, H4⟩
          obtain ⟨room', xs', err'⟩ := s'
          obtain ⟨rfl, hsd⟩ := HSD.out
          simp only at H4 hsd
          have hN2 := HN2.out
          have hN1 := HN1.out
          simp only at hN2
          obtain ⟨S2, hA2, -, -⟩ := H4.at 0 rfl
          have hl2 := AB.len hA2
          have hvn : View w6 S2 oa2 xs := by
            rcases hsd with ⟨_, _, _, _, itm, g3, g4⟩ | ⟨_, _, g4⟩
            · have := View.take (AB.view hA2) n1
              rw [g4, List.take_append_of_le_length (by omega), List.take_of_length_le (by omega)] at this
              exact this
            · have := AB.view hA2
              rw [g4] at this
              exact this
          have hsn : ∀ nq, (convert 27 9 (.slice oa2 n1 oc2)).run Try.prog (w6.drewN nq) = .ok (.string (strB xs)) (w6.drewN nq) := fun nq => by
            have := run_str (P := Try.prog) (w := w6.drewN nq) 27 5 9 Try.underlying27 Try.underlying5 Try.underlying9 (View.step hvn ((Step.refl (fun _ => False) w6).drewN nq) (fun _ _ h => h)) oc2
            rw [← hN1] at this
            exact this
          have hsw : ∀ nq, (convert 27 9 (.slice oa n1 oc)).run Try.prog (w6.drewN nq) = .ok (.string (strB xs)) (w6.drewN nq) := fun nq => conv_own (H4.drewN nq) 1 rfl
          have H4 := Lib.hid H4
          have hcap := hl2.2.1
          have hgA : decide ((room : Int) < (n2 : Int)) = false := by
            rcases hsd with ⟨_, g, _, _, itm, g3, g4⟩ | ⟨_, _, g4⟩
            · rw [hN2, g4, List.length_append, g3]; simp; omega
            · rw [hN2, g4, ← hN1]; simp; omega
          have hgB : decide ((n2 : Int) < (n1 : Int)) = false := by
            rcases hsd with ⟨_, _, _, _, itm, g3, g4⟩ | ⟨_, _, g4⟩
            · rw [hN2, g4, List.length_append, ← hN1]; simp; omega
            · rw [hN2, g4, ← hN1]; simp
          have hnx : n2 ≤ room := by simp at hgA; omega
          have hgAn : decide (room < n2) = false := by simp; omega
          have hn12 : n1 ≤ n2 := by simp at hgB; omega
          have hsl : (n1 : Int) ≤ (oc2 : Int) := by omega
          have HN12 := hN2
          rcases hsd with ⟨rfl, g1, g2, rfl, itm, g3, rfl⟩ | ⟨g1, g2, rfl⟩
          · have hn' : n2 = n1 + bs.length := by rw [hN2, List.length_append, g3, ← hN1]
            subst hn'
            have hgA' : decide ((room : Int) < (n1 : Int) + (bs.length : Int)) = false := by simp; omega
            have hgB' : decide ((n1 : Int) + (bs.length : Int) < (n1 : Int)) = false := by simp; omega
            have hgAn' : decide (room < n1 + bs.length) = false := by simp; omega
            have hgBn' : decide (n1 + bs.length < n1) = false := by simp
            clear hgA hgB hgAn
            rw [← hN1] at g1
            have HLX : Hid ((xs ++ itm).length ≤ room) := by show _ ≤ _; omega
            have hq1 : decide ((bs.length : Int) ≤ (room : Int) - (n1 : Int)) = true := by simp; omega
            have hq2 : decide ((bs.length : Int) ≤ 65537) = true := by simp; omega
            have hq3 : decide (bs.length ≤ 65537) = true := by simp; omega
            clear hA2 hvn g3 hN2 hN1 HSD H3 HN2 HN1 hbound hl2 HN12
            go_wp2_with (fail)
            go_quiet (fail)
            go_wp2
            go_roundw
            case rel => exact ⟨k + 1, xs ++ itm, 0, by omega, by go_num, by have := HLX.out; omega, (H4.out.drop 3).drewN _⟩
            case measure => simp [intOf]; omega
          · have hn : n2 = n1 := by rw [hN2, ← hN1]
            subst hn
            rw [← hN1] at g1
            have HX : Hid (xs'.length ≤ room) := by show xs'.length ≤ room; omega
            have hz : (err' == 0) = false := by simp [g2]
            by_cases he : err = 0
            · subst he
              have hf : decide (((bs.length : Int) : Int) ≤ (room : Int) - (n2 : Int)) = false := by simp; simp at g1; omega
              have hf' : (room : Int) - (n2 : Int) < (bs.length : Int) := by simp at hf; omega
              clear hA2 hvn hN2 hN1 HSD H3 HN2 HN1 hbound hl2 g1 g2 HN12
              go_wp2_with (fail)
              go_quiet (fail)
              go_wp2
              go_roundw
              case rel => exact ⟨k + 1, xs', err', by omega, by go_num, HX.out, (H4.out.drop 3).drewN _⟩
              case measure => simp [intOf]; omega
            · have he' : (err == 0) = false := by simp [he]
              clear hA2 hvn hN2 hN1 HSD H3 HN2 HN1 hbound hl2 g1 g2 HN12
              go_wp2_with (fail)
              go_quiet (fail)
              go_wp2
              go_roundw
              case rel => exact ⟨k + 1, xs', err', by omega, by go_num, HX.out, (H4.out.drop 3).drewN _⟩
              case measure => simp [intOf]; omega
        · have h1' : (kd % 3 == 1) = false := by simp [h1]
          go_wp2_with (fail)
          refine (blob_st H2.out 2 rfl cp HV4.out (by omega) hbound.out).mono ?_
          rintro e w5 ⟨rfl, H3⟩
          obtain ⟨s', hs'⟩ : ∃ s', s' = (WS.blob ⟨room, xs, err⟩ bs) := ⟨_, rfl⟩
          rw [← hs'] at H3 hs2
          have hsd := hs2
          have H3 := Lib.hid H3
          obtain ⟨n2, hn2⟩ : ∃ n2, n2 = s'.xs.length := ⟨_, rfl⟩
          have HN2 := Lib.hid hn2
          have hb2 : n2 ≤ 1000 := by
            have := HN1.out
            rcases hsd.out.2 with ⟨_, _, _, _, itm, g1, g2⟩ | ⟨_, _, g2⟩
            · rw [hn2, g2, List.length_append]; simp only at *; omega
            · rw [hn2, g2]; simp only; omega
          have HSD := Lib.hid hsd.out
          clear hs0 hs1 hs2 hs' H2 b0 b1 b3 hn2 hsd
          go_wp2_with (fail)
          refine (out_st H3.out 2 rfl (n := n2) HN2.out.symm (by omega)).mono ?_
          rintro e w6 ⟨oa2, oc2, rfl, H4⟩
          obtain ⟨room', xs', err'⟩ := s'
          obtain ⟨rfl, hsd⟩ := HSD.out
          simp only at H4 hsd
          have hN2 := HN2.out
          have hN1 := HN1.out
          simp only at hN2
          obtain ⟨S2, hA2, -, -⟩ := H4.at 0 rfl
          have hl2 := AB.len hA2
          have hvn : View w6 S2 oa2 xs := by
            rcases hsd with ⟨_, _, _, _, itm, g3, g4⟩ | ⟨_, _, g4⟩
            · have := View.take (AB.view hA2) n1
              rw [g4, List.take_append_of_le_length (by omega), List.take_of_length_le (by omega)] at this
              exact this
            · have := AB.view hA2
              rw [g4] at this
              exact this
          have hsn : ∀ nq, (convert 27 9 (.slice oa2 n1 oc2)).run Try.prog (w6.drewN nq) = .ok (.string (strB xs)) (w6.drewN nq) := fun nq => by
            have := run_str (P := Try.prog) (w := w6.drewN nq) 27 5 9 Try.underlying27 Try.underlying5 Try.underlying9 (View.step hvn ((Step.refl (fun _ => False) w6).drewN nq) (fun _ _ h => h)) oc2
            rw [← hN1] at this
            exact this
          have hsw : ∀ nq, (convert 27 9 (.slice oa n1 oc)).run Try.prog (w6.drewN nq) = .ok (.string (strB xs)) (w6.drewN nq) := fun nq => conv_own (H4.drewN nq) 1 rfl
          have H4 := Lib.hid H4
          have hcap := hl2.2.1
          have hgA : decide ((room : Int) < (n2 : Int)) = false := by
            rcases hsd with ⟨_, g, _, _, itm, g3, g4⟩ | ⟨_, _, g4⟩
            · rw [hN2, g4, List.length_append, g3]; simp; omega
            · rw [hN2, g4, ← hN1]; simp; omega
          have hgB : decide ((n2 : Int) < (n1 : Int)) = false := by
            rcases hsd with ⟨_, _, _, _, itm, g3, g4⟩ | ⟨_, _, g4⟩
            · rw [hN2, g4, List.length_append, ← hN1]; simp; omega
            · rw [hN2, g4, ← hN1]; simp
          have hnx : n2 ≤ room := by simp at hgA; omega
          have hgAn : decide (room < n2) = false := by simp; omega
          have hn12 : n1 ≤ n2 := by simp at hgB; omega
          have hsl : (n1 : Int) ≤ (oc2 : Int) := by omega
          have HN12 := hN2
          rcases hsd with ⟨rfl, g1, g2, rfl, itm, g3, rfl⟩ | ⟨g1, g2, rfl⟩
          · have hn' : n2 = n1 + (bs.length + 2) := by rw [hN2, List.length_append, g3, ← hN1]
            subst hn'
            have hgA' : decide ((room : Int) < (n1 : Int) + ((bs.length : Int) + 2)) = false := by simp; omega
            have hgB' : decide ((n1 : Int) + ((bs.length : Int) + 2) < (n1 : Int)) = false := by simp; omega
            have hgAn' : decide (room < n1 + (bs.length + 2)) = false := by simp; omega
            have hgBn' : decide (n1 + (bs.length + 2) < n1) = false := by simp
            clear hgA hgB hgAn
            rw [← hN1] at g1
            have HLX : Hid ((xs ++ itm).length ≤ room) := by show _ ≤ _; omega
            have hq1 : decide (((bs.length : Int) + 2) ≤ (room : Int) - (n1 : Int)) = true := by simp; omega
            have hq2 : decide (((bs.length : Int) + 2) ≤ 65537) = true := by simp; omega
            have hq3 : decide ((bs.length + 2) ≤ 65537) = true := by simp; omega
            clear hA2 hvn g3 hN2 hN1 HSD H3 HN2 HN1 hbound hl2 HN12
            go_wp2_with (fail)
            go_quiet (fail)
            go_wp2
            go_roundw
            case rel => exact ⟨k + 1, xs ++ itm, 0, by omega, by go_num, by have := HLX.out; omega, (H4.out.drop 3).drewN _⟩
            case measure => simp [intOf]; omega
          · have hn : n2 = n1 := by rw [hN2, ← hN1]
            subst hn
            rw [← hN1] at g1
            have HX : Hid (xs'.length ≤ room) := by show xs'.length ≤ room; omega
            have hz : (err' == 0) = false := by simp [g2]
            by_cases he : err = 0
            · subst he
              have hf : decide ((((bs.length : Int) + 2) : Int) ≤ (room : Int) - (n2 : Int)) = false := by simp; simp at g1; omega
              have hf' : (room : Int) - (n2 : Int) < ((bs.length : Int) + 2) := by simp at hf; omega
              clear hA2 hvn hN2 hN1 HSD H3 HN2 HN1 hbound hl2 g1 g2 HN12
              go_wp2_with (fail)
              go_quiet (fail)
              go_wp2
              go_roundw
              case rel => exact ⟨k + 1, xs', err', by omega, by go_num, HX.out, (H4.out.drop 3).drewN _⟩
              case measure => simp [intOf]; omega
            · have he' : (err == 0) = false := by simp [he]
              clear hA2 hvn hN2 hN1 HSD H3 HN2 HN1 hbound hl2 g1 g2 HN12
              go_wp2_with (fail)
              go_quiet (fail)
              go_wp2
              go_roundw
              case rel => exact ⟨k + 1, xs', err', by omega, by go_num, HX.out, (H4.out.drop 3).drewN _⟩
              case measure => simp [intOf]; omega

    · go_wp2_with (fail)
      go_ret
      exact ⟨rfl, HST.out.below⟩

end Cod
end Go.Proofs.Ytjnldgijnpgckaa
