/- CodecBack: the walk. -/
import Derived.Test.YtjnldgijnpgckaaBackP
namespace Go.Proofs.Ytjnldgijnpgckaa
open Go.RowKit Go.Own
namespace Cod

/-- up to k, no bytes with their number are too many -/
def Small (ps : List PutD) (k : Nat) : Prop := ∀ j (hj : j < ps.length), j < k → ¬ ps[j].kind % 3 = 0 → ¬ ps[j].kind % 3 = 1 → ps[j].b.length ≤ 50000

theorem Small.succ {ps : List PutD} {k : Nat} (h : Small ps k) (hk : k < ps.length) (g : ¬ ps[k].kind % 3 = 0 → ¬ ps[k].kind % 3 = 1 → ps[k].b.length ≤ 50000) : Small ps (k + 1) := by
  intro j hj hlt h0 h1
  rcases Nat.lt_or_ge j k with hjk | hjk
  · exact h j hj hjk h0 h1
  · obtain rfl : j = k := by omega
    exact g h0 h1

def bigRoom : Int := 1073741824

set_option maxRecDepth 100000 in
set_option maxHeartbeats 4000000 in
theorem walk_back (ao : Option Addr) (len cap : Nat) (ps : List PutD) {W : World} (h : inSlice 4 inPut ps W.heap.size W [.slice ao len cap]) :
    Calls Try.prog 5 #[.slice ao len cap] W (RetTrue W) := by
  obtain ⟨N, hN⟩ : ∃ N, N = fewN 100000 0 ps := ⟨_, rfl⟩
  have hNl : N ≤ ps.length := by rw [hN]; exact fewN_le _ _ _
  have hN2 : N ≤ 200 := by have := few_cnt ps 100000 0; omega
  have hsum : lenSum (ps.take N) ≤ 100000 := by rw [hN]; exact few_sum _ _ _
  have hfew : ∀ w, Below W.heap.size W w → Calls Try.prog 11 #[.slice ao len cap] w fun e w' => e = .returned (.slice ao N cap) ∧ w = w' := by
    intro w hb
    rw [hN]
    exact few_any ps ao len cap w (stable_slice stable_put _ _ _ _ _ h hb)
  have hcells : ∀ w, Below W.heap.size W w → ∀ k (hk : k < ps.length), _ := fun w hb k hk => (put_cells (stable_slice stable_put _ _ _ _ _ h hb)).2.2.2 (by rintro rfl; simp at hk)
  have HF := Lib.hid hfew
  have HC := Lib.hid hcells
  have HS := Lib.hid hsum
  have HNL := Lib.hid hNl
  clear h hfew hcells hsum hN hNl
  go_enter Try.func5, Try.ntmps5
  go_wp2_with (fail)
  refine (shown_any W).mono ?_
  rintro e w1 ⟨rfl, hb⟩
  have H0 : Hid (St W.heap.size W w1 []) := ⟨hb, hb.size, fun _ => False, fun _ h => h, fun _ h => h.elim⟩
  clear hb
  go_wp2_with (fail)
  refine (newWriter_st H0.out 1073741824 (by omega)).mono ?_
  rintro e w2 ⟨p, rfl, H1⟩
  have H1 : Hid (St W.heap.size W w2 [AW p ⟨bigRoom, [], 0⟩]) := H1
  clear H0
  go_wp2_with (fail)
  refine (HF.out w2 H1.out.below).mono ?_
  rintro e w3 ⟨rfl, rfl⟩
  go_wp2_with (fail)
  go_loopw [20] (fun i wr => ∃ k : Nat, k ≤ N ∧ i = .int .i64 k ∧ Small ps k ∧ St W.heap.size W wr [AW p ⟨bigRoom, encs (ps.take k), 0⟩]) (fun i _ => N - (intOf i).toNat)
  case atStart => exact ⟨0, Nat.zero_le _, rfl, fun j _ hj => by omega, H1.out⟩
  case round =>
    obtain ⟨k, hk, rfl, hsm, hst⟩ := hrel
    have HSM := Lib.hid hsm
    have HST := Lib.hid hst
    clear hsm hst
    by_cases hlt : k < N
    · have hkl : k < ps.length := Nat.lt_of_lt_of_le hlt HNL.out
      obtain ⟨b, o, rfl, hbB, hbw, hc⟩ := HC.out wr HST.out.below k hkl
      obtain ⟨c, cp, c0, c1, c2, c3, q0, q1, q2, hb1, hb2, hcn, hV⟩ := hc k hkl
      have hel := encs_len (ps.take k)
      have hone := lenSum_one ps k N hkl hlt
      have hil := item_len ps[k]
      rw [List.length_take, Nat.min_eq_left (by omega)] at hel
      have hstep := encs_step ps k hkl
      have hitem : item ps[k] = if ps[k].kind % 3 = 0 then le ps[k].n.toNat 8 else if ps[k].kind % 3 = 1 then ps[k].b else le ps[k].b.length 2 ++ ps[k].b := rfl
      have hsucc := HSM.out.succ hkl
      obtain ⟨pk, hpk⟩ : ∃ pk, pk = ps[k] := ⟨_, rfl⟩
      rw [← hpk] at c0 c1 c2 c3 q0 q1 q2 hb1 hV hone hstep hitem hsucc hil
      clear hpk hc
      obtain ⟨kd, n, many, bs⟩ := pk
      obtain ⟨xs, hxs⟩ : ∃ xs, xs = encs (ps.take k) := ⟨_, rfl⟩
      rw [← hxs] at hel hstep HST
      have hs := HS.out
      simp only at c0 c1 c2 c3 q0 q1 q2 hb1 hV hone hitem hsucc hil
      have hxl : xs.length + bs.length ≤ 101600 := by omega
      have HSTEP := Lib.hid hstep
      have HITEM := Lib.hid hitem
      have HSUCC := Lib.hid hsucc
      have HV := Lib.hid hV
      obtain ⟨m, rfl⟩ := Int.eq_ofNat_of_zero_le q1.1
      clear hstep hitem hsucc hV hxs hel hone hil hs HSM hb1 hcn hb2
      have HA := Lib.hid (HST.out.alloc (.cells #[.int .u8 kd, .int .u64 m, .int .i64 many, .slice c bs.length cp] 34))
      by_cases h0 : kd % 3 = 0
      · have hI : Hid (encs (ps.take (k + 1)) = xs ++ le m 8) := by
          show _ = _
          rw [HSTEP.out, HITEM.out, if_pos h0, Int.toNat_natCast]
        have hfit := Lib.hid (num_fits ⟨bigRoom, xs, 0⟩ m 8 rfl (by omega) (by simp only [bigRoom]; omega))
        go_wp2_with (fail)
        refine (num_st HA.out 0 rfl m 8 (by simp only; omega)).mono ?_
        rintro e w4 ⟨rfl, H2⟩
        have H2 : Hid (St W.heap.size W w4 [AW p ⟨bigRoom, xs ++ le m 8, 0⟩]) := by
          have e := hfit.out; show St _ _ _ _; rw [show ((8 : Nat) : Int) = 8 from rfl] at e; rw [e] at H2; exact H2
        go_wp2_with (fail)
        go_roundw
        case rel => exact ⟨k + 1, by omega, by go_num, HSUCC.out (fun g => absurd h0 g), by rw [hI.out]; exact H2.out⟩
        case measure => simp [intOf]; omega
      · have h0' : (kd % 3 == 0) = false := by simp [h0]
        by_cases h1 : kd % 3 = 1
        · have hI : Hid (encs (ps.take (k + 1)) = xs ++ bs) := by
            show _ = _
            rw [HSTEP.out, HITEM.out, if_neg h0, if_pos h1]
          have hfit := Lib.hid (lay_fits ⟨bigRoom, xs, 0⟩ bs rfl (by simp only [bigRoom]; omega))
          go_wp2_with (fail)
          refine (raw_st HA.out 0 rfl cp (HV.out.below (Below.refl _ _ |>.alloc (by exact HST.out.size) _)) (by omega) (by simp only; omega)).mono ?_
          rintro e w4 ⟨rfl, H2⟩
          have H2 : Hid (St W.heap.size W w4 [AW p ⟨bigRoom, xs ++ bs, 0⟩]) := by
            have e := hfit.out; show St _ _ _ _; rw [e] at H2; exact H2
          go_wp2_with (fail)
          go_roundw
          case rel => exact ⟨k + 1, by omega, by go_num, HSUCC.out (fun _ g => absurd h1 g), by rw [hI.out]; exact H2.out⟩
          case measure => simp [intOf]; omega
        · have h1' : (kd % 3 == 1) = false := by simp [h1]
          by_cases hbig : 50000 < bs.length
          · have hbig' : (50000 : Int) < bs.length := by omega
            go_wp2_with (fail)
            go_ret
            exact ⟨rfl, HA.out.below⟩
          · have hI : Hid (encs (ps.take (k + 1)) = xs ++ (le bs.length 2 ++ bs)) := by
              show _ = _
              rw [HSTEP.out, HITEM.out, if_neg h0, if_neg h1]
            have hfit := Lib.hid (blob_fits ⟨bigRoom, xs, 0⟩ bs rfl (by omega) (by simp only [bigRoom]; omega))
            go_wp2_with (fail)
            refine (blob_st HA.out 0 rfl cp (HV.out.below (Below.refl _ _ |>.alloc (by exact HST.out.size) _)) (by omega) (by simp only; omega)).mono ?_
            rintro e w4 ⟨rfl, H2⟩
            have H2 : Hid (St W.heap.size W w4 [AW p ⟨bigRoom, xs ++ (le bs.length 2 ++ bs), 0⟩]) := by
              have e := hfit.out; show St _ _ _ _; rw [e] at H2; exact H2
            go_wp2_with (fail)
            go_roundw
            case rel => exact ⟨k + 1, by omega, by go_num, HSUCC.out (fun _ _ => by omega), by rw [hI.out]; exact H2.out⟩
            case measure => simp [intOf]; omega
    · obtain rfl : k = N := by omega
      have hel := encs_len (ps.take k)
      have hs := HS.out
      rw [List.length_take, Nat.min_eq_left HNL.out] at hel
      obtain ⟨xs, hxs⟩ : ∃ xs, xs = encs (ps.take k) := ⟨_, rfl⟩
      rw [← hxs] at hel HST
      obtain ⟨n, hn⟩ : ∃ n, n = xs.length := ⟨_, rfl⟩
      have hnl : n ≤ 101600 := by omega
      have HN := Lib.hid hn
      have HX := Lib.hid hxs
      clear hel hs hn hxs
      go_wp2_with (fail)
      refine (out_st HST.out 0 rfl (n := n) HN.out.symm (by omega)).mono ?_
      rintro e w4 ⟨oa, oc, rfl, H2⟩
      have H2 := Lib.hid H2
      clear HST
      go_wp2_with (fail)
      refine (newReader_st H2.out 0 rfl (by omega)).mono ?_
      rintro e w5 ⟨r, rfl, H3⟩
      have H3 : Hid (St W.heap.size W w5 [AR r ⟨xs, 0⟩, AB oa n oc xs, AW p ⟨bigRoom, xs, 0⟩]) := H3
      clear H2
      go_wp2_with (fail)
      refine (HF.out w5 H3.out.below).mono ?_
      rintro e w6 ⟨rfl, rfl⟩
      go_wp2_with (fail)
      go_loopw [65] (fun i wr => ∃ j : Nat, j ≤ k ∧ i = .int .i64 j ∧ St W.heap.size W wr [AR r ⟨encs ((ps.take k).drop j), 0⟩, AB oa n oc xs, AW p ⟨bigRoom, xs, 0⟩]) (fun i _ => k - (intOf i).toNat)
      case atStart => exact ⟨0, Nat.zero_le _, rfl, by rw [List.drop_zero, ← HX.out]; exact H3.out⟩
      case round =>
        obtain ⟨j, hj, rfl, hst⟩ := hrel
        have HST := Lib.hid hst
        clear hst
        by_cases hlt : j < k
        · have hjl : j < ps.length := Nat.lt_of_lt_of_le hlt HNL.out
          have hjt : j < (ps.take k).length := by rw [List.length_take]; have := HNL.out; omega
          have hdrop := encs_drop (ps.take k) j hjt
          have hget : (ps.take k)[j] = ps[j] := List.getElem_take
          rw [hget] at hdrop
          have hpl := encs_len ((ps.take k).drop j)
          have hpn : lenSum ((ps.take k).drop j) ≤ 100000 := by
            have := HS.out
            have e : lenSum (ps.take k) = lenSum ((ps.take k).take j) + lenSum ((ps.take k).drop j) := by
              conv => lhs; rw [← List.take_append_drop j (ps.take k)]
              simp only [lenSum, List.map_append, List.sum_append]
            omega
          rw [List.length_drop, List.length_take] at hpl
          have hsm := HSM.out j hjl hlt
          have hitem : item ps[j] = if ps[j].kind % 3 = 0 then le ps[j].n.toNat 8 else if ps[j].kind % 3 = 1 then ps[j].b else le ps[j].b.length 2 ++ ps[j].b := rfl
          obtain ⟨b, o, rfl, hbB, hbw, hc⟩ := HC.out wr HST.out.below j hjl
          obtain ⟨c, cp, c0, c1, c2, c3, q0, q1, q2, hb1, hb2, hcn, hV⟩ := hc j hjl
          obtain ⟨pk, hpk⟩ : ∃ pk, pk = ps[j] := ⟨_, rfl⟩
          rw [← hpk] at c0 c1 c2 c3 q0 q1 q2 hb1 hV hdrop hsm hitem
          clear hpk hc hget
          obtain ⟨kd, n', many, bs⟩ := pk
          obtain ⟨m, rfl⟩ := Int.eq_ofNat_of_zero_le q1.1
          obtain ⟨rest, hrest⟩ : ∃ rest, rest = encs ((ps.take k).drop (j + 1)) := ⟨_, rfl⟩
          rw [← hrest] at hdrop
          rw [hdrop] at HST hpl
          simp only at c0 c1 c2 c3 q0 q1 q2 hb1 hV hsm hitem
          have hpl' : (item ⟨kd, m, many, bs⟩ ++ rest).length ≤ 101600 := by omega
          have HPL := Lib.hid hpl'
          have HRE := Lib.hid hrest
          have HITEM := Lib.hid hitem
          have HV := Lib.hid hV
          have hts : (strB bs).toList = bs := strB_toList bs
          have hB := HST.out.size
          have HA := Lib.hid (HST.out.box (.cells #[.int .u8 kd, .int .u64 m, .int .i64 many, .slice c bs.length cp] 34))
          have hbox := HA.out.block 0 rfl
          clear hdrop hitem hV hrest hpl hpl' hpn hb1 hcn hb2 HC HF
          by_cases h0 : kd % 3 = 0
          · have hx := rnum_back m rest (by omega)
            rw [← show item ⟨kd, m, many, bs⟩ = le m 8 by rw [HITEM.out, if_pos h0]; rfl] at hx
            have HX1 := Lib.hid hx
            clear hx hts
            go_wp2_with (fail)
            go_region_law (go_simp; go_at_call 20; refine (rnum_st (HA.out.drew) 1 rfl 8 HX1.out (by have := HPL.out; simp only; omega)).mono ?_; rintro e w7 ⟨rfl, H4⟩; have hb4 := H4.block 0 rfl; have H4 := Lib.hid H4; have hc4 := cell_of_block (i := 1) hb4 rfl)
            all_goals
              clear hb4
              go_wp2
              go_roundw
              case rel => exact ⟨j + 1, by omega, by go_num, by rw [← HRE.out]; exact H4.out.drop 1⟩
              case measure => simp [intOf]; omega
          · have h0' : (kd % 3 == 0) = false := by simp [h0]
            have hvw : ∀ wx, Below W.heap.size W wx → (convert 27 9 (.slice c bs.length cp)).run Try.prog wx = .ok (.string (strB bs)) wx := fun wx hb =>
              run_str (P := Try.prog) 27 5 9 Try.underlying27 Try.underlying5 Try.underlying9 (HV.out.same (Below.both HST.out.below hb)) cp
            have hv0 := hvw ((wr.alloc (.cells #[.int .u8 kd, .int .u64 m, .int .i64 many, .slice c bs.length cp] 34)).drew) HA.out.drew.below
            have HVW := Lib.hid hvw
            clear hvw
            by_cases h1 : kd % 3 = 1
            · have HX1 : Hid (RS.raw ⟨item ⟨kd, m, many, bs⟩ ++ rest, 0⟩ bs.length = (bs, ⟨rest, 0⟩)) := by
                have e : item ⟨kd, m, many, bs⟩ = bs := by rw [HITEM.out, if_neg h0, if_pos h1]
                show _ = _
                rw [e]; exact rraw_back bs rest
              go_wp2_with (fail)
              go_region_law (go_simp; go_at_call 22; refine (rraw_st (HA.out.drew) 1 rfl bs.length HX1.out rfl (by have := HPL.out; simp only; omega)).mono ?_; rintro e w7 ⟨ao7, cap7, rfl, H4⟩; have hb4 := H4.block 1 rfl; have H4 := Lib.hid H4; have hc4 := cell_of_block (i := 3) hb4 rfl; have hs7 := conv_own H4.out 0 rfl; have hv7 := HVW.out w7 H4.out.below)
              all_goals
                clear hb4
                go_wp2
                go_roundw
                case rel => exact ⟨j + 1, by omega, by go_num, by rw [← HRE.out]; exact H4.out.drop 2⟩
                case measure => simp [intOf]; omega
            · have h1' : (kd % 3 == 1) = false := by simp [h1]
              have HX1 : Hid (RS.blob ⟨item ⟨kd, m, many, bs⟩ ++ rest, 0⟩ bs.length = (bs, ⟨rest, 0⟩)) := by
                have e : item ⟨kd, m, many, bs⟩ = le bs.length 2 ++ bs := by rw [HITEM.out, if_neg h0, if_neg h1]
                show _ = _
                rw [e]; exact rblob_back bs rest (by have := hsm h0 h1; omega)
              go_wp2_with (fail)
              go_region_law (go_simp; go_at_call 24; refine (rblob_st (HA.out.drew) 1 rfl bs.length (by have := hsm h0 h1; omega) HX1.out rfl (by have := HPL.out; simp only; omega)).mono ?_; rintro e w7 ⟨ao7, cap7, rfl, H4⟩; have hb4 := H4.block 1 rfl; have H4 := Lib.hid H4; have hc4 := cell_of_block (i := 3) hb4 rfl; have hs7 := conv_own H4.out 0 rfl; have hv7 := HVW.out w7 H4.out.below)
              all_goals
                clear hb4
                go_wp2
                go_roundw
                case rel => exact ⟨j + 1, by omega, by go_num, by rw [← HRE.out]; exact H4.out.drop 2⟩
                case measure => simp [intOf]; omega
        · have hjk : (ps.take k).drop j = [] := List.drop_eq_nil_of_le (by rw [List.length_take]; omega)
          have HST : Hid (St W.heap.size W wr [AR r ⟨[], 0⟩, AB oa n oc xs, AW p ⟨bigRoom, xs, 0⟩]) := by
            have := HST.out; rw [hjk] at this; exact this
          clear hjk
          go_wp2_with (fail)
          refine (end_st HST.out 0 rfl).mono ?_
          rintro e w7 ⟨rfl, rfl⟩
          go_wp2_with (fail)
          refine (left_st HST.out 0 rfl).mono ?_
          rintro e w7 ⟨rfl, rfl⟩
          go_wp2_with (fail)
          go_ret
          exact ⟨rfl, HST.out.below⟩

end Cod
end Go.Proofs.Ytjnldgijnpgckaa
