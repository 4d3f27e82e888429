/- CodecLays: the walk. -/
import Derived.Test.YtjnldgijnpgckaaRef1S
namespace Go.Proofs.Ytjnldgijnpgckaa
open Go.RowKit Go.Own
namespace Cod

/-- no item lays more than so much -/
theorem lay_grow (s : WS) (bs : List UInt8) : (s.lay bs).xs.length ≤ s.xs.length + bs.length := by
  unfold WS.lay
  split
  · omega
  · split
    · simp
    · simp
theorem num_grow (s : WS) (n : Nat) (many : Int) : (s.num n many).xs.length ≤ s.xs.length + 8 := by
  unfold WS.num
  split
  · omega
  · split
    · simp
    · have := lay_grow s (le n many.toNat)
      rw [le_len] at this
      omega
theorem blob_grow (s : WS) (bs : List UInt8) : (s.blob bs).xs.length ≤ s.xs.length + bs.length + 2 := by
  unfold WS.blob
  split
  · omega
  · split
    · simp; omega
    · have := lay_grow s (le bs.length 2 ++ bs)
      rw [List.length_append, le_len] at this
      omega

/-- a byte turned -/
theorem xor_byte (c : UInt8) : bits .xor .u8 (c.toNat : Int) 85 = (((c ^^^ 85 : UInt8)).toNat : Int) := by
  have h := u8_xor_nat c.toNat 85 c.toNat_lt (by decide)
  rw [UInt8.toNat_xor]
  exact h

set_option maxRecDepth 100000 in
set_option maxHeartbeats 8000000 in
theorem walk_lays (room : Int) (wr0 : (Lit.int .i64 room).wf = true) (ao : Option Addr) (len cap : Nat) (ps : List PutD) {W : World} (h : inSlice 4 inPut ps W.heap.size W [.slice ao len cap]) :
    Calls Try.prog 3 #[.int .i64 room, .slice ao len cap] W (RetTrue W) := by
  have hroom : -9223372036854775808 ≤ room ∧ room ≤ 9223372036854775807 := by simpa [Lit.wf, IntKind.min, IntKind.max, IntKind.signed, IntKind.bits] using wr0
  have hr1 := hroom.2
  clear wr0 hroom
  have HROOM := Lib.hid hr1
  clear hr1
  obtain ⟨N, hN⟩ : ∃ N, N = fewN 100000 0 ps := ⟨_, rfl⟩
  have hNl : N ≤ ps.length := by rw [hN]; exact fewN_le _ _ _
  have hN2 : N ≤ 200 := by have := few_cnt ps 100000 0; omega
  have hsum : lenSum (ps.take N) ≤ 100000 := by rw [hN]; exact few_sum _ _ _
  have hfew : ∀ w, Below W.heap.size W w → Calls Try.prog 11 #[.slice ao len cap] w fun e w' => e = .returned (.slice ao N cap) ∧ w = w' := by
    intro w hb
    rw [hN]
    exact few_any ps ao len cap w (stable_slice stable_put _ _ _ _ _ h hb)
  have hcells : ∀ w, Below W.heap.size W w → ∀ k (hk : k < ps.length), _ := fun w hb k hk => (put_cells (stable_slice stable_put _ _ _ _ _ h hb)).2.2.2 (by rintro rfl; simp at hk)
  obtain ⟨i0, hi, hz0, hz1, hz2⟩ := info_parts Try.infoU8
  have HF := Lib.hid hfew
  have HC := Lib.hid hcells
  have HS := Lib.hid hsum
  have HNL := Lib.hid hNl
  clear h hfew hcells hsum hN hNl
  go_enter Try.func3, Try.ntmps3
  go_wp2_with (fail)
  refine (shown_any W).mono ?_
  rintro e w1 ⟨rfl, hb⟩
  have H0 : Hid (St W.heap.size W w1 []) := ⟨hb, hb.size, fun _ => False, fun _ h => h, fun _ h => h.elim⟩
  clear hb
  go_wp2_with (fail)
  refine (newWriter_st H0.out room HROOM.out).mono ?_
  rintro e w2 ⟨p, rfl, H1⟩
  obtain ⟨q, hq⟩ : ∃ q, q = w2.heap.size := ⟨_, rfl⟩
  have H2 : Hid (St W.heap.size W (w2.alloc (.cells #[.slice none 0 0, .int .i64 room, .int .i64 0] 30)) [ARW q ⟨max room 0, [], 0⟩, AW p ⟨max room 0, [], 0⟩]) :=
    H1.new (S' := fun k => k = q) (ARW q ⟨max room 0, [], 0⟩) ⟨.slice none 0 0, room, fun _ => False, by rw [hq]; exact heap_alloc_new w2 _, Row.nil _ _ _, fun h => h, fun k => by simp, rfl, HROOM.out⟩ (((Step.refl (fun _ => False) w2).alloc _).to (fun k hk => Or.inr (by rw [hk, hq]; exact Nat.le_refl _)))
  have HQ := Lib.hid hq
  clear H1 H0 hq
  go_wp2_with (fail)
  refine (HF.out _ H2.out.below).mono ?_
  rintro e w3 ⟨rfl, rfl⟩
  rw [← HQ.out]
  go_wp2_with (fail)
  go_loopw [26] (fun i wr => ∃ (k : Nat) (s : WS), k ≤ N ∧ i = .int .i64 k ∧ s.xs.length ≤ 10 * k + lenSum (ps.take k) ∧ St W.heap.size W wr [ARW q s, AW p s]) (fun i _ => N - (intOf i).toNat)
  case atStart => exact ⟨0, ⟨max room 0, [], 0⟩, Nat.zero_le _, rfl, Nat.zero_le _, H2.out⟩
  case round =>
    obtain ⟨k, s, hk, rfl, hsl, hst⟩ := hrel
    have HST := Lib.hid hst
    clear hst
    by_cases hlt : k < N
    · have hkl : k < ps.length := Nat.lt_of_lt_of_le hlt HNL.out
      obtain ⟨b, o, rfl, hbB, hbw, hc⟩ := HC.out wr HST.out.below k hkl
      obtain ⟨c, cp, c0, c1, c2, c3, q0, q1, q2, hb1, hb2, hcn, hV⟩ := hc k hkl
      have hone := lenSum_one ps k N hkl hlt
      have hsucc : lenSum (ps.take (k + 1)) = lenSum (ps.take k) + ps[k].b.length := by
        rw [take_get ps k hkl]
        simp only [lenSum, List.map_append, List.sum_append, List.map_cons, List.map_nil, List.sum_cons, List.sum_nil, Nat.add_zero]
      obtain ⟨pk, hpk⟩ : ∃ pk, pk = ps[k] := ⟨_, rfl⟩
      rw [← hpk] at c0 c1 c2 c3 q0 q1 q2 hb1 hV hone hsucc
      clear hpk hc
      obtain ⟨kd, n, many, bs⟩ := pk
      simp only at c0 c1 c2 c3 q0 q1 q2 hb1 hV hone hsucc
      have hbl : bs.length ≤ 100000 := by have := HS.out; omega
      have hxl : s.xs.length ≤ 102000 := by have := HS.out; omega
      obtain ⟨m, rfl⟩ := Int.eq_ofNat_of_zero_le q1.1
      have HV := Lib.hid hV
      have HSUCC := Lib.hid hsucc
      have HSL := Lib.hid hsl
      have HXL := Lib.hid hxl
      have HCN := Lib.hid hcn
      have hml : m < 18446744073709551616 := by omega
      have HML := Lib.hid hml
      clear hV hone hb1 hb2 HC HF hsucc hsl hxl hcn hml
      have HA := Lib.hid (HST.out.box (.cells #[.int .u8 kd, .int .u64 m, .int .i64 many, .slice c bs.length cp] 34))
      have hmade : Row ((wr.alloc (.cells #[.int .u8 kd, .int .u64 m, .int .i64 many, .slice c bs.length cp] 34)).alloc (.cells #[] 5)) 5 1 (fun k => k = wr.heap.size + 1) (.slice (some ⟨wr.heap.size + 1, 0, none⟩) 0 0) 0 [] := by
        have := Row.made (wr.alloc (.cells #[.int .u8 kd, .int .u64 m, .int .i64 many, .slice c bs.length cp] 34)) #[] 5 1 0 (Nat.zero_le _) rfl
        rw [World.size_alloc] at this
        exact this
      have HM := Lib.hid hmade
      have hcw : ∀ a, c = some a → ∀ j u, (bs.map byteV)[j]? = some u → ((wr.alloc (.cells #[.int .u8 kd, .int .u64 m, .int .i64 many, .slice c bs.length cp] 34)).alloc (.cells #[] 5)).cell? (a.add j) = some u :=
        fun a ha j u hu => cell_alloc (cell_alloc (view_cells HV.out a ha j u hu) _) _
      have hnn : c = none → bs.length = 0 ∧ cp = 0 := by
        intro h
        refine ⟨?_, HCN.out h⟩
        rcases HV.out with h' | ⟨b', o', h', _⟩
        · rw [h']; rfl
        · rw [h] at h'; cases h'
      have HCW := Lib.hid hcw
      have HNN := Lib.hid hnn
      clear hmade hcw hnn
      have hnew : ∀ w4 T4 oa oc, Row w4 5 1 T4 (.slice oa (0 + bs.length) oc) (0 + bs.length) ([] ++ bs.map byteV) → Step (fun k => k = wr.heap.size + 1) T4 ((wr.alloc (.cells #[.int .u8 kd, .int .u64 m, .int .i64 many, .slice c bs.length cp] 34)).alloc (.cells #[] 5)) w4 →
          St W.heap.size W w4 [AB oa bs.length oc bs, ABlk wr.heap.size (.cells #[.int .u8 kd, .int .u64 m, .int .i64 many, .slice c bs.length cp] 34), ARW q s, AW p s] := by
        intro w4 T4 oa oc hr hs
        simp only [Nat.zero_add, List.nil_append] at hr
        exact HA.out.new (AB oa bs.length oc bs) hr ((((Step.refl (fun _ => False) (wr.alloc (.cells #[.int .u8 kd, .int .u64 m, .int .i64 many, .slice c bs.length cp] 34))).alloc _).to (fun k hk => Or.inr (by rw [World.size_alloc]; omega))).trans hs)
      have HNEW := Lib.hid hnew
      clear hnew
      by_cases h0 : kd % 3 = 0
      · go_wp2_with (at_builtin; refine wpList_append_row rfl (.tmp 30) (.tmp 32) 27 rfl 5 i0 (.int .u8 0) 1 1 Try.underlying27 hi hz0 hz1 hz2 rfl (by decide) (.slice (some ⟨wr.heap.size + 1, 0, none⟩) 0 0) 0 [] rfl HM.out c bs.length cp (bs.map byteV) rfl HNN.out (by rw [List.length_map, Nat.mul_one]) HCW.out (byteV_one _) (by unfold maxLen; omega) (by omega) ?_; intro v' w4 T4 hr4 hs4; obtain ⟨oa, oc, rfl, -⟩ := hr4.form; have H4 := Lib.hid (HNEW.out w4 T4 oa oc hr4 hs4); clear hr4 hs4; have hbx := H4.out.block 1 rfl; have b0 := cell_of_block (i := 0) hbx rfl; have b1 := cell_of_block (i := 1) hbx rfl; have b2 := cell_of_block (i := 2) hbx rfl; have b3 := cell_of_block (i := 3) hbx rfl; clear hbx)
        refine (num_st H4.out 3 rfl m many (by have := HXL.out; omega)).mono ?_
        rintro e w5 ⟨rfl, H5⟩
        have hbx := H5.block 1 rfl
        have H5 := Lib.hid H5
        have b0 := cell_of_block (i := 0) hbx rfl
        have b1 := cell_of_block (i := 1) hbx rfl
        have b2 := cell_of_block (i := 2) hbx rfl
        have b3 := cell_of_block (i := 3) hbx rfl
        clear hbx
        go_wp2_with (fail)
        refine (refnum_st H5.out 2 rfl m many HML.out (by have := HXL.out; omega)).mono ?_
        rintro e w6 ⟨rfl, H5⟩
        obtain ⟨s', hs'⟩ : ∃ s', s' = WS.num s m many := ⟨_, rfl⟩
        rw [← hs'] at H5
        have hgr : s'.xs.length ≤ s.xs.length + bs.length + 8 := by rw [hs']; have := num_grow s m many; omega
        obtain ⟨bx, hbx0⟩ : ∃ bx, bx = wr.heap.size := ⟨_, rfl⟩
        rw [← hbx0] at H5
        have H5 := Lib.hid H5
        clear hbx0
        have HGR := Lib.hid hgr
        clear hgr hs' H4 HST HA HV
        go_wp2_with (fail)
        go_loopw [11, 69] (fun _ i wx => ∃ (j : Nat) (l : List UInt8), j ≤ bs.length ∧ i = .int .i64 j ∧ St W.heap.size W wx [AB oa bs.length oc l, ABlk bx (.cells #[.int .u8 kd, .int .u64 m, .int .i64 many, .slice c bs.length cp] 34), ARW q s', AW p s']) (fun _ i _ => bs.length - (intOf i).toNat)
        case atStart => exact ⟨0, bs, Nat.zero_le _, rfl, H5.out⟩
        case round =>
          obtain ⟨j, l, hj, rfl, hst⟩ := hrel
          by_cases hjl : j < bs.length
          · obtain ⟨g, rfl, hcell, hfz, hput⟩ := own_byte hst 0 rfl j hjl
            obtain ⟨x, hx⟩ : ∃ x, x = l.getD j 0 := ⟨_, rfl⟩
            rw [← hx] at hcell
            have hxor := xor_byte x
            have hput' := hput (x ^^^ 85)
            have HPUT := Lib.hid hput'
            clear hst hput hput' hx
            go_wp2
            go_roundw
            case rel => exact ⟨j + 1, l.set j (x ^^^ 85), by omega, by go_num, HPUT.out⟩
            case measure => simp [intOf]; omega
          · have H6 := Lib.hid hst
            clear hst
            obtain ⟨n2, hn2⟩ : ∃ n2, n2 = s'.xs.length := ⟨_, rfl⟩
            have hn2l : n2 ≤ 300000 := by have := HGR.out; have := HXL.out; omega
            have HN2 := Lib.hid hn2
            clear hn2
            go_wp2_with (fail)
            refine (out_st H6.out 3 rfl (n := n2) HN2.out.symm (by omega)).mono ?_
            rintro e w7 ⟨ob, oc2, rfl, H7⟩
            obtain ⟨oq, cq, hl0, hl2, hl3⟩ := ref_look H7 3 rfl
            rw [← HN2.out] at hl0 hl3
            have hl4 : ∀ nq, (convert 27 9 (.slice ob n2 oc2)).run Try.prog (w7.drewN nq) = .ok (.string (strB s'.xs)) (w7.drewN nq) := fun nq => conv_own (H7.drewN nq) 0 rfl
            have H7 := Lib.hid H7
            clear H6
            go_wp2_with (fail)
            go_quiet (fail)
            go_wp2_with (fail)
            go_loopw [14, 102] (fun _ i wx => ∃ (j : Nat) (l' : List UInt8), j ≤ n2 ∧ i = .int .i64 j ∧ St W.heap.size W wx [AB ob n2 oc2 l', AB oa bs.length oc l, ABlk bx (.cells #[.int .u8 kd, .int .u64 m, .int .i64 many, .slice c bs.length cp] 34), ARW q s', AW p s']) (fun _ i _ => n2 - (intOf i).toNat)
            case atStart => exact ⟨0, s'.xs, Nat.zero_le _, rfl, H7.out.drewN _⟩
            case round =>
              obtain ⟨j', l', hj', rfl, hst⟩ := hrel
              by_cases hjl' : j' < n2
              · obtain ⟨g', rfl, hcell, hfz, hput⟩ := own_byte hst 0 rfl j' hjl'
                obtain ⟨x, hx⟩ : ∃ x, x = l'.getD j' 0 := ⟨_, rfl⟩
                rw [← hx] at hcell
                have hxor := xor_byte x
                have hput' := hput (x ^^^ 85)
                have HPUT := Lib.hid hput'
                clear hst hput hput' hx
                go_wp2
                go_roundw
                case rel => exact ⟨j' + 1, l'.set j' (x ^^^ 85), by omega, by go_num, HPUT.out⟩
                case measure => simp [intOf]; omega
              · have H8 := Lib.hid hst
                clear hst
                go_wp2
                go_roundw
                case rel => exact ⟨k + 1, s', by omega, by go_num, by have := HSUCC.out; have := HSL.out; have := HGR.out; omega, H8.out.drop 3⟩
                case measure => simp [intOf]; omega
      · have h0' : (kd % 3 == 0) = false := by simp [h0]
        by_cases h1 : kd % 3 = 1
        · go_wp2_with (at_builtin; refine wpList_append_row rfl (.tmp 30) (.tmp 32) 27 rfl 5 i0 (.int .u8 0) 1 1 Try.underlying27 hi hz0 hz1 hz2 rfl (by decide) (.slice (some ⟨wr.heap.size + 1, 0, none⟩) 0 0) 0 [] rfl HM.out c bs.length cp (bs.map byteV) rfl HNN.out (by rw [List.length_map, Nat.mul_one]) HCW.out (byteV_one _) (by unfold maxLen; omega) (by omega) ?_; intro v' w4 T4 hr4 hs4; obtain ⟨oa, oc, rfl, -⟩ := hr4.form; have H4 := Lib.hid (HNEW.out w4 T4 oa oc hr4 hs4); clear hr4 hs4; have hbx := H4.out.block 1 rfl; have b0 := cell_of_block (i := 0) hbx rfl; have b1 := cell_of_block (i := 1) hbx rfl; have b2 := cell_of_block (i := 2) hbx rfl; have b3 := cell_of_block (i := 3) hbx rfl; clear hbx)
          refine (raw_own H4.out 3 0 (by decide) rfl rfl (by omega) (by have := HXL.out; omega)).mono ?_
          rintro e w5 ⟨rfl, H5⟩
          have hbx := H5.block 1 rfl
          have H5 := Lib.hid H5
          have b0 := cell_of_block (i := 0) hbx rfl
          have b1 := cell_of_block (i := 1) hbx rfl
          have b2 := cell_of_block (i := 2) hbx rfl
          have b3 := cell_of_block (i := 3) hbx rfl
          clear hbx
          go_wp2_with (fail)
          refine (refraw_st H5.out 2 rfl cp (HV.out.same (Below.both HST.out.below H5.out.below)) HCN.out (by omega) (by have := HXL.out; omega)).mono ?_
          rintro e w6 ⟨rfl, H5⟩
          obtain ⟨s', hs'⟩ : ∃ s', s' = WS.lay s bs := ⟨_, rfl⟩
          rw [← hs'] at H5
          have hgr : s'.xs.length ≤ s.xs.length + bs.length + 8 := by rw [hs']; have := lay_grow s bs; omega
          obtain ⟨bx, hbx0⟩ : ∃ bx, bx = wr.heap.size := ⟨_, rfl⟩
          rw [← hbx0] at H5
          have H5 := Lib.hid H5
          clear hbx0
          have HGR := Lib.hid hgr
          clear hgr hs' H4 HST HA HV
          go_wp2_with (fail)
          go_loopw [11, 69] (fun _ i wx => ∃ (j : Nat) (l : List UInt8), j ≤ bs.length ∧ i = .int .i64 j ∧ St W.heap.size W wx [AB oa bs.length oc l, ABlk bx (.cells #[.int .u8 kd, .int .u64 m, .int .i64 many, .slice c bs.length cp] 34), ARW q s', AW p s']) (fun _ i _ => bs.length - (intOf i).toNat)
          case atStart => exact ⟨0, bs, Nat.zero_le _, rfl, H5.out⟩
          case round =>
            obtain ⟨j, l, hj, rfl, hst⟩ := hrel
            by_cases hjl : j < bs.length
            · obtain ⟨g, rfl, hcell, hfz, hput⟩ := own_byte hst 0 rfl j hjl
              obtain ⟨x, hx⟩ : ∃ x, x = l.getD j 0 := ⟨_, rfl⟩
              rw [← hx] at hcell
              have hxor := xor_byte x
              have hput' := hput (x ^^^ 85)
              have HPUT := Lib.hid hput'
              clear hst hput hput' hx
              go_wp2
              go_roundw
              case rel => exact ⟨j + 1, l.set j (x ^^^ 85), by omega, by go_num, HPUT.out⟩
              case measure => simp [intOf]; omega
            · have H6 := Lib.hid hst
              clear hst
              obtain ⟨n2, hn2⟩ : ∃ n2, n2 = s'.xs.length := ⟨_, rfl⟩
              have hn2l : n2 ≤ 300000 := by have := HGR.out; have := HXL.out; omega
              have HN2 := Lib.hid hn2
              clear hn2
              go_wp2_with (fail)
              refine (out_st H6.out 3 rfl (n := n2) HN2.out.symm (by omega)).mono ?_
              rintro e w7 ⟨ob, oc2, rfl, H7⟩
              obtain ⟨oq, cq, hl0, hl2, hl3⟩ := ref_look H7 3 rfl
              rw [← HN2.out] at hl0 hl3
              have hl4 : ∀ nq, (convert 27 9 (.slice ob n2 oc2)).run Try.prog (w7.drewN nq) = .ok (.string (strB s'.xs)) (w7.drewN nq) := fun nq => conv_own (H7.drewN nq) 0 rfl
              have H7 := Lib.hid H7
              clear H6
              go_wp2_with (fail)
              go_quiet (fail)
              go_wp2_with (fail)
              go_loopw [14, 102] (fun _ i wx => ∃ (j : Nat) (l' : List UInt8), j ≤ n2 ∧ i = .int .i64 j ∧ St W.heap.size W wx [AB ob n2 oc2 l', AB oa bs.length oc l, ABlk bx (.cells #[.int .u8 kd, .int .u64 m, .int .i64 many, .slice c bs.length cp] 34), ARW q s', AW p s']) (fun _ i _ => n2 - (intOf i).toNat)
              case atStart => exact ⟨0, s'.xs, Nat.zero_le _, rfl, H7.out.drewN _⟩
              case round =>
                obtain ⟨j', l', hj', rfl, hst⟩ := hrel
                by_cases hjl' : j' < n2
                · obtain ⟨g', rfl, hcell, hfz, hput⟩ := own_byte hst 0 rfl j' hjl'
                  obtain ⟨x, hx⟩ : ∃ x, x = l'.getD j' 0 := ⟨_, rfl⟩
                  rw [← hx] at hcell
                  have hxor := xor_byte x
                  have hput' := hput (x ^^^ 85)
                  have HPUT := Lib.hid hput'
                  clear hst hput hput' hx
                  go_wp2
                  go_roundw
                  case rel => exact ⟨j' + 1, l'.set j' (x ^^^ 85), by omega, by go_num, HPUT.out⟩
                  case measure => simp [intOf]; omega
                · have H8 := Lib.hid hst
                  clear hst
                  go_wp2
                  go_roundw
                  case rel => exact ⟨k + 1, s', by omega, by go_num, by have := HSUCC.out; have := HSL.out; have := HGR.out; omega, H8.out.drop 3⟩
                  case measure => simp [intOf]; omega
        · have h1' : (kd % 3 == 1) = false := by simp [h1]
          go_wp2_with (at_builtin; refine wpList_append_row rfl (.tmp 30) (.tmp 32) 27 rfl 5 i0 (.int .u8 0) 1 1 Try.underlying27 hi hz0 hz1 hz2 rfl (by decide) (.slice (some ⟨wr.heap.size + 1, 0, none⟩) 0 0) 0 [] rfl HM.out c bs.length cp (bs.map byteV) rfl HNN.out (by rw [List.length_map, Nat.mul_one]) HCW.out (byteV_one _) (by unfold maxLen; omega) (by omega) ?_; intro v' w4 T4 hr4 hs4; obtain ⟨oa, oc, rfl, -⟩ := hr4.form; have H4 := Lib.hid (HNEW.out w4 T4 oa oc hr4 hs4); clear hr4 hs4; have hbx := H4.out.block 1 rfl; have b0 := cell_of_block (i := 0) hbx rfl; have b1 := cell_of_block (i := 1) hbx rfl; have b2 := cell_of_block (i := 2) hbx rfl; have b3 := cell_of_block (i := 3) hbx rfl; clear hbx)
          refine (blob_own H4.out 3 0 (by decide) rfl rfl (by omega) (by have := HXL.out; omega)).mono ?_
          rintro e w5 ⟨rfl, H5⟩
          have hbx := H5.block 1 rfl
          have H5 := Lib.hid H5
          have b0 := cell_of_block (i := 0) hbx rfl
          have b1 := cell_of_block (i := 1) hbx rfl
          have b2 := cell_of_block (i := 2) hbx rfl
          have b3 := cell_of_block (i := 3) hbx rfl
          clear hbx
          go_wp2_with (fail)
          refine (refblob_st H5.out 2 rfl cp (HV.out.same (Below.both HST.out.below H5.out.below)) HCN.out (by omega) (by have := HXL.out; omega)).mono ?_
          rintro e w6 ⟨rfl, H5⟩
          obtain ⟨s', hs'⟩ : ∃ s', s' = WS.blob s bs := ⟨_, rfl⟩
          rw [← hs'] at H5
          have hgr : s'.xs.length ≤ s.xs.length + bs.length + 8 := by rw [hs']; have := blob_grow s bs; omega
          obtain ⟨bx, hbx0⟩ : ∃ bx, bx = wr.heap.size := ⟨_, rfl⟩
          rw [← hbx0] at H5
          have H5 := Lib.hid H5
          clear hbx0
          have HGR := Lib.hid hgr
          clear hgr hs' H4 HST HA HV
          go_wp2_with (fail)
          go_loopw [11, 69] (fun _ i wx => ∃ (j : Nat) (l : List UInt8), j ≤ bs.length ∧ i = .int .i64 j ∧ St W.heap.size W wx [AB oa bs.length oc l, ABlk bx (.cells #[.int .u8 kd, .int .u64 m, .int .i64 many, .slice c bs.length cp] 34), ARW q s', AW p s']) (fun _ i _ => bs.length - (intOf i).toNat)
          case atStart => exact ⟨0, bs, Nat.zero_le _, rfl, H5.out⟩
          case round =>
            obtain ⟨j, l, hj, rfl, hst⟩ := hrel
            by_cases hjl : j < bs.length
            · obtain ⟨g, rfl, hcell, hfz, hput⟩ := own_byte hst 0 rfl j hjl
              obtain ⟨x, hx⟩ : ∃ x, x = l.getD j 0 := ⟨_, rfl⟩
              rw [← hx] at hcell
              have hxor := xor_byte x
              have hput' := hput (x ^^^ 85)
              have HPUT := Lib.hid hput'
              clear hst hput hput' hx
              go_wp2
              go_roundw
              case rel => exact ⟨j + 1, l.set j (x ^^^ 85), by omega, by go_num, HPUT.out⟩
              case measure => simp [intOf]; omega
            · have H6 := Lib.hid hst
              clear hst
              obtain ⟨n2, hn2⟩ : ∃ n2, n2 = s'.xs.length := ⟨_, rfl⟩
              have hn2l : n2 ≤ 300000 := by have := HGR.out; have := HXL.out; omega
              have HN2 := Lib.hid hn2
              clear hn2
              go_wp2_with (fail)
              refine (out_st H6.out 3 rfl (n := n2) HN2.out.symm (by omega)).mono ?_
              rintro e w7 ⟨ob, oc2, rfl, H7⟩
              obtain ⟨oq, cq, hl0, hl2, hl3⟩ := ref_look H7 3 rfl
              rw [← HN2.out] at hl0 hl3
              have hl4 : ∀ nq, (convert 27 9 (.slice ob n2 oc2)).run Try.prog (w7.drewN nq) = .ok (.string (strB s'.xs)) (w7.drewN nq) := fun nq => conv_own (H7.drewN nq) 0 rfl
              have H7 := Lib.hid H7
              clear H6
              go_wp2_with (fail)
              go_quiet (fail)
              go_wp2_with (fail)
              go_loopw [14, 102] (fun _ i wx => ∃ (j : Nat) (l' : List UInt8), j ≤ n2 ∧ i = .int .i64 j ∧ St W.heap.size W wx [AB ob n2 oc2 l', AB oa bs.length oc l, ABlk bx (.cells #[.int .u8 kd, .int .u64 m, .int .i64 many, .slice c bs.length cp] 34), ARW q s', AW p s']) (fun _ i _ => n2 - (intOf i).toNat)
              case atStart => exact ⟨0, s'.xs, Nat.zero_le _, rfl, H7.out.drewN _⟩
              case round =>
                obtain ⟨j', l', hj', rfl, hst⟩ := hrel
                by_cases hjl' : j' < n2
                · obtain ⟨g', rfl, hcell, hfz, hput⟩ := own_byte hst 0 rfl j' hjl'
                  obtain ⟨x, hx⟩ : ∃ x, x = l'.getD j' 0 := ⟨_, rfl⟩
                  rw [← hx] at hcell
                  have hxor := xor_byte x
                  have hput' := hput (x ^^^ 85)
                  have HPUT := Lib.hid hput'
                  clear hst hput hput' hx
                  go_wp2
                  go_roundw
                  case rel => exact ⟨j' + 1, l'.set j' (x ^^^ 85), by omega, by go_num, HPUT.out⟩
                  case measure => simp [intOf]; omega
                · have H8 := Lib.hid hst
                  clear hst
                  go_wp2
                  go_roundw
                  case rel => exact ⟨k + 1, s', by omega, by go_num, by have := HSUCC.out; have := HSL.out; have := HGR.out; omega, H8.out.drop 3⟩
                  case measure => simp [intOf]; omega
    · go_wp2_with (fail)
      go_ret
      exact ⟨rfl, HST.out.below⟩

end Cod
end Go.Proofs.Ytjnldgijnpgckaa
