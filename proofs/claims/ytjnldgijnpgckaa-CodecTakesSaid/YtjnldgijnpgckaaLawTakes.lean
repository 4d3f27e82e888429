/- CodecTakes: the walk. -/
import Derived.Test.YtjnldgijnpgckaaRef1U
import Derived.Test.YtjnldgijnpgckaaRef1S
namespace Go.Proofs.Ytjnldgijnpgckaa
open Go.RowKit Go.Own
namespace Cod

/-- a byte turned -/
theorem xor_byte (c : UInt8) : bits .xor .u8 (c.toNat : Int) 85 = (((c ^^^ 85 : UInt8)).toNat : Int) := by
  have h := u8_xor_nat c.toNat 85 c.toNat_lt (by decide)
  rw [UInt8.toNat_xor]
  exact h

structure TakeD where
  kind : Int
  n : Int

def inTake : InT TakeD := fun p _ _ cs => cs = [.int .u8 p.kind, .int .i64 p.n] ∧ (0 ≤ p.kind ∧ p.kind ≤ 255) ∧ (-9223372036854775808 ≤ p.n ∧ p.n ≤ 9223372036854775807)

theorem stable_take : Stable inTake := fun _ _ _ _ _ h _ => h

theorem opens_take : Opens Try.prog 47 inTake := by
  intro H enc w fuel cs x h
  obtain ⟨hl, hf⟩ := opens_fields (P := Try.prog) Try.underlying47 h
  rw [show Try.prog.cellsOf 47 = 2 by kernel_rfl] at hl
  match cs, hl with
  | [c0, c1], _ =>
    obtain ⟨n0, y0, h0⟩ := hf 0 _ rfl
    obtain ⟨n1, y1, h1⟩ := hf 1 _ rfl
    obtain ⟨a0, e0, w0⟩ := opens_int (P := Try.prog) Try.underlying5 H enc w n0 _ y0 h0
    obtain ⟨a1, e1, w1⟩ := opens_int (P := Try.prog) Try.underlying3 H enc w n1 _ y1 h1
    have k0 : Try.prog.cellsOf 5 = 1 := by kernel_rfl
    have k1 : Try.prog.cellsOf 3 = 1 := by kernel_rfl
    have e0' : c0 = .int .u8 a0 := by simpa [k0] using e0
    have e1' : c1 = .int .i64 a1 := by simpa [k1] using e1
    subst e0' e1'
    exact ⟨⟨a0, a1⟩, rfl, by simpa [Lit.wf, IntKind.min, IntKind.max, IntKind.signed, IntKind.bits] using w0, by simpa [Lit.wf, IntKind.min, IntKind.max, IntKind.signed, IntKind.bits] using w1⟩

theorem take_cells {ps : List TakeD} {B : Nat} {w : World} {ao : Option Addr} {n cap : Nat} (h : inSlice 2 inTake ps B w [.slice ao n cap]) :
    n = ps.length ∧ n ≤ cap ∧ cap ≤ maxLen ∧ (ps ≠ [] → ∃ b o, ao = some ⟨b, o, none⟩ ∧ b < B ∧ b < w.heap.size ∧ ∀ k (hk : k < ps.length),
      w.cell? ⟨b, o + k * 2, none⟩ = some (.int .u8 ps[k].kind) ∧ w.cell? ⟨b, o + k * 2 + 1, none⟩ = some (.int .i64 ps[k].n) ∧ (0 ≤ ps[k].kind ∧ ps[k].kind ≤ 255) ∧ (-9223372036854775808 ≤ ps[k].n ∧ ps[k].n ≤ 9223372036854775807)) := by
  obtain ⟨ao', cap', h1, h2, h3, h4, h5⟩ := h
  simp only [List.cons.injEq, Value.slice.injEq, and_true] at h1
  obtain ⟨rfl, rfl, rfl⟩ := h1
  refine ⟨rfl, h2, h3, fun hne => ?_⟩
  rcases h5 with rfl | ⟨b, o, e, hb, hs, hc⟩
  · exact absurd rfl hne
  · refine ⟨b, o, e, hb, hs, fun k hk => ?_⟩
    obtain ⟨cs', g1, g2, rfl, g3, g4⟩ := hc k hk
    exact ⟨g2 0 (by decide), g2 1 (by decide), g3, g4⟩

theorem conv_view {w : World} {D : Nat → Prop} {ao : Option Addr} {l : List UInt8} {m : Nat} (cap : Nat) (h : View w D ao l) (hm : l.length = m) : (convert 27 9 (.slice ao m cap)).run Try.prog w = .ok (.string (strB l)) w := by
  subst hm
  exact run_str (P := Try.prog) 27 5 9 Try.underlying27 Try.underlying5 Try.underlying9 h cap

theorem rs_len (r : RS) (n : Int) : (r.num n).2.l.length ≤ r.l.length ∧ (r.raw n).2.l.length ≤ r.l.length ∧ (r.blob n).2.l.length ≤ r.l.length := by
  refine ⟨?_, ?_, ?_⟩
  · unfold RS.num
    split
    · exact Nat.le_refl _
    · split
      · exact Nat.le_refl _
      · split
        · exact Nat.le_refl _
        · simp
  · unfold RS.raw
    split
    · exact Nat.le_refl _
    · split
      · exact Nat.le_refl _
      · split
        · exact Nat.le_refl _
        · simp
  · unfold RS.blob
    split
    · exact Nat.le_refl _
    · split
      · exact Nat.le_refl _
      · simp

set_option maxRecDepth 100000 in
set_option maxHeartbeats 8000000 in
theorem walk_takes (ao : Option Addr) (len cap : Nat) (bs : List UInt8) {W : World} (hbs : inBytes bs W.heap.size W [.slice ao len cap]) (ao2 : Option Addr) (len2 cap2 : Nat) (ps : List TakeD) (h : inSlice 2 inTake ps W.heap.size W [.slice ao2 len2 cap2]) :
    Calls Try.prog 4 #[.slice ao len cap, .slice ao2 len2 cap2] W (RetTrue W) := by
  obtain ⟨i0, hi, hz0, hz1, hz2⟩ := info_parts Try.infoU8
  obtain ⟨ao', cap', hq, g1, g2, g3, g4⟩ := hbs
  simp only [List.cons.injEq, Value.slice.injEq, and_true] at hq
  obtain ⟨rfl, rfl, rfl⟩ := hq
  obtain ⟨rfl, n1, n2, -⟩ := take_cells h
  have hcells : ∀ w, Below W.heap.size W w → ∀ k (hk : k < ps.length), _ := fun w hb k hk => (take_cells (stable_slice stable_take _ _ _ _ _ h hb)).2.2.2 (by rintro rfl; simp at hk)
  have HC := Lib.hid hcells
  unfold maxLen at g2 n2
  have HV := Lib.hid g4
  have HB := Lib.hid g3
  have hcapm := Lib.hid g2
  obtain ⟨len, hlen⟩ : ∃ len, len = bs.length := ⟨_, rfl⟩
  obtain ⟨N, hN⟩ : ∃ N, N = ps.length := ⟨_, rfl⟩
  rw [← hlen, ← hN]
  rw [← hlen] at g1
  rw [← hN] at n1
  have HL := Lib.hid hlen
  have HN := Lib.hid hN
  clear h hcells g3 g4 hlen hN
  by_cases hbig : 100000 < len
  · have hbig' : (100000 : Int) < len := by omega
    go_enter Try.func4, Try.ntmps4
    go_wp2_with (fail)
    refine (shown_any W).mono ?_
    rintro e w1 ⟨rfl, hb⟩
    have HBL := Lib.hid hb
    clear hb
    go_wp2_with (fail)
    go_ret
    exact ⟨rfl, HBL.out⟩
  · have hsm : len ≤ 100000 := by omega
    go_enter Try.func4, Try.ntmps4
    go_wp2_with (fail)
    refine (shown_any W).mono ?_
    rintro e w1 ⟨rfl, hb⟩
    have H0 : Hid (St W.heap.size W w1 []) := ⟨hb, hb.size, fun _ => False, fun _ h => h, fun _ h => h.elim⟩
    have hcw : ∀ a, ao = some a → ∀ j u, (bs.map byteV)[j]? = some u → (w1.alloc (.cells #[] 5)).cell? (a.add j) = some u :=
      fun a ha j u hu => cell_alloc (view_cells (HV.out.below hb) a ha j u hu) _
    have hnn : ao = none → len = 0 ∧ cap = 0 := by
      intro h
      refine ⟨?_, HB.out h⟩
      rcases HV.out with h' | ⟨b', o', h', _⟩
      · rw [HL.out, h']; rfl
      · rw [h] at h'; cases h'
    have HCW := Lib.hid hcw
    have HNN := Lib.hid hnn
    have hnew : ∀ w4 T4 oa oc, Row w4 5 1 T4 (.slice oa (0 + len) oc) (0 + len) ([] ++ bs.map byteV) → Step (fun k => k = w1.heap.size) T4 (w1.alloc (.cells #[] 5)) w4 →
        St W.heap.size W w4 [AB oa len oc bs] := by
      intro w4 T4 oa oc hr hs
      simp only [Nat.zero_add, List.nil_append] at hr
      exact H0.out.new (AB oa len oc bs) hr ((((Step.refl (fun _ => False) w1).alloc _).to (fun k hk => Or.inr (by rw [hk]; exact Nat.le_refl _))).trans hs)
    have HNEW := Lib.hid hnew
    clear hb hcw hnn hnew
    go_wp2_with (at_builtin; refine wpList_append_row rfl (.tmp 18) (.tmp 19) 27 rfl 5 i0 (.int .u8 0) 1 1 Try.underlying27 hi hz0 hz1 hz2 rfl (by decide) (.slice (some ⟨w1.heap.size, 0, none⟩) 0 0) 0 [] rfl (Row.made w1 #[] 5 1 0 (Nat.zero_le _) rfl) ao len cap (bs.map byteV) rfl HNN.out (by rw [List.length_map, Nat.mul_one]; exact HL.out.symm) HCW.out (byteV_one _) (by unfold maxLen; omega) (by omega) ?_; intro v' w4 T4 hr4 hs4; obtain ⟨oa, oc, rfl, -⟩ := hr4.form; have H4 := Lib.hid (HNEW.out w4 T4 oa oc hr4 hs4); clear hr4 hs4)
    refine (newReader_st H4.out 0 rfl (by omega)).mono ?_
    rintro e w5 ⟨r, rfl, H5⟩
    have H5 := Lib.hid H5
    clear H4 HNEW HCW H0
    go_wp2_with (fail)
    go_loopw [8, 27] (fun _ i wx => ∃ (j : Nat) (l : List UInt8), j ≤ len ∧ i = .int .i64 j ∧ St W.heap.size W wx [AR r ⟨bs, 0⟩, AB oa len oc l]) (fun _ i _ => len - (intOf i).toNat)
    case atStart => exact ⟨0, bs, Nat.zero_le _, rfl, H5.out⟩
    case round =>
      obtain ⟨j, l, hj, rfl, hst⟩ := hrel
      by_cases hjl : j < len
      · obtain ⟨g, rfl, hcell, hfz, hput⟩ := own_byte hst 1 rfl j hjl
        obtain ⟨x, hx⟩ : ∃ x, x = l.getD j 0 := ⟨_, rfl⟩
        rw [← hx] at hcell
        have hxor := xor_byte x
        have hput' := hput (x ^^^ 85)
        have HPUT := Lib.hid hput'
        clear hst hput hput' hx
        go_wp2
        go_roundw
        case rel => exact ⟨j + 1, l.set j (x ^^^ 85), by omega, by go_num, HPUT.out⟩
        case measure => simp [intOf]; omega
      · obtain ⟨q, hq⟩ : ∃ q, q = wr.heap.size := ⟨_, rfl⟩
        have H6 : Hid (St W.heap.size W (wr.alloc (.cells #[.slice ao len cap, .int .i64 0, .int .i64 0] 45)) [ARR q ao cap bs 0 0, AR r ⟨bs, 0⟩, AB oa len oc l]) := by
          have e : ARR q ao cap bs 0 0 = ABlk q (.cells #[.slice ao len cap, .int .i64 0, .int .i64 0] 45) := by unfold ARR; rw [← HL.out]; rfl
          show St _ _ _ _
          rw [e]
          have := hst.box (.cells #[.slice ao len cap, .int .i64 0, .int .i64 0] 45)
          rw [← hq] at this
          exact this
        have HQ := Lib.hid hq
        clear hst hq
        go_wp2_with (fail)
        rw [← HQ.out]
        go_loopw [42] (fun i wx => ∃ (k : Nat) (rs : RS) (i1 : Nat) (e1 : Int) (l : List UInt8), k ≤ N ∧ k ≤ 500 ∧ i = .int .i64 k ∧ At bs rs i1 e1 ∧ rs.l.length ≤ len ∧ St W.heap.size W wx [ARR q ao cap bs i1 e1, AR r rs, AB oa len oc l]) (fun i _ => N - (intOf i).toNat)
        case atStart => exact ⟨0, ⟨bs, 0⟩, 0, 0, l, Nat.zero_le _, Nat.zero_le _, rfl, ⟨by simp, rfl, Nat.zero_le _⟩, by rw [HL.out]; exact Nat.le_refl _, H6.out⟩
        case round =>
          obtain ⟨k, rs, i1, e1, l, hk, hk5, rfl, hat, hrl, hst⟩ := hrel
          have HST := Lib.hid hst
          have HAT := Lib.hid hat
          have HRL := Lib.hid hrl
          clear hst hat hrl H6
          by_cases hlt : k < N
          · have hkl : k < ps.length := by rw [← HN.out]; exact hlt
            obtain ⟨b, o, rfl, hbB, hbw, hc⟩ := HC.out wr HST.out.below k hkl
            obtain ⟨c0, c1, q0, q1⟩ := hc k hkl
            obtain ⟨pk, hpk⟩ : ∃ pk, pk = ps[k] := ⟨_, rfl⟩
            rw [← hpk] at c0 c1 q0 q1
            obtain ⟨kd, n⟩ := pk
            simp only at c0 c1 q0 q1
            have HA := Lib.hid (HST.out.box (.cells #[.int .u8 kd, .int .i64 n] 47))
            have hin : ∀ {wx : World}, Below W.heap.size W wx → RefIn W.heap.size wx ao cap bs := fun hb => ⟨HV.out.below hb, by rw [← HL.out]; exact g1, by rw [← HL.out]; omega, hcapm.out, HB.out⟩
            have HIN : Hid (∀ {wx : World}, Below W.heap.size W wx → RefIn W.heap.size wx ao cap bs) := hin
            clear hc hpk hin
            by_cases h500 : 500 ≤ k
            · go_wp2
              go_ret
              exact ⟨rfl, HA.out.below⟩
            · by_cases h0 : kd % 3 = 0
              · go_wp2_with (fail)
                go_region_law (first | (go_simp; go_at_call 20; refine (rnum_st (HA.out.drew) 2 rfl n rfl (by have := HRL.out; omega)).mono ?_; rintro e w6 ⟨rfl, H6⟩; have hb6 := H6.block 0 rfl; have H6 := Lib.hid H6; have hc6 := cell_of_block (i := 1) hb6 rfl; clear hb6) | (go_simp; go_at_call 21; refine (refnum_r H6.out 1 rfl (HIN.out H6.out.below) HAT.out n rfl (by simp)).mono ?_; rintro e w7 ⟨i2, e2, rfl, hat2, H7⟩))
                all_goals
                  obtain ⟨x2, hx2⟩ : ∃ x2, x2 = (RS.num rs n).2 := ⟨_, rfl⟩
                  have hxl : x2.l.length ≤ len := by rw [hx2]; have := rs_len rs n; have := HRL.out; omega
                  rw [← hx2] at hat2 H7
                  have hleft : x2.l.length = len - i2 := by have := hat2.1; rw [← this, List.length_drop, HL.out]
                  have hi2 : i2 ≤ len := by have := hat2.2.2; rw [HL.out]; exact this
                  have hb7 := H7.block 1 rfl
                  have d1 := cell_of_block (i := 1) hb7 rfl
                  have HAT2 := Lib.hid hat2
                  have H7 := Lib.hid H7
                  have HXL := Lib.hid hxl
                  have hsub : IntKind.i64.wrap ((len : Int) - (i2 : Int)) = (len : Int) - (i2 : Int) := IntWalk.i64_in _ (by omega)
                  have hne : ((x2.l.length : Int) != (len : Int) - (i2 : Int)) = false := by rw [hleft, show ((len - i2 : Nat) : Int) = (len : Int) - (i2 : Int) by omega]; simp
                  clear hb7 hx2 hat2 hxl hleft H6 HAT
                  go_simp
                  go_wp2
                  go_quiet (first | (go_at_call 26; exact Calls.quiet_of_same ((left_st (H7.out.drewN _) 2 rfl).mono fun _ _ h => ⟨h.1, h.2.symm⟩)) | (go_at_call 27; exact Calls.quiet_of_same ((end_st (H7.out.drewN _) 2 rfl).mono fun _ _ h => ⟨h.1, h.2.symm⟩)) | (go_at_call 28; exact Calls.quiet_of (refend_st (H7.out.drewN _) 1 rfl HAT2.out (by have := HL.out; omega))))
                  go_wp2
                  go_roundw
                  case rel => exact ⟨k + 1, x2, i2, e2, l, by omega, by omega, by go_num, HAT2.out, HXL.out, (H7.out.drop 1).drewN _⟩
                  case measure => simp [intOf]; omega
              · have h0' : (kd % 3 == 0) = false := by simp [h0]
                by_cases h1 : kd % 3 = 1
                · obtain ⟨m1, hm1⟩ : ∃ m1, (RS.raw rs n).1.length = m1 := ⟨_, rfl⟩
                  have HM1 := Lib.hid hm1
                  clear hm1
                  go_wp2_with (fail)
                  go_region_law (first | (go_simp; go_at_call 22; refine (rraw_st (HA.out.drew) 2 rfl n rfl HM1.out (by have := HRL.out; omega)).mono ?_; rintro e w6 ⟨a6, c6, rfl, H6⟩; have hb6 := H6.block 1 rfl; have H6 := Lib.hid H6; have hc6 := cell_of_block (i := 1) hb6 rfl; have hs6 := conv_own H6.out 0 rfl; clear hb6) | (go_simp; go_at_call 23; refine (refraw_r H6.out 2 rfl (HIN.out H6.out.below) HAT.out n rfl HM1.out).mono ?_; rintro e w7 ⟨a7, c7, i2, e2, rfl, hv7, hat2, H7⟩; have hs7 := conv_own H7 0 rfl; have hs8 := conv_view c7 hv7 HM1.out))
                  all_goals
                    obtain ⟨x2, hx2⟩ : ∃ x2, x2 = (RS.raw rs n).2 := ⟨_, rfl⟩
                    have hxl : x2.l.length ≤ len := by rw [hx2]; have := rs_len rs n; have := HRL.out; omega
                    rw [← hx2] at hat2 H7
                    have hleft : x2.l.length = len - i2 := by have := hat2.1; rw [← this, List.length_drop, HL.out]
                    have hi2 : i2 ≤ len := by have := hat2.2.2; rw [HL.out]; exact this
                    have hb7 := H7.block 2 rfl
                    have d1 := cell_of_block (i := 1) hb7 rfl
                    have HAT2 := Lib.hid hat2
                    have H7 := Lib.hid H7
                    have HXL := Lib.hid hxl
                    have hsub : IntKind.i64.wrap ((len : Int) - (i2 : Int)) = (len : Int) - (i2 : Int) := IntWalk.i64_in _ (by omega)
                    have hne : ((x2.l.length : Int) != (len : Int) - (i2 : Int)) = false := by rw [hleft, show ((len - i2 : Nat) : Int) = (len : Int) - (i2 : Int) by omega]; simp
                    clear hb7 hx2 hat2 hxl hleft H6 HAT
                    go_simp
                    go_wp2
                    go_quiet (first | (go_at_call 26; exact Calls.quiet_of_same ((left_st (H7.out.drewN _) 3 rfl).mono fun _ _ h => ⟨h.1, h.2.symm⟩)) | (go_at_call 27; exact Calls.quiet_of_same ((end_st (H7.out.drewN _) 3 rfl).mono fun _ _ h => ⟨h.1, h.2.symm⟩)) | (go_at_call 28; exact Calls.quiet_of (refend_st (H7.out.drewN _) 2 rfl HAT2.out (by have := HL.out; omega))))
                    go_wp2
                    go_roundw
                    case rel => exact ⟨k + 1, x2, i2, e2, l, by omega, by omega, by go_num, HAT2.out, HXL.out, (H7.out.drop 2).drewN _⟩
                    case measure => simp [intOf]; omega
                · have h1' : (kd % 3 == 1) = false := by simp [h1]
                  obtain ⟨m1, hm1⟩ : ∃ m1, (RS.blob rs n).1.length = m1 := ⟨_, rfl⟩
                  have HM1 := Lib.hid hm1
                  clear hm1
                  go_wp2_with (fail)
                  go_region_law (first | (go_simp; go_at_call 24; refine (rblob_st (HA.out.drew) 2 rfl n (by omega) rfl HM1.out (by have := HRL.out; omega)).mono ?_; rintro e w6 ⟨a6, c6, rfl, H6⟩; have hb6 := H6.block 1 rfl; have H6 := Lib.hid H6; have hc6 := cell_of_block (i := 1) hb6 rfl; have hs6 := conv_own H6.out 0 rfl; clear hb6) | (go_simp; go_at_call 25; refine (refblob_r H6.out 2 rfl (HIN.out H6.out.below) HAT.out n (by omega) rfl HM1.out).mono ?_; rintro e w7 ⟨a7, c7, i2, e2, rfl, hv7, hat2, H7⟩; have hs7 := conv_own H7 0 rfl; have hs8 := conv_view c7 hv7 HM1.out))
                  all_goals
                    obtain ⟨x2, hx2⟩ : ∃ x2, x2 = (RS.blob rs n).2 := ⟨_, rfl⟩
                    have hxl : x2.l.length ≤ len := by rw [hx2]; have := rs_len rs n; have := HRL.out; omega
                    rw [← hx2] at hat2 H7
                    have hleft : x2.l.length = len - i2 := by have := hat2.1; rw [← this, List.length_drop, HL.out]
                    have hi2 : i2 ≤ len := by have := hat2.2.2; rw [HL.out]; exact this
                    have hb7 := H7.block 2 rfl
                    have d1 := cell_of_block (i := 1) hb7 rfl
                    have HAT2 := Lib.hid hat2
                    have H7 := Lib.hid H7
                    have HXL := Lib.hid hxl
                    have hsub : IntKind.i64.wrap ((len : Int) - (i2 : Int)) = (len : Int) - (i2 : Int) := IntWalk.i64_in _ (by omega)
                    have hne : ((x2.l.length : Int) != (len : Int) - (i2 : Int)) = false := by rw [hleft, show ((len - i2 : Nat) : Int) = (len : Int) - (i2 : Int) by omega]; simp
                    clear hb7 hx2 hat2 hxl hleft H6 HAT
                    go_simp
                    go_wp2
                    go_quiet (first | (go_at_call 26; exact Calls.quiet_of_same ((left_st (H7.out.drewN _) 3 rfl).mono fun _ _ h => ⟨h.1, h.2.symm⟩)) | (go_at_call 27; exact Calls.quiet_of_same ((end_st (H7.out.drewN _) 3 rfl).mono fun _ _ h => ⟨h.1, h.2.symm⟩)) | (go_at_call 28; exact Calls.quiet_of (refend_st (H7.out.drewN _) 2 rfl HAT2.out (by have := HL.out; omega))))
                    go_wp2
                    go_roundw
                    case rel => exact ⟨k + 1, x2, i2, e2, l, by omega, by omega, by go_num, HAT2.out, HXL.out, (H7.out.drop 2).drewN _⟩
                    case measure => simp [intOf]; omega
          · go_wp2
            go_ret
            exact ⟨rfl, HST.out.below⟩

end Cod
end Go.Proofs.Ytjnldgijnpgckaa
