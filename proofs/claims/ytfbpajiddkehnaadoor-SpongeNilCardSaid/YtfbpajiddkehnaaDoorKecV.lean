/- The landed round and permutation: what they keep. -/
import Derived.Test.YtfbpajiddkehnaaDoorKecU
import Derived.Test.YtfbpajiddkehnaaDoorKecP
namespace Go.Proofs.YtfbpajiddkehnaaDoor
open Go.RowKit Go.Own
namespace Kec
open Go.KecM

set_option maxHeartbeats 4000000 in
theorem roundK_any (s : KecM.St) (hs : s.length = 25) (round : Int) (h0 : -9223372036854775808 ≤ round) (h1 : round ≤ 9223372036854775807) (w : World) (TB : Tab w) :
    Calls Tryd.prog 20 #[.agg (s.map u64V).toArray, .int .i64 round] w fun e w' => e = .returned (.agg ((roundM (markOf round) s).map u64V).toArray) ∧ Below w.heap.size w w' := by
  have TAB := Lib.hid TB
  have HSL := Lib.hid hs
  obtain ⟨s1, hs1⟩ : ∃ t, t = theta s := ⟨_, rfl⟩
  obtain ⟨s2, hs2⟩ : ∃ t, t = rho s1 := ⟨_, rfl⟩
  obtain ⟨s3, hs3⟩ : ∃ t, t = pim s2 := ⟨_, rfl⟩
  obtain ⟨s4, hs4⟩ : ∃ t, t = chi s3 := ⟨_, rfl⟩
  obtain ⟨z1, hz1⟩ : ∃ z, z = s4.getD 0 0 := ⟨_, rfl⟩
  obtain ⟨z2, hz2⟩ : ∃ z, z = markOf round := ⟨_, rfl⟩
  obtain ⟨z3, hz3⟩ : ∃ z, z = z1 ^^^ z2 := ⟨_, rfl⟩
  obtain ⟨rs, hrs⟩ : ∃ r, r = s4.set 0 z3 := ⟨_, rfl⟩
  have HRS : Hid (rs = roundM (markOf round) s) := by
    show rs = roundM (markOf round) s
    rw [hrs, hz3, hz1, hz2, hs4, hs3, hs2, hs1, pim_rho]; rfl
  have L1 : Hid (s1.length = 25) := by rw [hs1]; exact mk_len _
  have L2 : Hid (s2.length = 25) := by rw [hs2]; exact rho_len _
  have L3 : Hid (s3.length = 25) := by rw [hs3]; exact mk_len _
  have L4 : Hid (s4.length = 25) := by rw [hs4]; exact mk_len _
  have LR : Hid (rs.length = 25) := by show rs.length = 25; rw [hrs, List.length_set]; exact L4.out
  have C1 : Hid (∀ wx, Calls Tryd.prog 27 #[.agg (s.map u64V).toArray] wx fun e w' => e = .returned (.agg (s1.map u64V).toArray) ∧ Below wx.heap.size wx w') := by
    intro wx; rw [hs1]; exact spread_any s hs wx
  have C2 : Hid (∀ wx, Tab wx → Calls Tryd.prog 26 #[.agg (s1.map u64V).toArray] wx fun e w' => e = .returned (.agg (s2.map u64V).toArray) ∧ Below wx.heap.size wx w') := by
    intro wx h; rw [hs2]; exact rotate_any s1 L1.out wx h
  have C3 : Hid (∀ wx, Calls Tryd.prog 29 #[.agg (s2.map u64V).toArray] wx fun e w' => e = .returned (.agg (s3.map u64V).toArray) ∧ Below wx.heap.size wx w') := by
    intro wx; rw [hs3]; exact move_any s2 L2.out wx
  have C4 : Hid (∀ wx, Calls Tryd.prog 28 #[.agg (s3.map u64V).toArray] wx fun e w' => e = .returned (.agg (s4.map u64V).toArray) ∧ Below wx.heap.size wx w') := by
    intro wx; rw [hs4]; exact combine_any s3 L3.out wx
  have HMK : Hid (∀ wx, Calls Tryd.prog 30 #[.int .i64 round] wx fun e w' => e = .returned (.int .u64 z2.toNat) ∧ Below wx.heap.size wx w') := by
    intro wx
    rw [hz2]
    exact (markK_any round h0 h1 wx).mono fun _ _ h => ⟨h.1, h.2 ▸ Below.refl _ _⟩
  have HX3 : Hid (bits .xor .u64 (z1.toNat : Int) (z2.toNat : Int) = (z3.toNat : Int)) := by
    show bits .xor .u64 (z1.toNat : Int) (z2.toNat : Int) = (z3.toNat : Int)
    rw [u64_xor_nat _ _ z1.isLt z2.isLt, hz3, BitVec.toNat_xor]
  have HZ1 := Lib.hid hz1
  have HR := Lib.hid hrs
  have I0 := Lib.hid (info_lanes s HSL.out)
  have I2 := Lib.hid (info_lanes s2 L2.out)
  have I4 := Lib.hid (info_lanes s4 L4.out)
  have IR := Lib.hid (info_lanes rs LR.out)
  have O2 := Lib.hid (one_cells s2)
  have O4 := Lib.hid (one_cells s4)
  have OR := Lib.hid (one_cells rs)
  clear hs1 hs2 hs3 hs4 hz1 hz2 hz3 hrs hs TB h0 h1
  go_enter Tryd.func20, Tryd.ntmps20
  have hst := A64.box (A64.box (Own.St.start w) 41 s) 41 (List.replicate 25 0)
  simp only [size_alloc'] at hst
  have ROW := Lib.hid (A64.row hst 1 rfl)
  have HST0 := Lib.hid hst
  clear hst
  go_wp2_with (refine wpList_load_row rfl 41 (.tmp 2) rfl w.heap.size rfl 41 _ (0, 0) _ ROW.out Tryd.underlying41 rfl I0.out ?_)
  clear ROW
  refine (C1.out _).mono ?_
  rintro e wa ⟨rfl, hwa⟩
  obtain ⟨bs, hbs⟩ : ∃ b, b = w.heap.size := ⟨_, rfl⟩
  obtain ⟨br, hbr⟩ : ∃ b, b = w.heap.size + 1 := ⟨_, rfl⟩
  have GA : Hid (Own.St w.heap.size w wa [A64 br 41 (List.replicate 25 0), A64 bs 41 s]) := by rw [hbr, hbs]; exact HST0.out.later hwa
  rw [← hbr, ← hbs]
  clear hwa HST0 hbs hbr
  go_wp2_with (fail)
  refine (C2.out wa (TAB.out.later GA.out.below)).mono ?_
  rintro e wb ⟨rfl, hwb⟩
  have GB := Lib.hid (GA.out.later hwb)
  have ALL := Lib.hid (A64.setAll GB.out 1 rfl s2 (by rw [L2.out, HSL.out]))
  have THERE := Lib.hid (A64.there GB.out 1 rfl s2 (by rw [L2.out, HSL.out]))
  have ROW := Lib.hid (A64.row ALL.out 1 rfl)
  clear hwb GA GB
  go_wp2_with (first
    | (refine wpList_store_mid rfl 41 (.tmp 2) (.tmp 7) rfl bs 0 (s2.map u64V).toArray rfl rfl THERE.out I2.out O2.out ?_)
    | (refine wpList_load_row rfl 41 (.tmp 2) rfl bs rfl 41 _ (0, 0) _ ROW.out Tryd.underlying41 rfl I2.out ?_))
  refine (C3.out _).mono ?_
  rintro e wc ⟨rfl, hwc⟩
  have GC := Lib.hid (ALL.out.later hwc)
  clear hwc ALL THERE ROW
  go_wp2_with (fail)
  refine (C4.out wc).mono ?_
  rintro e wd ⟨rfl, hwd⟩
  have GD := Lib.hid (GC.out.later hwd)
  have ALL := Lib.hid (A64.setAll GD.out 1 rfl s4 (by rw [L2.out, L4.out]))
  have THERE := Lib.hid (A64.there GD.out 1 rfl s4 (by rw [L2.out, L4.out]))
  clear hwd GC GD
  go_wp2_with (refine wpList_store_mid rfl 41 (.tmp 2) (.tmp 10) rfl bs 0 (s4.map u64V).toArray rfl rfl THERE.out I4.out O4.out ?_)
  clear THERE
  obtain ⟨we, hwe⟩ : ∃ v, v = wd.setCells bs 0 (s4.map u64V).toArray.toList := ⟨_, rfl⟩
  rw [← hwe] at ALL ⊢
  clear hwe
  have HC1 : Hid (∀ wx, Below we.heap.size we wx → wx.cell? ⟨bs, 0, none⟩ = some (.int .u64 (z1.toNat : Int))) := fun wx hwx => cell_later (A64.cell ALL.out 1 rfl 0 (by rw [L4.out]; omega) HZ1.out.symm).1 hwx
  refine wp_laxT_list 6 (by kernel_rfl) (by kernel_rfl) (by kernel_rfl) (by kernel_rfl) (by kernel_rfl) ?_
  simp only [List.take_succ_cons, List.take_zero, List.drop_succ_cons, List.drop_zero]
  refine wpL_run1 (x := .tmp 2) (.pointer (some ⟨bs, 0, none⟩)) (.pointer (some ⟨bs, 0, none⟩)) (by kernel_rfl) (by kernel_rfl) (by kernel_rfl) (by kernel_rfl) (by kernel_rfl) (fun wx ρ hwx h0 hc => by simp [go_sem, h0, hc]) ?_
  refine wpL_run1 (x := .tmp 11) (.pointer (some ⟨bs, 0, none⟩)) (.int .u64 z1.toNat) (by kernel_rfl) (by kernel_rfl) (by kernel_rfl) (by kernel_rfl) (by kernel_rfl) (fun wx ρ hwx h0 hc => load64 rfl ρ (HC1.out wx hwx) h0) ?_
  refine wpL_move (.int .i64 round) rfl (by kernel_rfl) (by kernel_rfl) (by kernel_rfl) (by kernel_rfl) ?_
  refine wpL_fn (.int .u64 z2.toNat) [.int .i64 round] rfl (by kernel_rfl) (by kernel_rfl) (by kernel_rfl) (by kernel_rfl) (fun _ _ => by simp [go_sem]) (fun wx hwx => HMK.out wx) ?_
  refine wpL_run2 (x := .tmp 12) (y := .tmp 14) (.int .u64 z1.toNat) (.int .u64 z2.toNat) (.int .u64 z3.toNat) (by kernel_rfl) (by kernel_rfl) (by kernel_rfl) (by kernel_rfl) (by kernel_rfl) (by kernel_rfl) (fun wx ρ hwx h0 h1 hc => by simp [h0, h1, hc, go_sem, HX3.out]) ?_
  refine wpL_run1 (x := .tmp 2) (.pointer (some ⟨bs, 0, none⟩)) (.pointer (some ⟨bs, 0, none⟩)) (by kernel_rfl) (by kernel_rfl) (by kernel_rfl) (by kernel_rfl) (by kernel_rfl) (fun wx ρ hwx h0 hc => by simp [go_sem, h0, hc]) ?_
  refine wpL_end (by kernel_rfl) (fun wf hwf => ?_)
  simp only [FinL, setL, List.set_cons_zero, List.set_cons_succ]
  have G2 := Lib.hid (ALL.out.later hwf)
  obtain ⟨cp, fp⟩ := A64.cell G2.out 1 rfl 0 (by rw [L4.out]; omega) rfl
  have PUT : Hid (Own.St w.heap.size w (wf.setCell ⟨bs, 0, none⟩ (.int .u64 (z3.toNat : Int))) [A64 br 41 (List.replicate 25 0), A64 bs 41 rs]) := by
    have h := A64.store G2.out 1 rfl 0 z3
    rw [← HR.out] at h
    exact h
  clear hwf HC1 HMK HX3 ALL
  have LAST := Lib.hid (A64.setAll PUT.out 0 rfl rs (by rw [LR.out]; rfl))
  have ROW := Lib.hid (A64.row PUT.out 1 rfl)
  have THERE := Lib.hid (A64.there PUT.out 0 rfl rs (by rw [LR.out]; rfl))
  go_wp2_with (first
    | (refine wpList_load_row rfl 41 (.tmp 2) rfl bs rfl 41 _ (0, 0) _ ROW.out Tryd.underlying41 rfl IR.out ?_)
    | (refine wpList_store_mid rfl 41 (.tmp 4) (.tmp 17) rfl br 0 (rs.map u64V).toArray rfl rfl THERE.out IR.out OR.out ?_))
  have END := Lib.hid (A64.row LAST.out 0 rfl)
  refine bodyPost_ret (results_cell_row rfl _ _ br 41 _ (0, 0) _ rfl END.out Tryd.underlying41 rfl IR.out) rfl ?_
  refine ⟨?_, LAST.out.below⟩
  rw [HRS.out]

set_option maxHeartbeats 400000 in
theorem permK_any (s : KecM.St) (hs : s.length = 25) (w : World) (TB : Tab w) :
    Calls Tryd.prog 17 #[.agg (s.map u64V).toArray] w fun e w' => e = .returned (.agg ((perm 24 s).map u64V).toArray) ∧ Below w.heap.size w w' := by
  have TAB := Lib.hid TB
  have HSL := Lib.hid hs
  clear hs TB
  go_enter Tryd.func17, Tryd.ntmps17
  go_wp2
  have hst := A64.box (A64.box (Own.St.start w) 41 s) 41 (List.replicate 25 0)
  simp only [size_alloc'] at hst
  change Code.wp _ _ _ _ ((w.alloc (.cells (s.map u64V).toArray 41)).alloc (.cells ((List.replicate 25 (0 : KecM.W)).map u64V).toArray 41))
  generalize (w.alloc (.cells (s.map u64V).toArray 41)).alloc (.cells ((List.replicate 25 (0 : KecM.W)).map u64V).toArray 41) = W1 at hst ⊢
  obtain ⟨bs, hbs⟩ : ∃ b, b = w.heap.size := ⟨_, rfl⟩
  obtain ⟨br, hbr⟩ : ∃ b, b = w.heap.size + 1 := ⟨_, rfl⟩
  rw [← hbr] at hst ⊢
  have HST : Hid (Own.St w.heap.size w W1 [A64 br 41 (List.replicate 25 0), A64 bs 41 s]) := by rw [hbs]; exact hst
  rw [← hbs]
  clear hst hbs hbr
  go_loopw [4] (fun i wr => ∃ x : Nat, x ≤ 24 ∧ i = .int .i64 x ∧ Own.St w.heap.size w wr [A64 br 41 (List.replicate 25 0), A64 bs 41 (perm x s)]) (fun i _ => 24 - (intOf i).toNat)
  case atStart =>
    have h : Own.St w.heap.size w W1 [A64 br 41 (List.replicate 25 0), A64 bs 41 (perm 0 s)] := by rw [show perm 0 s = s from rfl]; exact HST.out
    exact ⟨0, by omega, rfl, h⟩
  case round =>
    obtain ⟨x, hx24, rfl, H⟩ := hrel
    have H := Lib.hid H
    obtain ⟨ts, hts⟩ : ∃ t, t = perm x s := ⟨_, rfl⟩
    have HLT : Hid (ts.length = 25) := by rw [hts]; exact perm_len x s HSL.out
    rw [← hts] at H
    have ROW := Lib.hid (A64.row H.out 1 rfl)
    have INFO := Lib.hid (info_lanes ts HLT.out)
    by_cases hx : (x : Int) < 24
    · obtain ⟨rs, hrs⟩ : ∃ r, r = roundM (markOf (x : Int)) ts := ⟨_, rfl⟩
      have LR : Hid (rs.length = 25) := by rw [hrs]; exact roundM_len _ _
      have NEXT : Hid (rs = perm (x + 1) s) := by rw [hrs, hts]; exact perm_next x s
      have CALL : Hid (∀ wx, Tab wx → Calls Tryd.prog 20 #[.agg (ts.map u64V).toArray, .int .i64 x] wx fun e w' => e = .returned (.agg (rs.map u64V).toArray) ∧ Below wx.heap.size wx w') := by
        intro wx h
        rw [hrs]
        exact roundK_any ts HLT.out x (by omega) (by omega) wx h
      have INFO2 := Lib.hid (info_lanes rs LR.out)
      have ONE := Lib.hid (one_cells rs)
      clear hrs hts
      go_wp2_with (refine wpList_load_row rfl 41 (.tmp 1) rfl bs rfl 41 _ (0, 0) _ ROW.out Tryd.underlying41 rfl INFO.out ?_)
      refine (CALL.out wr (TAB.out.later H.out.below)).mono ?_
      rintro e wd ⟨rfl, hwd⟩
      have G := Lib.hid (H.out.later hwd)
      have ALL := Lib.hid (A64.setAll G.out 1 rfl rs (by rw [LR.out, HLT.out]))
      have THERE := Lib.hid (A64.there G.out 1 rfl rs (by rw [LR.out, HLT.out]))
      clear hwd
      go_wp2_with (refine wpList_store_mid rfl 41 (.tmp 1) (.tmp 9) rfl bs 0 (rs.map u64V).toArray rfl rfl THERE.out INFO2.out ONE.out ?_)
      go_roundw
      case rel =>
        refine ⟨x + 1, by omega, by go_num, ?_⟩
        rw [← NEXT.out]
        exact ALL.out
      case measure => simp [intOf]; omega
    · have hx : x = 24 := by omega
      have NOW : Hid (ts = perm 24 s) := by show ts = perm 24 s; rw [hts, hx]
      have LAST := Lib.hid (A64.setAll H.out 0 rfl ts (by rw [HLT.out]; rfl))
      have THERE := Lib.hid (A64.there H.out 0 rfl ts (by rw [HLT.out]; rfl))
      have ONE := Lib.hid (one_cells ts)
      have END := Lib.hid (A64.row LAST.out 0 rfl)
      clear hts hx
      go_wp2_with (first
        | (refine wpList_load_row rfl 41 (.tmp 1) rfl bs rfl 41 _ (0, 0) _ ROW.out Tryd.underlying41 rfl INFO.out ?_)
        | (refine wpList_store_mid rfl 41 (.tmp 2) (.tmp 11) rfl br 0 (ts.map u64V).toArray rfl rfl THERE.out INFO.out ONE.out ?_))
      refine bodyPost_ret (results_cell_row rfl _ _ br 41 _ (0, 0) _ rfl END.out Tryd.underlying41 rfl INFO.out) rfl ?_
      refine ⟨?_, LAST.out.below⟩
      rw [NOW.out]

end Kec
end Go.Proofs.YtfbpajiddkehnaaDoor
