/- The document's permutation: 24 rounds. -/
import Derived.Test.YtfbpajiddkehnaaDoorKecD
namespace Go.Proofs.YtfbpajiddkehnaaDoor
open Go.RowKit Go.Own
namespace Kec
open Go.KecM

theorem perm_next (n : Nat) (s : KecM.St) : roundM (markOf (n : Int)) (perm n s) = perm (n + 1) s := by
  show _ = roundM (markW n) (perm n s)
  unfold markOf
  rw [if_neg (by omega), Int.toNat_natCast]

set_option maxHeartbeats 400000 in
theorem permOf_any (s : KecM.St) (hs : s.length = 25) (w : World) :
    Calls Tryd.prog 15 #[.agg (s.map u64V).toArray] w fun e w' => e = .returned (.agg ((perm 24 s).map u64V).toArray) ∧ Below w.heap.size w w' := by
  have HSL := Lib.hid hs
  clear hs
  go_enter Tryd.func15, Tryd.ntmps15
  go_wp2
  have hst := A64.box (A64.box (Own.St.start w) 41 s) 41 (List.replicate 25 0)
  simp only [size_alloc'] at hst
  change Code.wp _ _ _ _ ((w.alloc (.cells (s.map u64V).toArray 41)).alloc (.cells ((List.replicate 25 (0 : KecM.W)).map u64V).toArray 41))
  generalize (w.alloc (.cells (s.map u64V).toArray 41)).alloc (.cells ((List.replicate 25 (0 : KecM.W)).map u64V).toArray 41) = W1 at hst ⊢
  obtain ⟨bs, hbs⟩ : ∃ b, b = w.heap.size := ⟨_, rfl⟩
  obtain ⟨br, hbr⟩ : ∃ b, b = w.heap.size + 1 := ⟨_, rfl⟩
  rw [← hbr] at hst ⊢
  have HST : Hid (Own.St w.heap.size w W1 [A64 br 41 (List.replicate 25 0), A64 bs 41 s]) := by rw [hbs]; exact hst
  rw [← hbs]
  clear hst hbs hbr
  go_loopw [3] (fun i wr => ∃ x : Nat, x ≤ 24 ∧ i = .int .i64 x ∧ Own.St w.heap.size w wr [A64 br 41 (List.replicate 25 0), A64 bs 41 (perm x s)]) (fun i _ => 24 - (intOf i).toNat)
  case atStart =>
    have h : Own.St w.heap.size w W1 [A64 br 41 (List.replicate 25 0), A64 bs 41 (perm 0 s)] := by rw [show perm 0 s = s from rfl]; exact HST.out
    exact ⟨0, by omega, rfl, h⟩
  case round =>
    obtain ⟨x, hx24, rfl, H⟩ := hrel
    have H := Lib.hid H
    obtain ⟨ts, hts⟩ : ∃ t, t = perm x s := ⟨_, rfl⟩
    have HLT : Hid (ts.length = 25) := by rw [hts]; exact perm_len x s HSL.out
    rw [← hts] at H
    have ROW := Lib.hid (A64.row H.out 1 rfl)
    have INFO := Lib.hid (info_lanes ts HLT.out)
    by_cases hx : (x : Int) < 24
    · obtain ⟨rs, hrs⟩ : ∃ r, r = roundM (markOf (x : Int)) ts := ⟨_, rfl⟩
      have LR : Hid (rs.length = 25) := by rw [hrs]; exact roundM_len _ _
      have NEXT : Hid (rs = perm (x + 1) s) := by rw [hrs, hts]; exact perm_next x s
      have CALL : Hid (∀ wx, Calls Tryd.prog 19 #[.agg (ts.map u64V).toArray, .int .i64 x] wx fun e w' => e = .returned (.agg (rs.map u64V).toArray) ∧ Below wx.heap.size wx w') := by
        intro wx
        rw [hrs]
        exact roundOf_any ts HLT.out x (by omega) (by omega) wx
      have INFO2 := Lib.hid (info_lanes rs LR.out)
      have ONE := Lib.hid (one_cells rs)
      clear hrs hts
      go_wp2_with (refine wpList_load_row rfl 41 (.tmp 1) rfl bs rfl 41 _ (0, 0) _ ROW.out Tryd.underlying41 rfl INFO.out ?_)
      refine (CALL.out wr).mono ?_
      rintro e wd ⟨rfl, hwd⟩
      have G := Lib.hid (H.out.later hwd)
      have ALL := Lib.hid (A64.setAll G.out 1 rfl rs (by rw [LR.out, HLT.out]))
      have THERE := Lib.hid (A64.there G.out 1 rfl rs (by rw [LR.out, HLT.out]))
      clear hwd
      go_wp2_with (refine wpList_store_mid rfl 41 (.tmp 1) (.tmp 10) rfl bs 0 (rs.map u64V).toArray rfl rfl THERE.out INFO2.out ONE.out ?_)
      go_roundw
      case rel =>
        refine ⟨x + 1, by omega, by go_num, ?_⟩
        rw [← NEXT.out]
        exact ALL.out
      case measure => simp [intOf]; omega
    · have hx : x = 24 := by omega
      have NOW : Hid (ts = perm 24 s) := by show ts = perm 24 s; rw [hts, hx]
      have LAST := Lib.hid (A64.setAll H.out 0 rfl ts (by rw [HLT.out]; rfl))
      have THERE := Lib.hid (A64.there H.out 0 rfl ts (by rw [HLT.out]; rfl))
      have ONE := Lib.hid (one_cells ts)
      have END := Lib.hid (A64.row LAST.out 0 rfl)
      clear hts hx
      go_wp2_with (first
        | (refine wpList_load_row rfl 41 (.tmp 1) rfl bs rfl 41 _ (0, 0) _ ROW.out Tryd.underlying41 rfl INFO.out ?_)
        | (refine wpList_store_mid rfl 41 (.tmp 2) (.tmp 11) rfl br 0 (ts.map u64V).toArray rfl rfl THERE.out INFO.out ONE.out ?_))
      refine bodyPost_ret (results_cell_row rfl _ _ br 41 _ (0, 0) _ rfl END.out Tryd.underlying41 rfl INFO.out) rfl ?_
      refine ⟨?_, LAST.out.below⟩
      rw [NOW.out]

end Kec
end Go.Proofs.YtfbpajiddkehnaaDoor
