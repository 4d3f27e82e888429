/- KeccakGoes: the walk. -/
import Derived.Test.YtjegjegofnehoaaDoorLawKecA
namespace Go.Proofs.YtjegjegofnehoaaDoor
open Go.RowKit Go.Own
namespace Kec
open Go.KecM

set_option maxHeartbeats 800000 in
theorem walk_goes3 (s : KecM.St) (hs : s.length = 25) {w : World} (K : Kept w) :
    Calls Tryd.prog 7 #[.agg (s.map u64V).toArray] w (RetYes w) := by
  have HSL := Lib.hid hs
  clear hs
  have KP : Hid (∀ (s : KecM.St) (wx : World), Below w.heap.size w wx → s.length = 25 → Calls Tryd.prog 18 #[.agg (s.map u64V).toArray] wx fun e w' => e = .returned (.agg ((perm 24 s).map u64V).toArray) ∧ Below wx.heap.size wx w') := K.perm
  have KR : Hid (∀ (s : KecM.St) (round : Int) (wx : World), Below w.heap.size w wx → s.length = 25 → -9223372036854775808 ≤ round → round ≤ 9223372036854775807 → Calls Tryd.prog 16 #[.agg (s.map u64V).toArray, .int .i64 round] wx fun e w' => e = .returned (.agg ((roundM (markOf round) s).map u64V).toArray) ∧ Below wx.heap.size wx w') := K.round
  have SH : Hid (∀ wx, Below w.heap.size w wx → Calls Tryd.prog 11 #[] wx (RetYes wx)) := fun wx hwx => shown_any (K.later hwx)
  clear K
  go_enter Tryd.func7, Tryd.ntmps7
  have hst := A64.box (Own.St.start w) 29 s
  have hst2 := A64.box hst 29 (List.replicate 25 0)
  simp only [size_alloc'] at hst2
  have ROW := Lib.hid (A64.row hst 0 rfl)
  have THERE := Lib.hid (A64.there hst2 0 rfl s (by rw [HSL.out]; rfl))
  have INFO := Lib.hid (info_lanes s HSL.out)
  have ONE := Lib.hid (one_cells s)
  have ALL : Hid (Own.St w.heap.size w (((w.alloc (.cells (s.map u64V).toArray 29)).alloc (.cells ((List.replicate 25 (0 : KecM.W)).map u64V).toArray 29)).setCells (w.heap.size + 1) 0 (s.map u64V)) [A64 (w.heap.size + 1) 29 (perm 0 s), A64 w.heap.size 29 s]) :=
    A64.setAll hst2 0 rfl s (by rw [HSL.out]; rfl)
  clear hst hst2
  go_wp2_with (first
    | (refine wpList_load_row rfl 29 (.tmp 1) rfl w.heap.size rfl 29 _ (0, 0) _ ROW.out Tryd.underlying29 rfl INFO.out ?_)
    | (refine wpList_store_mid rfl 29 (.tmp 3) (.tmp 5) rfl (w.heap.size + 1) 0 (s.map u64V).toArray rfl rfl THERE.out INFO.out ONE.out ?_))
  clear THERE
  go_loopw [6] (fun i wr => ∃ x : Nat, x ≤ 24 ∧ i = .int .i64 x ∧ Own.St w.heap.size w wr [A64 (w.heap.size + 1) 29 (perm x s), A64 w.heap.size 29 s]) (fun i _ => 24 - (intOf i).toNat)
  case atStart => exact ⟨0, by omega, rfl, ALL.out⟩
  case round =>
    obtain ⟨x, hx24, rfl, H⟩ := hrel
    have H := Lib.hid H
    clear ALL ROW
    obtain ⟨ts, hts⟩ : ∃ t, t = perm x s := ⟨_, rfl⟩
    have HLT : Hid (ts.length = 25) := by rw [hts]; exact perm_len x s HSL.out
    rw [← hts] at H
    have ROW2 := Lib.hid (A64.row H.out 0 rfl)
    by_cases hx : (x : Int) < 24
    · obtain ⟨rs, hrs⟩ : ∃ r, r = roundM (markOf (x : Int)) ts := ⟨_, rfl⟩
      have LR : Hid (rs.length = 25) := by rw [hrs]; exact roundM_len _ _
      have NEXT : Hid (rs = perm (x + 1) s) := by rw [hrs, hts]; exact perm_next x s
      have CALL : Hid (∀ wx, Below w.heap.size w wx → Calls Tryd.prog 16 #[.agg (ts.map u64V).toArray, .int .i64 x] wx fun e w' => e = .returned (.agg (rs.map u64V).toArray) ∧ Below wx.heap.size wx w') := by
        intro wx hwx
        rw [hrs]
        exact KR.out ts x wx hwx HLT.out (by omega) (by omega)
      have INFO1 := Lib.hid (info_lanes ts HLT.out)
      have INFO2 := Lib.hid (info_lanes rs LR.out)
      have ONE2 := Lib.hid (one_cells rs)
      clear hrs hts
      go_wp2_with (refine wpList_load_row rfl 29 (.tmp 3) rfl (w.heap.size + 1) rfl 29 _ (0, 0) _ ROW2.out Tryd.underlying29 rfl INFO1.out ?_)
      refine (CALL.out wr H.out.below).mono ?_
      rintro e wd ⟨rfl, hwd⟩
      have G := Lib.hid (H.out.later hwd)
      have ALL := Lib.hid (A64.setAll G.out 0 rfl rs (by rw [LR.out, HLT.out]))
      have THERE := Lib.hid (A64.there G.out 0 rfl rs (by rw [LR.out, HLT.out]))
      clear hwd
      go_wp2_with (refine wpList_store_mid rfl 29 (.tmp 3) (.tmp 11) rfl (w.heap.size + 1) 0 (rs.map u64V).toArray rfl rfl THERE.out INFO2.out ONE2.out ?_)
      go_roundw
      case rel =>
        refine ⟨x + 1, by omega, by go_num, ?_⟩
        rw [← NEXT.out]
        exact ALL.out
      case measure => simp [intOf]; omega
    · have hx' : x = 24 := by omega
      have CK : Hid (∀ wx, Below w.heap.size w wx → Calls Tryd.prog 18 #[.agg (s.map u64V).toArray] wx fun e w' => e = .returned (.agg (ts.map u64V).toArray) ∧ Below wx.heap.size wx w') := by
        intro wx hwx
        have h := KP.out s wx hwx HSL.out
        rw [hts, hx']
        exact h
      have ROW1 := Lib.hid (A64.row H.out 1 rfl)
      clear hts hx'
      go_wp2
      refine wp_lax_list (by kernel_rfl) (by kernel_rfl) (by kernel_rfl) ?_
      refine wpL_fn (.bool true) [] rfl (by kernel_rfl) (by kernel_rfl) (by kernel_rfl) (by kernel_rfl) (fun _ _ => by simp [go_sem]) (fun wx hwx => SH.out wx (H.out.below.trans (hwx.mono H.out.size))) ?_
      refine wpL_move (.bool true) rfl (by kernel_rfl) (by kernel_rfl) (by kernel_rfl) (by kernel_rfl) ?_
      refine wpL_run1 (x := .tmp 1) (.pointer (some ⟨w.heap.size, 0, none⟩)) (.agg (s.map u64V).toArray) (by kernel_rfl) (by kernel_rfl) (by kernel_rfl) (by kernel_rfl) (by kernel_rfl) (fun wx ρ hwx h0 hc => loadLanes rfl ROW1.out hwx HSL.out ρ h0) ?_
      refine wpL_fn (.agg (ts.map u64V).toArray) [.agg (s.map u64V).toArray] rfl (by kernel_rfl) (by kernel_rfl) (by kernel_rfl) (by kernel_rfl) (fun _ _ => by simp [go_sem]) (fun wx hwx => CK.out wx (H.out.below.trans (hwx.mono H.out.size))) ?_
      refine wpL_run1 (x := .tmp 3) (.pointer (some ⟨w.heap.size + 1, 0, none⟩)) (.agg (ts.map u64V).toArray) (by kernel_rfl) (by kernel_rfl) (by kernel_rfl) (by kernel_rfl) (by kernel_rfl) (fun wx ρ hwx h0 hc => loadLanes rfl ROW2.out hwx HLT.out ρ h0) ?_
      refine wpL_run2 (x := .tmp 16) (y := .tmp 17) (.agg (ts.map u64V).toArray) (.agg (ts.map u64V).toArray) (.bool true) (by kernel_rfl) (by kernel_rfl) (by kernel_rfl) (by kernel_rfl) (by kernel_rfl) (by kernel_rfl) (fun wx ρ hwx h0 h1 hc => eqlLanes rfl HLT.out HLT.out (by simp) ρ wx h0 h1) ?_
      refine wpL_run2 (x := .tmp 14) (y := .tmp 18) (.bool true) (.bool true) (.bool true) (by kernel_rfl) (by kernel_rfl) (by kernel_rfl) (by kernel_rfl) (by kernel_rfl) (by kernel_rfl) (fun wx ρ hwx h0 h1 hc => by simp [go_sem, h0, h1, hc]) ?_
      refine wpL_assign (.bool true) rfl (by kernel_rfl) (by kernel_rfl) (by kernel_rfl) (by kernel_rfl) ?_
      refine wpL_end (by kernel_rfl) (fun w1 hw => ?_)
      have HW := Lib.hid (H.out.below.trans (hw.mono H.out.size))
      clear hw
      simp only [FinL, setL, List.set_cons_zero, List.set_cons_succ]
      go_wp2
      go_ret
      exact ⟨rfl, HW.out⟩

end Kec
end Go.Proofs.YtjegjegofnehoaaDoor
