/- KeccakApart: the walk. -/
import Derived.Test.YtjegjegofnehoaaDoorLawKecA
namespace Go.Proofs.YtjegjegofnehoaaDoor
open Go.RowKit Go.Own
namespace Kec
open Go.KecM

set_option maxHeartbeats 800000 in
theorem walk_apart (s t : KecM.St) (hs : s.length = 25) (ht : t.length = 25) (r : Int) (w2 : (Lit.int .i64 r).wf = true) {w : World} (K : Kept w) :
    Calls Tryd.prog 8 #[.agg (s.map u64V).toArray, .agg (t.map u64V).toArray, .int .i64 r] w (RetYes w) := by
  have HS := Lib.hid hs
  have HT := Lib.hid ht
  have HR := Lib.hid (i64_in w2)
  clear hs ht w2
  obtain ⟨rs, hrs⟩ : ∃ u, u = roundM (markOf r) s := ⟨_, rfl⟩
  obtain ⟨rt, hrt⟩ : ∃ u, u = roundM (markOf r) t := ⟨_, rfl⟩
  obtain ⟨ps, hps⟩ : ∃ u, u = perm 24 s := ⟨_, rfl⟩
  obtain ⟨pt, hpt⟩ : ∃ u, u = perm 24 t := ⟨_, rfl⟩
  have H1 : Hid (rs.length = 25) := by show rs.length = 25; rw [hrs]; exact roundM_len _ _
  have H2 : Hid (rt.length = 25) := by show rt.length = 25; rw [hrt]; exact roundM_len _ _
  have H3 : Hid (ps.length = 25) := by show ps.length = 25; rw [hps]; exact perm_len _ _ HS.out
  have H4 : Hid (pt.length = 25) := by show pt.length = 25; rw [hpt]; exact perm_len _ _ HT.out
  obtain ⟨q, hq⟩ : ∃ q, decide (s = t) = q := ⟨_, rfl⟩
  have HQ1 : Hid (decide (rs = rt) = q) := by
    show decide (rs = rt) = q
    rw [← hq, hrs, hrt]
    exact decide_eq_decide.2 ⟨fun h => roundM_inj _ HS.out HT.out h, fun h => by rw [h]⟩
  have HQ2 : Hid (decide (ps = pt) = q) := by
    show decide (ps = pt) = q
    rw [← hq, hps, hpt]
    exact decide_eq_decide.2 ⟨fun h => perm_inj _ HS.out HT.out h, fun h => by rw [h]⟩
  have HQ0 := Lib.hid hq
  have C1 : Hid (∀ wx, Below w.heap.size w wx → Calls Tryd.prog 16 #[.agg (s.map u64V).toArray, .int .i64 r] wx fun e w' => e = .returned (.agg (rs.map u64V).toArray) ∧ Below wx.heap.size wx w') := by
    intro wx hwx
    rw [hrs]
    exact K.round s r wx hwx HS.out HR.out.1 HR.out.2
  have C2 : Hid (∀ wx, Below w.heap.size w wx → Calls Tryd.prog 16 #[.agg (t.map u64V).toArray, .int .i64 r] wx fun e w' => e = .returned (.agg (rt.map u64V).toArray) ∧ Below wx.heap.size wx w') := by
    intro wx hwx
    rw [hrt]
    exact K.round t r wx hwx HT.out HR.out.1 HR.out.2
  have C3 : Hid (∀ wx, Below w.heap.size w wx → Calls Tryd.prog 18 #[.agg (s.map u64V).toArray] wx fun e w' => e = .returned (.agg (ps.map u64V).toArray) ∧ Below wx.heap.size wx w') := by
    intro wx hwx
    rw [hps]
    exact K.perm s wx hwx HS.out
  have C4 : Hid (∀ wx, Below w.heap.size w wx → Calls Tryd.prog 18 #[.agg (t.map u64V).toArray] wx fun e w' => e = .returned (.agg (pt.map u64V).toArray) ∧ Below wx.heap.size wx w') := by
    intro wx hwx
    rw [hpt]
    exact K.perm t wx hwx HT.out
  have SH : Hid (∀ wx, Below w.heap.size w wx → Calls Tryd.prog 11 #[] wx (RetYes wx)) := fun wx hwx => shown_any (K.later hwx)
  clear hps hpt hrs hrt K HR hq
  go_enter Tryd.func8, Tryd.ntmps8
  have hst := A64.box (A64.box (Own.St.start w) 29 s) 29 t
  simp only [size_alloc'] at hst
  have ROW1 := Lib.hid (A64.row hst 1 rfl)
  have ROW2 := Lib.hid (A64.row hst 0 rfl)
  have BEL := Lib.hid hst.below
  have SIZE := Lib.hid hst.size
  clear hst
  go_wp2
  refine wp_lax_list (by kernel_rfl) (by kernel_rfl) (by kernel_rfl) ?_
  refine wpL_fn (.bool true) [] rfl (by kernel_rfl) (by kernel_rfl) (by kernel_rfl) (by kernel_rfl) (fun _ _ => by simp [go_sem]) (fun wx hwx => SH.out wx (BEL.out.trans (hwx.mono SIZE.out))) ?_
  refine wpL_move (.bool true) rfl (by kernel_rfl) (by kernel_rfl) (by kernel_rfl) (by kernel_rfl) ?_
  refine wpL_run1 (x := .tmp 3) (.pointer (some ⟨w.heap.size, 0, none⟩)) (.agg (s.map u64V).toArray) (by kernel_rfl) (by kernel_rfl) (by kernel_rfl) (by kernel_rfl) (by kernel_rfl) (fun wx ρ hwx h0 hc => loadLanes rfl ROW1.out hwx HS.out ρ h0) ?_
  refine wpL_move (.int .i64 r) rfl (by kernel_rfl) (by kernel_rfl) (by kernel_rfl) (by kernel_rfl) ?_
  refine wpL_fn (.agg (rs.map u64V).toArray) [.agg (s.map u64V).toArray, .int .i64 r] rfl (by kernel_rfl) (by kernel_rfl) (by kernel_rfl) (by kernel_rfl) (fun _ _ => by simp [go_sem]) (fun wx hwx => C1.out wx (BEL.out.trans (hwx.mono SIZE.out))) ?_
  refine wpL_run1 (x := .tmp 4) (.pointer (some ⟨w.heap.size + 1, 0, none⟩)) (.agg (t.map u64V).toArray) (by kernel_rfl) (by kernel_rfl) (by kernel_rfl) (by kernel_rfl) (by kernel_rfl) (fun wx ρ hwx h0 hc => loadLanes rfl ROW2.out hwx HT.out ρ h0) ?_
  refine wpL_move (.int .i64 r) rfl (by kernel_rfl) (by kernel_rfl) (by kernel_rfl) (by kernel_rfl) ?_
  refine wpL_fn (.agg (rt.map u64V).toArray) [.agg (t.map u64V).toArray, .int .i64 r] rfl (by kernel_rfl) (by kernel_rfl) (by kernel_rfl) (by kernel_rfl) (fun _ _ => by simp [go_sem]) (fun wx hwx => C2.out wx (BEL.out.trans (hwx.mono SIZE.out))) ?_
  refine wpL_run2 (x := .tmp 11) (y := .tmp 14) (.agg (rs.map u64V).toArray) (.agg (rt.map u64V).toArray) (.bool q) (by kernel_rfl) (by kernel_rfl) (by kernel_rfl) (by kernel_rfl) (by kernel_rfl) (by kernel_rfl) (fun wx ρ hwx h0 h1 hc => eqlLanes rfl H1.out H2.out HQ1.out ρ wx h0 h1) ?_
  refine wpL_run1 (x := .tmp 3) (.pointer (some ⟨w.heap.size, 0, none⟩)) (.agg (s.map u64V).toArray) (by kernel_rfl) (by kernel_rfl) (by kernel_rfl) (by kernel_rfl) (by kernel_rfl) (fun wx ρ hwx h0 hc => loadLanes rfl ROW1.out hwx HS.out ρ h0) ?_
  refine wpL_run1 (x := .tmp 4) (.pointer (some ⟨w.heap.size + 1, 0, none⟩)) (.agg (t.map u64V).toArray) (by kernel_rfl) (by kernel_rfl) (by kernel_rfl) (by kernel_rfl) (by kernel_rfl) (fun wx ρ hwx h0 hc => loadLanes rfl ROW2.out hwx HT.out ρ h0) ?_
  refine wpL_run2 (x := .tmp 16) (y := .tmp 17) (.agg (s.map u64V).toArray) (.agg (t.map u64V).toArray) (.bool q) (by kernel_rfl) (by kernel_rfl) (by kernel_rfl) (by kernel_rfl) (by kernel_rfl) (by kernel_rfl) (fun wx ρ hwx h0 h1 hc => eqlLanes rfl HS.out HT.out HQ0.out ρ wx h0 h1) ?_
  refine wpL_run2 (x := .tmp 15) (y := .tmp 18) (.bool q) (.bool q) (.bool true) (by kernel_rfl) (by kernel_rfl) (by kernel_rfl) (by kernel_rfl) (by kernel_rfl) (by kernel_rfl) (fun wx ρ hwx h0 h1 hc => by simp [go_sem, h0, h1, hc]) ?_
  refine wpL_run2 (x := .tmp 8) (y := .tmp 19) (.bool true) (.bool true) (.bool true) (by kernel_rfl) (by kernel_rfl) (by kernel_rfl) (by kernel_rfl) (by kernel_rfl) (by kernel_rfl) (fun wx ρ hwx h0 h1 hc => by simp [go_sem, h0, h1, hc]) ?_
  refine wpL_move (.bool true) rfl (by kernel_rfl) (by kernel_rfl) (by kernel_rfl) (by kernel_rfl) ?_
  refine wpL_run1 (x := .tmp 3) (.pointer (some ⟨w.heap.size, 0, none⟩)) (.agg (s.map u64V).toArray) (by kernel_rfl) (by kernel_rfl) (by kernel_rfl) (by kernel_rfl) (by kernel_rfl) (fun wx ρ hwx h0 hc => loadLanes rfl ROW1.out hwx HS.out ρ h0) ?_
  refine wpL_fn (.agg (ps.map u64V).toArray) [.agg (s.map u64V).toArray] rfl (by kernel_rfl) (by kernel_rfl) (by kernel_rfl) (by kernel_rfl) (fun _ _ => by simp [go_sem]) (fun wx hwx => C3.out wx (BEL.out.trans (hwx.mono SIZE.out))) ?_
  refine wpL_run1 (x := .tmp 4) (.pointer (some ⟨w.heap.size + 1, 0, none⟩)) (.agg (t.map u64V).toArray) (by kernel_rfl) (by kernel_rfl) (by kernel_rfl) (by kernel_rfl) (by kernel_rfl) (fun wx ρ hwx h0 hc => loadLanes rfl ROW2.out hwx HT.out ρ h0) ?_
  refine wpL_fn (.agg (pt.map u64V).toArray) [.agg (t.map u64V).toArray] rfl (by kernel_rfl) (by kernel_rfl) (by kernel_rfl) (by kernel_rfl) (fun _ _ => by simp [go_sem]) (fun wx hwx => C4.out wx (BEL.out.trans (hwx.mono SIZE.out))) ?_
  refine wpL_run2 (x := .tmp 23) (y := .tmp 25) (.agg (ps.map u64V).toArray) (.agg (pt.map u64V).toArray) (.bool q) (by kernel_rfl) (by kernel_rfl) (by kernel_rfl) (by kernel_rfl) (by kernel_rfl) (by kernel_rfl) (fun wx ρ hwx h0 h1 hc => eqlLanes rfl H3.out H4.out HQ2.out ρ wx h0 h1) ?_
  refine wpL_run1 (x := .tmp 3) (.pointer (some ⟨w.heap.size, 0, none⟩)) (.agg (s.map u64V).toArray) (by kernel_rfl) (by kernel_rfl) (by kernel_rfl) (by kernel_rfl) (by kernel_rfl) (fun wx ρ hwx h0 hc => loadLanes rfl ROW1.out hwx HS.out ρ h0) ?_
  refine wpL_run1 (x := .tmp 4) (.pointer (some ⟨w.heap.size + 1, 0, none⟩)) (.agg (t.map u64V).toArray) (by kernel_rfl) (by kernel_rfl) (by kernel_rfl) (by kernel_rfl) (by kernel_rfl) (fun wx ρ hwx h0 hc => loadLanes rfl ROW2.out hwx HT.out ρ h0) ?_
  refine wpL_run2 (x := .tmp 27) (y := .tmp 28) (.agg (s.map u64V).toArray) (.agg (t.map u64V).toArray) (.bool q) (by kernel_rfl) (by kernel_rfl) (by kernel_rfl) (by kernel_rfl) (by kernel_rfl) (by kernel_rfl) (fun wx ρ hwx h0 h1 hc => eqlLanes rfl HS.out HT.out HQ0.out ρ wx h0 h1) ?_
  refine wpL_run2 (x := .tmp 26) (y := .tmp 29) (.bool q) (.bool q) (.bool true) (by kernel_rfl) (by kernel_rfl) (by kernel_rfl) (by kernel_rfl) (by kernel_rfl) (by kernel_rfl) (fun wx ρ hwx h0 h1 hc => by simp [go_sem, h0, h1, hc]) ?_
  refine wpL_run2 (x := .tmp 21) (y := .tmp 30) (.bool true) (.bool true) (.bool true) (by kernel_rfl) (by kernel_rfl) (by kernel_rfl) (by kernel_rfl) (by kernel_rfl) (by kernel_rfl) (fun wx ρ hwx h0 h1 hc => by simp [go_sem, h0, h1, hc]) ?_
  refine wpL_assign (.bool true) rfl (by kernel_rfl) (by kernel_rfl) (by kernel_rfl) (by kernel_rfl) ?_
  refine wpL_end (by kernel_rfl) (fun w1 hw => ?_)
  have HW := Lib.hid (BEL.out.trans (hw.mono SIZE.out))
  clear hw
  simp only [FinL, setL, List.set_cons_zero, List.set_cons_succ]
  go_wp2
  go_ret
  exact ⟨rfl, HW.out⟩

end Kec
end Go.Proofs.YtjegjegofnehoaaDoor
