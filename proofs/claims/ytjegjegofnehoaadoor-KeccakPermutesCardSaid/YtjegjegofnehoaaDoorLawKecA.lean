/- KeccakPermutes, KeccakRounds: the walks. -/
import Derived.Test.YtjegjegofnehoaaDoorLawKec
import Derived.Test.YtjegjegofnehoaaDoorArrEq
namespace Go.Proofs.YtjegjegofnehoaaDoor
open Go.RowKit Go.Own
namespace Kec
open Go.KecM

/-- a state in a block that was there -/
theorem loadLanes {o : Oper} {x : Tmp} (ho : o.op = .load 29 (.tmp x)) {W w : World} {b : Nat} {s : KecM.St} {fz : Nat × Nat} (hb : W.heap[b]? = some (.cells (s.map u64V).toArray 29 fz)) (hw : Below W.heap.size W w) (hl : s.length = 25) (ρ : Operand → Value) (h0 : ρ (.tmp x) = .pointer (some ⟨b, 0, none⟩)) :
    (execOp ρ o).run Tryd.prog w = .ok (.value (.agg (s.map u64V).toArray)) w := by
  have hb' := (hw.block b (lt_of_block hb)).trans hb
  unfold execOp
  simp only [ho, h0, Instr.loadAt, Instr.sureAddr, Sem.run_bind, Sem.run_pure, Result.andThen_ok, run_loadVar_row w b 29 29 _ fz _ hb' Tryd.underlying29 rfl (info_lanes s hl)]

theorem words_ints (s : KecM.St) : s.map u64V = (s.map (fun x => (x.toNat : Int))).map (Value.int .u64) := by simp [u64V]
theorem words_eq (s t : KecM.St) : decide (s.map (fun x => (x.toNat : Int)) = t.map (fun x => (x.toNat : Int))) = decide (s = t) := by
  apply decide_eq_decide.2
  constructor
  · intro h
    exact (List.map_inj_right (fun x y h => BitVec.eq_of_toNat_eq (by omega))).1 h
  · rintro rfl; rfl
theorem eqlLanes {o : Oper} {x y : Tmp} (ho : o.op = .binOp .eql 29 (.tmp x) (.tmp y) 29) {s t : KecM.St} (hs : s.length = 25) (ht : t.length = 25) {v : Bool} (hv : decide (s = t) = v) (ρ : Operand → Value) (w : World)
    (h0 : ρ (.tmp x) = .agg (s.map u64V).toArray) (h1 : ρ (.tmp y) = .agg (t.map u64V).toArray) : (execOp ρ o).run Tryd.prog w = .ok (.value (.bool v)) w := by
  have h := run_equalIn_ints (P := Tryd.prog) 9998 29 25 .u64 (s.map (fun x => (x.toNat : Int))) (t.map (fun x => (x.toNat : Int))) (by simp [hs, ht]) (by rw [List.length_map, hs]; exact Tryd.underlying29) Tryd.underlying25 (fun w => by kernel_rfl) (fun w => by kernel_rfl) w
  rw [words_eq, hv, ← words_ints, ← words_ints] at h
  have h' : (Op.equalIn 10000 29 (.agg (s.map u64V).toArray) (.agg (t.map u64V).toArray)).run Tryd.prog w = .ok v w := h
  unfold execOp
  simp only [ho, h0, h1]
  generalize (s.map u64V).toArray = A at h' ⊢
  generalize (t.map u64V).toArray = B at h' ⊢
  simp [go_sem, h']

set_option maxHeartbeats 400000 in
theorem walk_permutes (s : KecM.St) (hs : s.length = 25) {w : World} (K : Kept w) :
    Calls Tryd.prog 6 #[.agg (s.map u64V).toArray] w (RetYes w) := by
  have HSL := Lib.hid hs
  clear hs
  obtain ⟨ps, hps⟩ : ∃ t, t = perm 24 s := ⟨_, rfl⟩
  have HLP : Hid (ps.length = 25) := by show ps.length = 25; rw [hps]; exact perm_len _ _ HSL.out
  have CK : Hid (∀ wx, Below w.heap.size w wx → Calls Tryd.prog 18 #[.agg (s.map u64V).toArray] wx fun e w' => e = .returned (.agg (ps.map u64V).toArray) ∧ Below wx.heap.size wx w') := by
    intro wx hwx
    rw [hps]
    exact K.perm s wx hwx HSL.out
  have CR : Hid (∀ wx, Calls Tryd.prog 19 #[.agg (s.map u64V).toArray] wx fun e w' => e = .returned (.agg (ps.map u64V).toArray) ∧ Below wx.heap.size wx w') := by
    intro wx
    rw [hps]
    exact permOf_any s HSL.out wx
  have SH : Hid (∀ wx, Below w.heap.size w wx → Calls Tryd.prog 11 #[] wx (RetYes wx)) := fun wx hwx => shown_any (K.later hwx)
  clear hps K
  go_enter Tryd.func6, Tryd.ntmps6
  have hst := A64.box (Own.St.start w) 29 s
  have ROW := Lib.hid (A64.row hst 0 rfl)
  have BEL := Lib.hid hst.below
  have SIZE := Lib.hid hst.size
  clear hst
  go_wp2
  refine wp_lax_list (by kernel_rfl) (by kernel_rfl) (by kernel_rfl) ?_
  refine wpL_fn (.bool true) [] rfl (by kernel_rfl) (by kernel_rfl) (by kernel_rfl) (by kernel_rfl) (fun _ _ => by simp [go_sem]) (fun wx hwx => SH.out wx (BEL.out.trans (hwx.mono SIZE.out))) ?_
  refine wpL_move (.bool true) rfl (by kernel_rfl) (by kernel_rfl) (by kernel_rfl) (by kernel_rfl) ?_
  refine wpL_run1 (x := .tmp 1) (.pointer (some ⟨w.heap.size, 0, none⟩)) (.agg (s.map u64V).toArray) (by kernel_rfl) (by kernel_rfl) (by kernel_rfl) (by kernel_rfl) (by kernel_rfl) (fun wx ρ hwx h0 hc => loadLanes rfl ROW.out hwx HSL.out ρ h0) ?_
  refine wpL_fn (.agg (ps.map u64V).toArray) [.agg (s.map u64V).toArray] rfl (by kernel_rfl) (by kernel_rfl) (by kernel_rfl) (by kernel_rfl) (fun _ _ => by simp [go_sem]) (fun wx hwx => CK.out wx (BEL.out.trans (hwx.mono SIZE.out))) ?_
  refine wpL_run1 (x := .tmp 1) (.pointer (some ⟨w.heap.size, 0, none⟩)) (.agg (s.map u64V).toArray) (by kernel_rfl) (by kernel_rfl) (by kernel_rfl) (by kernel_rfl) (by kernel_rfl) (fun wx ρ hwx h0 hc => loadLanes rfl ROW.out hwx HSL.out ρ h0) ?_
  refine wpL_fn (.agg (ps.map u64V).toArray) [.agg (s.map u64V).toArray] rfl (by kernel_rfl) (by kernel_rfl) (by kernel_rfl) (by kernel_rfl) (fun _ _ => by simp [go_sem]) (fun wx hwx => CR.out wx) ?_
  refine wpL_run2 (x := .tmp 6) (y := .tmp 8) (.agg (ps.map u64V).toArray) (.agg (ps.map u64V).toArray) (.bool true) (by kernel_rfl) (by kernel_rfl) (by kernel_rfl) (by kernel_rfl) (by kernel_rfl) (by kernel_rfl) (fun wx ρ hwx h0 h1 hc => eqlLanes rfl HLP.out HLP.out (by simp) ρ wx h0 h1) ?_
  refine wpL_run2 (x := .tmp 4) (y := .tmp 9) (.bool true) (.bool true) (.bool true) (by kernel_rfl) (by kernel_rfl) (by kernel_rfl) (by kernel_rfl) (by kernel_rfl) (by kernel_rfl) (fun wx ρ hwx h0 h1 hc => by simp [go_sem, h0, h1, hc]) ?_
  refine wpL_assign (.bool true) rfl (by kernel_rfl) (by kernel_rfl) (by kernel_rfl) (by kernel_rfl) ?_
  refine wpL_end (by kernel_rfl) (fun w1 hw => ?_)
  have HW := Lib.hid (BEL.out.trans (hw.mono SIZE.out))
  clear hw
  simp only [FinL, setL, List.set_cons_zero, List.set_cons_succ]
  go_wp2
  go_ret
  exact ⟨rfl, HW.out⟩

set_option maxHeartbeats 400000 in
theorem walk_rounds (s : KecM.St) (hs : s.length = 25) (r : Int) (w1 : (Lit.int .i64 r).wf = true) {w : World} (K : Kept w) :
    Calls Tryd.prog 5 #[.agg (s.map u64V).toArray, .int .i64 r] w (RetYes w) := by
  have HSL := Lib.hid hs
  have HR := Lib.hid (i64_in w1)
  clear hs w1
  obtain ⟨ps, hps⟩ : ∃ t, t = roundM (markOf r) s := ⟨_, rfl⟩
  have HLP : Hid (ps.length = 25) := by show ps.length = 25; rw [hps]; exact roundM_len _ _
  have CK : Hid (∀ wx, Below w.heap.size w wx → Calls Tryd.prog 16 #[.agg (s.map u64V).toArray, .int .i64 r] wx fun e w' => e = .returned (.agg (ps.map u64V).toArray) ∧ Below wx.heap.size wx w') := by
    intro wx hwx
    rw [hps]
    exact K.round s r wx hwx HSL.out HR.out.1 HR.out.2
  have CR : Hid (∀ wx, Calls Tryd.prog 17 #[.agg (s.map u64V).toArray, .int .i64 r] wx fun e w' => e = .returned (.agg (ps.map u64V).toArray) ∧ Below wx.heap.size wx w') := by
    intro wx
    rw [hps]
    exact roundOf_any s HSL.out r HR.out.1 HR.out.2 wx
  have SH : Hid (∀ wx, Below w.heap.size w wx → Calls Tryd.prog 11 #[] wx (RetYes wx)) := fun wx hwx => shown_any (K.later hwx)
  clear hps K HR
  go_enter Tryd.func5, Tryd.ntmps5
  have hst := A64.box (Own.St.start w) 29 s
  have ROW := Lib.hid (A64.row hst 0 rfl)
  have BEL := Lib.hid hst.below
  have SIZE := Lib.hid hst.size
  clear hst
  go_wp2
  refine wp_lax_list (by kernel_rfl) (by kernel_rfl) (by kernel_rfl) ?_
  refine wpL_fn (.bool true) [] rfl (by kernel_rfl) (by kernel_rfl) (by kernel_rfl) (by kernel_rfl) (fun _ _ => by simp [go_sem]) (fun wx hwx => SH.out wx (BEL.out.trans (hwx.mono SIZE.out))) ?_
  refine wpL_move (.bool true) rfl (by kernel_rfl) (by kernel_rfl) (by kernel_rfl) (by kernel_rfl) ?_
  refine wpL_run1 (x := .tmp 2) (.pointer (some ⟨w.heap.size, 0, none⟩)) (.agg (s.map u64V).toArray) (by kernel_rfl) (by kernel_rfl) (by kernel_rfl) (by kernel_rfl) (by kernel_rfl) (fun wx ρ hwx h0 hc => loadLanes rfl ROW.out hwx HSL.out ρ h0) ?_
  refine wpL_move (.int .i64 r) rfl (by kernel_rfl) (by kernel_rfl) (by kernel_rfl) (by kernel_rfl) ?_
  refine wpL_fn (.agg (ps.map u64V).toArray) [.agg (s.map u64V).toArray, .int .i64 r] rfl (by kernel_rfl) (by kernel_rfl) (by kernel_rfl) (by kernel_rfl) (fun _ _ => by simp [go_sem]) (fun wx hwx => CK.out wx (BEL.out.trans (hwx.mono SIZE.out))) ?_
  refine wpL_run1 (x := .tmp 2) (.pointer (some ⟨w.heap.size, 0, none⟩)) (.agg (s.map u64V).toArray) (by kernel_rfl) (by kernel_rfl) (by kernel_rfl) (by kernel_rfl) (by kernel_rfl) (fun wx ρ hwx h0 hc => loadLanes rfl ROW.out hwx HSL.out ρ h0) ?_
  refine wpL_move (.int .i64 r) rfl (by kernel_rfl) (by kernel_rfl) (by kernel_rfl) (by kernel_rfl) ?_
  refine wpL_fn (.agg (ps.map u64V).toArray) [.agg (s.map u64V).toArray, .int .i64 r] rfl (by kernel_rfl) (by kernel_rfl) (by kernel_rfl) (by kernel_rfl) (fun _ _ => by simp [go_sem]) (fun wx hwx => CR.out wx) ?_
  refine wpL_run2 (x := .tmp 9) (y := .tmp 12) (.agg (ps.map u64V).toArray) (.agg (ps.map u64V).toArray) (.bool true) (by kernel_rfl) (by kernel_rfl) (by kernel_rfl) (by kernel_rfl) (by kernel_rfl) (by kernel_rfl) (fun wx ρ hwx h0 h1 hc => eqlLanes rfl HLP.out HLP.out (by simp) ρ wx h0 h1) ?_
  refine wpL_run2 (x := .tmp 6) (y := .tmp 13) (.bool true) (.bool true) (.bool true) (by kernel_rfl) (by kernel_rfl) (by kernel_rfl) (by kernel_rfl) (by kernel_rfl) (by kernel_rfl) (fun wx ρ hwx h0 h1 hc => by simp [go_sem, h0, h1, hc]) ?_
  refine wpL_assign (.bool true) rfl (by kernel_rfl) (by kernel_rfl) (by kernel_rfl) (by kernel_rfl) ?_
  refine wpL_end (by kernel_rfl) (fun w1 hw => ?_)
  have HW := Lib.hid (BEL.out.trans (hw.mono SIZE.out))
  clear hw
  simp only [FinL, setL, List.set_cons_zero, List.set_cons_succ]
  go_wp2
  go_ret
  exact ⟨rfl, HW.out⟩

end Kec
end Go.Proofs.YtjegjegofnehoaaDoor
