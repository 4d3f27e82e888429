/- KeccakFirst: the walk. -/
import Derived.Test.YtjegjegofnehoaaDoorLawKecA
import Derived.Test.YtjegjegofnehoaaDoorLaxF
namespace Go.Proofs.YtjegjegofnehoaaDoor
open Go.RowKit Go.Own
namespace Kec
open Go.KecM

/-- a new state, somewhere from B on -/
def newL (B : Nat) : Ty := ⟨fun v w => ∃ b, v = .pointer (some ⟨b, 0, none⟩) ∧ B ≤ b ∧ w.heap[b]? = some (.cells ((List.replicate 25 (0 : KecM.W)).map u64V).toArray 29 (0, 0)), fun ⟨b, h1, h2, h3⟩ g => ⟨b, h1, h2, (g.block b (lt_of_block h3)).trans h3⟩⟩
theorem run_new {o : Oper} (ho : o.op = .alloc 29) (ρ : Operand → Value) (w : World) : (execOp ρ o).run Tryd.prog w = .ok (.value (.pointer (some ⟨w.heap.size, 0, none⟩))) (w.alloc (.cells ((List.replicate 25 (0 : KecM.W)).map u64V).toArray 29)) := by
  unfold execOp
  simp only [ho]
  have h : (Instr.alloc 29 true (.tuple #[])).run Tryd.prog w = .ok (.pointer (some ⟨w.heap.size, 0, none⟩)) (w.alloc (.cells ((List.replicate 25 (0 : KecM.W)).map u64V).toArray 29)) := by kernel_rfl
  simp only [Sem.run_bind, h, Result.andThen_ok, Sem.run_pure]
theorem new_lanes {o : Oper} (ho : o.op = .alloc 29) (ρ : Operand → Value) {B : Nat} (w : World) (hB : B ≤ w.heap.size) : ∃ v w', (execOp ρ o).run Tryd.prog w = .ok (.value v) w' ∧ (newL B).holds v w' ∧ Below w.heap.size w w' :=
  ⟨_, _, run_new ho ρ w, ⟨_, rfl, hB, heap_alloc_new w _⟩, ((Own.St.start w).alloc _).below⟩
theorem new_iff (o : Oper) (ho : o.op = .alloc 29) (a1 : Act) (w : World) (K : Act → World → Prop) (Q : Exit → Act → World → Prop) : o.wp Tryd.prog a1 w K Q ↔ K (a1.put o.dst (.pointer (some ⟨w.heap.size, 0, none⟩))) (w.alloc (.cells ((List.replicate 25 (0 : KecM.W)).map u64V).toArray 29)) := by
  unfold Oper.wp
  rw [run_new ho]
  exact Iff.rfl

theorem two_new {B : Nat} {w0 w : World} (hb : Below B w0 w) (hs : B ≤ w.heap.size) {b c : Nat} (hbB : B ≤ b) (hcB : B ≤ c) (hne : b ≠ c) {t : TypeId} {vs us : List Value} (h1 : w.heap[b]? = some (.cells vs.toArray t (0, 0))) (h2 : w.heap[c]? = some (.cells us.toArray t (0, 0))) :
    Own.St B w0 w [AVals b t vs, AVals c t us] := by
  refine ⟨hb, hs, fun k => k = b ∨ k = c, ⟨fun k => k = b, fun k => k = c, ⟨h1, fun k => Iff.rfl⟩, ⟨fun k => k = c, fun _ => False, ⟨h2, fun k => Iff.rfl⟩, fun k h => h, fun k _ h => h, fun k => ⟨.inl, fun h => h.elim id (fun h => h.elim)⟩⟩, fun k e1 e2 => hne (e1.symm.trans e2), fun k => Iff.rfl⟩, fun k hk => ?_⟩
  rcases hk with rfl | rfl
  · exact hbB
  · exact hcB

theorem wpList_want {P : Program} {ops : Array Oper} {rest : List Oper} {o : Oper} {a : Act} {w : World} {Q : Exit → Act → World → Prop} (hw : Region.wanted o (yielded ops a.tmps) = true) (h : o.wp P a w (fun a' w' => wpList P ops Q rest a' w') Q) : wpList P ops Q (o :: rest) a w := by
  unfold wpList
  rw [if_pos hw]
  exact .inl h
theorem wpList_load_rowG {P : Program} {ops : Array Oper} {rest : List Oper} {o : Oper} {a : Act} {w : World} {Q : Exit → Act → World → Prop} (hw : Region.wanted o (yielded ops a.tmps) = true) (ty : TypeId) (x : Operand) (ho : o.op = .load ty x)
    (g : Nat) (hx : a.eval x = .pointer (some ⟨g, 0, none⟩)) (t : TypeId) (cs : Array Value) (fr : Nat × Nat) (d : TypeDesc) (hg : w.heap[g]? = some (.cells cs t fr))
    (hu : P.underlying ty = some d) (hd : (match d with | .struct _ | .array _ _ => true | _ => false) = true) (hi : (P.info? ty).map (·.size) = some cs.size)
    (h : wpList P ops Q rest (a.put o.dst (.agg cs)) w) : wpList P ops Q (o :: rest) a w :=
  wpList_want hw (wp_load_row ty x ho g hx t cs fr d hg hu hd hi h)
theorem wpList_eql_lanesG {ops : Array Oper} {rest : List Oper} {o : Oper} {a : Act} {w : World} {Q : Exit → Act → World → Prop} (hw : Region.wanted o (yielded ops a.tmps) = true) (x y : Tmp) (ho : o.op = .binOp .eql 29 (.tmp x) (.tmp y) 29)
    {s t : KecM.St} (hs : s.length = 25) (ht : t.length = 25) {v : Bool} (hv : decide (s = t) = v) (hx : a.eval (.tmp x) = .agg (s.map u64V).toArray) (hy : a.eval (.tmp y) = .agg (t.map u64V).toArray)
    (h : wpList Tryd.prog ops Q rest (a.put o.dst (.bool v)) w) : wpList Tryd.prog ops Q (o :: rest) a w := by
  refine wpList_want hw ?_
  unfold Oper.wp
  rw [eqlLanes ho hs ht hv _ w hx hy]
  exact h

set_option maxHeartbeats 2000000 in
theorem walk_first (s : KecM.St) (hs : s.length = 25) (r1 : Int) (w1 : (Lit.int .i64 r1).wf = true) (r2 : Int) (w2 : (Lit.int .i64 r2).wf = true) {w : World} (K : Kept w) :
    Calls Tryd.prog 10 #[.agg (s.map u64V).toArray, .int .i64 r1, .int .i64 r2] w (RetYes w) := by
  have HSL := Lib.hid hs
  have HR1 := Lib.hid (i64_in w1)
  have HR2 := Lib.hid (i64_in w2)
  obtain ⟨m1, hm1⟩ : ∃ m, m = markOf r1 := ⟨_, rfl⟩
  obtain ⟨m2, hm2⟩ : ∃ m, m = markOf r2 := ⟨_, rfl⟩
  obtain ⟨q1, hq1⟩ : ∃ q, q = roundM m1 s := ⟨_, rfl⟩
  obtain ⟨q2, hq2⟩ : ∃ q, q = roundM m2 s := ⟨_, rfl⟩
  obtain ⟨x1, hx1⟩ : ∃ z, z = q1.getD 0 0 := ⟨_, rfl⟩
  obtain ⟨x2, hx2⟩ : ∃ z, z = q2.getD 0 0 := ⟨_, rfl⟩
  obtain ⟨y1, hy1⟩ : ∃ z, z = x1 ^^^ m1 := ⟨_, rfl⟩
  obtain ⟨y2, hy2⟩ : ∃ z, z = x2 ^^^ m2 := ⟨_, rfl⟩
  obtain ⟨u1, hu1⟩ : ∃ u, u = q1.set 0 y1 := ⟨_, rfl⟩
  obtain ⟨u2, hu2⟩ : ∃ u, u = q2.set 0 y2 := ⟨_, rfl⟩
  have HE : Hid (decide (u1 = u2) = true) := by
    show decide (u1 = u2) = true
    rw [decide_eq_true_eq, hu1, hu2, hy1, hy2, hx1, hx2, hq1, hq2]
    exact roundM_first m1 m2 s
  have L1 : Hid (q1.length = 25) := by rw [hq1]; exact roundM_len _ _
  have L2 : Hid (q2.length = 25) := by rw [hq2]; exact roundM_len _ _
  have LU1 : Hid (u1.length = 25) := by show u1.length = 25; rw [hu1, List.length_set]; exact L1.out
  have LU2 : Hid (u2.length = 25) := by show u2.length = 25; rw [hu2, List.length_set]; exact L2.out
  have HX1 := Lib.hid hx1
  have HX2 := Lib.hid hx2
  have HU1 := Lib.hid hu1
  have HU2 := Lib.hid hu2
  have HB1 : Hid (bits .xor .u64 (x1.toNat : Int) (m1.toNat : Int) = (y1.toNat : Int)) := by
    show bits .xor .u64 (x1.toNat : Int) (m1.toNat : Int) = (y1.toNat : Int)
    rw [u64_xor_nat _ _ x1.isLt m1.isLt, hy1, BitVec.toNat_xor]
  have HB2 : Hid (bits .xor .u64 (x2.toNat : Int) (m2.toNat : Int) = (y2.toNat : Int)) := by
    show bits .xor .u64 (x2.toNat : Int) (m2.toNat : Int) = (y2.toNat : Int)
    rw [u64_xor_nat _ _ x2.isLt m2.isLt, hy2, BitVec.toNat_xor]
  have C1 : Hid (∀ wx, Below w.heap.size w wx → Calls Tryd.prog 16 #[.agg (s.map u64V).toArray, .int .i64 r1] wx fun e w' => e = .returned (.agg (q1.map u64V).toArray) ∧ Below wx.heap.size wx w') := by
    intro wx hwx
    rw [hq1, hm1]
    exact K.round s r1 wx hwx HSL.out HR1.out.1 HR1.out.2
  have C2 : Hid (∀ wx, Below w.heap.size w wx → Calls Tryd.prog 16 #[.agg (s.map u64V).toArray, .int .i64 r2] wx fun e w' => e = .returned (.agg (q2.map u64V).toArray) ∧ Below wx.heap.size wx w') := by
    intro wx hwx
    rw [hq2, hm2]
    exact K.round s r2 wx hwx HSL.out HR2.out.1 HR2.out.2
  have M1 : Hid (∀ wx, Below w.heap.size w wx → Calls Tryd.prog 14 #[.int .i64 r1] wx fun e w' => e = .returned (.int .u64 m1.toNat) ∧ Below wx.heap.size wx w') := by
    intro wx hwx
    rw [hm1]
    exact K.mark r1 wx hwx HR1.out.1 HR1.out.2
  have M2 : Hid (∀ wx, Below w.heap.size w wx → Calls Tryd.prog 14 #[.int .i64 r2] wx fun e w' => e = .returned (.int .u64 m2.toNat) ∧ Below wx.heap.size wx w') := by
    intro wx hwx
    rw [hm2]
    exact K.mark r2 wx hwx HR2.out.1 HR2.out.2
  have SH : Hid (∀ wx, Below w.heap.size w wx → Calls Tryd.prog 11 #[] wx (RetYes wx)) := fun wx hwx => shown_any (K.later hwx)
  have I1 := Lib.hid (info_lanes q1 L1.out)
  have I2 := Lib.hid (info_lanes q2 L2.out)
  have IU1 := Lib.hid (info_lanes u1 LU1.out)
  have IU2 := Lib.hid (info_lanes u2 LU2.out)
  have O1 := Lib.hid (one_cells q1)
  have O2 := Lib.hid (one_cells q2)
  clear hm1 hm2 hq1 hq2 hx1 hx2 hy1 hy2 hu1 hu2 K hs w1 w2
  go_enter Tryd.func10, Tryd.ntmps10
  have hst := A64.box (Own.St.start w) 29 s
  have H0 := Lib.hid hst
  clear hst
  go_wp2_with (fail)
  refine (SH.out _ H0.out.below).mono ?_
  rintro e wr ⟨rfl, hwr⟩
  obtain ⟨bs, hbs⟩ : ∃ b, b = w.heap.size := ⟨_, rfl⟩
  have H1 : Hid (Own.St w.heap.size w wr [A64 bs 29 s]) := by rw [hbs]; exact H0.out.later hwr
  rw [← hbs]
  clear hwr H0 hbs
  have HW1 := Lib.hid H1.out.below
  have HSZ := Lib.hid H1.out.size
  have ROW := Lib.hid (A64.row H1.out 0 rfl)
  clear H1
  go_wp2_with (fail)
  refine wp_laxF_list 8 (by kernel_rfl) [8, 9] 29 _ new_iff (by kernel_rfl) (by kernel_rfl) (by kernel_rfl) (by kernel_rfl) (by kernel_rfl) ?_
  simp only [List.take_succ_cons, List.take_zero, List.drop_succ_cons, List.drop_zero]
  refine wpL_run1 (x := .tmp 3) (.pointer (some ⟨bs, 0, none⟩)) (.agg (s.map u64V).toArray) (by kernel_rfl) (by kernel_rfl) (by kernel_rfl) (by kernel_rfl) (by kernel_rfl) (fun wx ρ hwx h0 hc => loadLanes rfl ROW.out hwx HSL.out ρ h0) ?_
  refine wpL_move (.int .i64 r1) rfl (by kernel_rfl) (by kernel_rfl) (by kernel_rfl) (by kernel_rfl) ?_
  refine wpL_fn (.agg (q1.map u64V).toArray) [.agg (s.map u64V).toArray, .int .i64 r1] rfl (by kernel_rfl) (by kernel_rfl) (by kernel_rfl) (by kernel_rfl) (fun _ _ => by simp [go_sem]) (fun wx hwx => C1.out wx (HW1.out.trans (hwx.mono HSZ.out))) ?_
  refine wpL_run1 (x := .tmp 3) (.pointer (some ⟨bs, 0, none⟩)) (.agg (s.map u64V).toArray) (by kernel_rfl) (by kernel_rfl) (by kernel_rfl) (by kernel_rfl) (by kernel_rfl) (fun wx ρ hwx h0 hc => loadLanes rfl ROW.out hwx HSL.out ρ h0) ?_
  refine wpL_move (.int .i64 r2) rfl (by kernel_rfl) (by kernel_rfl) (by kernel_rfl) (by kernel_rfl) ?_
  refine wpL_fn (.agg (q2.map u64V).toArray) [.agg (s.map u64V).toArray, .int .i64 r2] rfl (by kernel_rfl) (by kernel_rfl) (by kernel_rfl) (by kernel_rfl) (fun _ _ => by simp [go_sem]) (fun wx hwx => C2.out wx (HW1.out.trans (hwx.mono HSZ.out))) ?_
  refine wpL_runT (newL wr.heap.size) rfl (by kernel_rfl) (by kernel_rfl) (by kernel_rfl) (by kernel_rfl) (fun wx hwx => new_lanes rfl _ wx hwx.size) ?_
  refine wpL_runT (newL wr.heap.size) rfl (by kernel_rfl) (by kernel_rfl) (by kernel_rfl) (by kernel_rfl) (fun wx hwx => new_lanes rfl _ wx hwx.size) ?_
  refine wpL_end (by kernel_rfl) (fun wd hwd v9 h9 v8 h8 hne => ?_)
  obtain ⟨b9, rfl, hB9, hr9⟩ := h9
  obtain ⟨b8, rfl, hB8, hr8⟩ := h8
  have hbb : b8 ≠ b9 := fun e => hne 8 9 (by simp) (by simp) (by decide) (by rw [e]; rfl)
  clear hne
  simp only [FinL, setL, List.set_cons_zero, List.set_cons_succ]
  have G0 : Hid (Own.St w.heap.size w wd [A64 b8 29 (List.replicate 25 0), A64 b9 29 (List.replicate 25 0)]) :=
    two_new (HW1.out.trans (hwd.mono HSZ.out)) (Nat.le_trans HSZ.out hwd.size) (Nat.le_trans HSZ.out hB8) (Nat.le_trans HSZ.out hB9) hbb hr8 hr9
  clear hr8 hr9 hB8 hB9 hwd ROW HW1 HSZ hbb
  have ALL1 := Lib.hid (A64.setAll G0.out 0 rfl q1 (by rw [L1.out]; rfl))
  have THERE1 := Lib.hid (A64.there G0.out 0 rfl q1 (by rw [L1.out]; rfl))
  have G1 := Lib.hid (A64.setAll ALL1.out 1 rfl q2 (by rw [L2.out]; rfl))
  have THERE2 := Lib.hid (A64.there ALL1.out 1 rfl q2 (by rw [L2.out]; rfl))
  clear G0 ALL1
  go_wp2_with (first
    | (refine wpList_store_mid rfl 29 (.tmp 8) (.tmp 13) rfl b8 0 (q1.map u64V).toArray rfl rfl THERE1.out I1.out O1.out ?_)
    | (refine wpList_store_mid rfl 29 (.tmp 9) (.tmp 16) rfl b9 0 (q2.map u64V).toArray rfl rfl THERE2.out I2.out O2.out ?_))
  clear THERE1 THERE2
  obtain ⟨wr, hwr⟩ : ∃ v, v = (wd.setCells b8 0 (q1.map u64V).toArray.toList).setCells b9 0 (q2.map u64V).toArray.toList := ⟨_, rfl⟩
  have G : Hid (Own.St w.heap.size w wr [A64 b8 29 q1, A64 b9 29 q2]) := by rw [hwr]; exact G1.out
  rw [← hwr]
  clear hwr G1
  have HC : Hid (∀ wx, Below wr.heap.size wr wx → wx.cell? ⟨b8, 0, none⟩ = some (.int .u64 (x1.toNat : Int))) := fun wx hwx => cell_later (A64.cell G.out 0 rfl 0 (by rw [L1.out]; omega) HX1.out.symm).1 hwx
  refine wp_laxT_list 6 (by kernel_rfl) (by kernel_rfl) (by kernel_rfl) (by kernel_rfl) (by kernel_rfl) ?_
  simp only [List.take_succ_cons, List.take_zero, List.drop_succ_cons, List.drop_zero]
  refine wpL_run1 (x := .tmp 8) (.pointer (some ⟨b8, 0, none⟩)) (.pointer (some ⟨b8, 0, none⟩)) (by kernel_rfl) (by kernel_rfl) (by kernel_rfl) (by kernel_rfl) (by kernel_rfl) (fun wx ρ hwx h0 hc => by simp [go_sem, h0, hc]) ?_
  refine wpL_run1 (x := .tmp 17) (.pointer (some ⟨b8, 0, none⟩)) (.int .u64 x1.toNat) (by kernel_rfl) (by kernel_rfl) (by kernel_rfl) (by kernel_rfl) (by kernel_rfl) (fun wx ρ hwx h0 hc => load64 rfl ρ (HC.out wx hwx) h0) ?_
  refine wpL_move (.int .i64 r1) rfl (by kernel_rfl) (by kernel_rfl) (by kernel_rfl) (by kernel_rfl) ?_
  refine wpL_fn (.int .u64 m1.toNat) [.int .i64 r1] rfl (by kernel_rfl) (by kernel_rfl) (by kernel_rfl) (by kernel_rfl) (fun _ _ => by simp [go_sem]) (fun wx hwx => M1.out wx (G.out.below.trans (hwx.mono G.out.size))) ?_
  refine wpL_run2 (x := .tmp 18) (y := .tmp 20) (.int .u64 x1.toNat) (.int .u64 m1.toNat) (.int .u64 y1.toNat) (by kernel_rfl) (by kernel_rfl) (by kernel_rfl) (by kernel_rfl) (by kernel_rfl) (by kernel_rfl) (fun wx ρ hwx h0 h1 hc => by simp [h0, h1, hc, go_sem, HB1.out]) ?_
  refine wpL_run1 (x := .tmp 8) (.pointer (some ⟨b8, 0, none⟩)) (.pointer (some ⟨b8, 0, none⟩)) (by kernel_rfl) (by kernel_rfl) (by kernel_rfl) (by kernel_rfl) (by kernel_rfl) (fun wx ρ hwx h0 hc => by simp [go_sem, h0, hc]) ?_
  refine wpL_end (by kernel_rfl) (fun wf hwf => ?_)
  simp only [FinL, setL, List.set_cons_zero, List.set_cons_succ]
  have G2 := Lib.hid (G.out.later hwf)
  obtain ⟨cp, fp⟩ := A64.cell G2.out 0 rfl 0 (by rw [L1.out]; omega) rfl
  have PUT : Hid (Own.St w.heap.size w (wf.setCell ⟨b8, 0, none⟩ (.int .u64 (y1.toNat : Int))) [A64 b8 29 u1, A64 b9 29 q2]) := by
    have h := A64.store G2.out 0 rfl 0 y1
    rw [← HU1.out] at h
    exact h
  clear hwf HC G G2
  go_wp2
  obtain ⟨wr, hwr⟩ : ∃ v, v = wf.setCell ⟨b8, 0, none⟩ (.int .u64 (y1.toNat : Int)) := ⟨_, rfl⟩
  have G : Hid (Own.St w.heap.size w wr [A64 b8 29 u1, A64 b9 29 q2]) := by rw [hwr]; exact PUT.out
  rw [← hwr]
  clear hwr PUT cp fp
  have HC : Hid (∀ wx, Below wr.heap.size wr wx → wx.cell? ⟨b9, 0, none⟩ = some (.int .u64 (x2.toNat : Int))) := fun wx hwx => cell_later (A64.cell G.out 1 rfl 0 (by rw [L2.out]; omega) HX2.out.symm).1 hwx
  refine wp_laxT_list 6 (by kernel_rfl) (by kernel_rfl) (by kernel_rfl) (by kernel_rfl) (by kernel_rfl) ?_
  simp only [List.take_succ_cons, List.take_zero, List.drop_succ_cons, List.drop_zero]
  refine wpL_run1 (x := .tmp 9) (.pointer (some ⟨b9, 0, none⟩)) (.pointer (some ⟨b9, 0, none⟩)) (by kernel_rfl) (by kernel_rfl) (by kernel_rfl) (by kernel_rfl) (by kernel_rfl) (fun wx ρ hwx h0 hc => by simp [go_sem, h0, hc]) ?_
  refine wpL_run1 (x := .tmp 23) (.pointer (some ⟨b9, 0, none⟩)) (.int .u64 x2.toNat) (by kernel_rfl) (by kernel_rfl) (by kernel_rfl) (by kernel_rfl) (by kernel_rfl) (fun wx ρ hwx h0 hc => load64 rfl ρ (HC.out wx hwx) h0) ?_
  refine wpL_move (.int .i64 r2) rfl (by kernel_rfl) (by kernel_rfl) (by kernel_rfl) (by kernel_rfl) ?_
  refine wpL_fn (.int .u64 m2.toNat) [.int .i64 r2] rfl (by kernel_rfl) (by kernel_rfl) (by kernel_rfl) (by kernel_rfl) (fun _ _ => by simp [go_sem]) (fun wx hwx => M2.out wx (G.out.below.trans (hwx.mono G.out.size))) ?_
  refine wpL_run2 (x := .tmp 24) (y := .tmp 26) (.int .u64 x2.toNat) (.int .u64 m2.toNat) (.int .u64 y2.toNat) (by kernel_rfl) (by kernel_rfl) (by kernel_rfl) (by kernel_rfl) (by kernel_rfl) (by kernel_rfl) (fun wx ρ hwx h0 h1 hc => by simp [h0, h1, hc, go_sem, HB2.out]) ?_
  refine wpL_run1 (x := .tmp 9) (.pointer (some ⟨b9, 0, none⟩)) (.pointer (some ⟨b9, 0, none⟩)) (by kernel_rfl) (by kernel_rfl) (by kernel_rfl) (by kernel_rfl) (by kernel_rfl) (fun wx ρ hwx h0 hc => by simp [go_sem, h0, hc]) ?_
  refine wpL_end (by kernel_rfl) (fun wf hwf => ?_)
  simp only [FinL, setL, List.set_cons_zero, List.set_cons_succ]
  have G2 := Lib.hid (G.out.later hwf)
  obtain ⟨cp, fp⟩ := A64.cell G2.out 1 rfl 0 (by rw [L2.out]; omega) rfl
  have PUT : Hid (Own.St w.heap.size w (wf.setCell ⟨b9, 0, none⟩ (.int .u64 (y2.toNat : Int))) [A64 b8 29 u1, A64 b9 29 u2]) := by
    have h := A64.store G2.out 1 rfl 0 y2
    rw [← HU2.out] at h
    exact h
  clear hwf HC G G2
  have RA := Lib.hid (A64.row PUT.out 0 rfl)
  have RB := Lib.hid (A64.row PUT.out 1 rfl)
  go_wp2_with (first
    | (refine wpList_load_rowG rfl 29 (.tmp 8) rfl b8 rfl 29 _ (0, 0) _ RA.out Tryd.underlying29 rfl IU1.out ?_)
    | (refine wpList_load_rowG rfl 29 (.tmp 9) rfl b9 rfl 29 _ (0, 0) _ RB.out Tryd.underlying29 rfl IU2.out ?_)
    | (refine wpList_eql_lanesG rfl 31 32 rfl LU1.out LU2.out HE.out rfl rfl ?_))
  go_ret
  exact ⟨rfl, PUT.out.below⟩

end Kec
end Go.Proofs.YtjegjegofnehoaaDoor
