/- SpongeParts: the walk. -/
import Derived.Test.YtfbpajiddkehnaaDoorLawSpoA
namespace Go.Proofs.YtfbpajiddkehnaaDoor
open Go.RowKit Go.Own
namespace Spo
open Go.KecM Go.SpoM Byt

theorem add_one {o : Oper} {t : Tmp} (ho : o.op = .binOp .add 3 (.tmp t) (.const (.int .i64 1)) 3) (k : Nat) (hk : k ≤ 1000000000) {q : Nat} (hq : q = k + 1) : ∀ (ρ : Operand → Value) w, ρ (.tmp t) = .int .i64 (k : Int) → (∀ c, ρ (.const c) = c) → (execOp ρ o).run Tryd.prog w = .ok (.value (.int .i64 (q : Int))) w := by
  intro ρ w h0 hc
  have e : IntKind.i64.wrap ((k : Int) + 1) = (q : Int) := (IntWalk.i64_in _ (by omega)).trans (by omega)
  simp only [execOp, ho, h0, hc]
  generalize (k : Int) = m at e
  simp [go_sem, e]
theorem to_uint {o : Oper} {t : Tmp} (ho : o.op = .convert 3 36 (.tmp t)) (k : Nat) (hk : k ≤ 1000000001) : ∀ (ρ : Operand → Value) w, ρ (.tmp t) = .int .i64 (k : Int) → (∀ c, ρ (.const c) = c) → (execOp ρ o).run Tryd.prog w = .ok (.value (.int .u64 (k : Int))) w := by
  intro ρ w h0 hc
  have e : IntKind.u64.wrap (k : Int) = (k : Int) := IntWalk.u64_in _ (by omega)
  simp only [execOp, ho, h0]
  generalize (k : Int) = m at e
  simp [go_sem, e]
theorem to_int {o : Oper} {t : Tmp} (ho : o.op = .convert 36 3 (.tmp t)) (k : Nat) (hk : k ≤ 1000000001) : ∀ (ρ : Operand → Value) w, ρ (.tmp t) = .int .u64 (k : Int) → (∀ c, ρ (.const c) = c) → (execOp ρ o).run Tryd.prog w = .ok (.value (.int .i64 (k : Int))) w := by
  intro ρ w h0 hc
  have e : IntKind.i64.wrap (k : Int) = (k : Int) := IntWalk.i64_in _ (by omega)
  simp only [execOp, ho, h0]
  generalize (k : Int) = m at e
  simp [go_sem, e]
theorem rem_uint {o : Oper} {x y : Tmp} (ho : o.op = .binOp .rem 36 (.tmp x) (.tmp y) 36) (u m : Nat) (hm : 0 < m) (hm2 : m ≤ 1000000001) {q : Nat} (hq : q = u % m) : ∀ (ρ : Operand → Value) w, ρ (.tmp x) = .int .u64 (u : Int) → ρ (.tmp y) = .int .u64 (m : Int) → (execOp ρ o).run Tryd.prog w = .ok (.value (.int .u64 (q : Int))) w := by
  intro ρ w h0 h1
  have hlt := Nat.mod_lt u hm
  have e1 : (u : Int).tmod (m : Int) = (q : Int) := by rw [Int.tmod_eq_emod_of_nonneg (by omega), hq]; simp
  have e : IntKind.u64.wrap (q : Int) = (q : Int) := IntWalk.u64_in _ (by omega)
  have hm0 : ¬ (m : Int) = 0 := by omega
  simp only [execOp, ho, h0, h1]
  generalize (u : Int) = a at e1
  generalize (m : Int) = b at e1 hm0
  simp [go_sem, e1, e, hm0]
/-- a fingerprint in a block that was there -/
theorem loadSum {o : Oper} {x : Tmp} (ho : o.op = .load 25 (.tmp x)) {W w : World} {b : Nat} {s : List UInt8} {fz : Nat × Nat} (hb : W.heap[b]? = some (.cells (s.map byteV).toArray 25 fz)) (hw : Below W.heap.size W w) (hl : s.length = 32) (ρ : Operand → Value) (h0 : ρ (.tmp x) = .pointer (some ⟨b, 0, none⟩)) :
    (execOp ρ o).run Tryd.prog w = .ok (.value (.agg (s.map byteV).toArray)) w := by
  have hb' := (hw.block b (lt_of_block hb)).trans hb
  unfold execOp
  simp only [ho, h0, Instr.loadAt, Instr.sureAddr, Sem.run_bind, Sem.run_pure, Result.andThen_ok, run_loadVar_row w b 25 25 _ fz _ hb' Tryd.underlying25 rfl (info_sum s hl)]

theorem u64_nat {a : Int} (h : (Lit.int .u64 a).wf = true) : ∃ u : Nat, a = u ∧ u < 18446744073709551616 := by
  have h' : 0 ≤ a ∧ a ≤ 18446744073709551615 := by simpa [Lit.wf, IntKind.min, IntKind.max, IntKind.signed, IntKind.bits] using h
  exact ⟨a.toNat, by omega, by omega⟩

set_option maxHeartbeats 4000000 in
theorem walk_parts (a0 : Option Addr) (len0 cap0 : Nat) (x0 : List UInt8) (i : Int) (wi : (Lit.int .u64 i).wf = true) (k : Int) (wk : (Lit.int .u64 k).wf = true) {w : World} (w0 : inBytes x0 w.heap.size w [.slice a0 len0 cap0]) (K : Kept w) :
    Calls Tryd.prog 5 #[.slice a0 len0 cap0, .int .u64 i, .int .u64 k] w (RetYes w) := by
  obtain ⟨u, rfl, hu⟩ := u64_nat wi
  obtain ⟨v, rfl, hv⟩ := u64_nat wk
  obtain ⟨x, hx⟩ : ∃ x, x = fw x0 := ⟨_, rfl⟩
  obtain ⟨m, hm⟩ : ∃ m, x.length = m := ⟨_, rfl⟩
  have hmb : m ≤ 20000 := by rw [← hm, hx, fw_len]; omega
  obtain ⟨hl0, hc01, hc02, hc03, hv0⟩ := in_bytes w0
  have hmc : m ≤ cap0 := by rw [← hm, hx, fw_len]; omega
  have HF0 := Lib.hid (fun (w2 : World) => few_in (w := w2) w0 (hx ▸ hm))
  have VW : Hid (View w (fun k => k < w.heap.size) a0 x) := by show View w _ a0 x; rw [hx]; exact vtake hv0 20000
  have VX := Lib.hid (view_in VW.out)
  have H3 : Hid (a0 = none → cap0 = 0) := fun h => (hc03 h).2
  have HC2 := Lib.hid hc02
  have HM := Lib.hid hm
  have HMC := Lib.hid hmc
  obtain ⟨m1, hm1⟩ : ∃ m1, m1 = m + 1 := ⟨_, rfl⟩
  have hm1p : 0 < m1 := by omega
  have hm1b : m ≤ 1000000000 := by omega
  obtain ⟨mm, hmm⟩ : ∃ q, q = u % m1 := ⟨_, rfl⟩
  obtain ⟨nn, hnn⟩ : ∃ q, q = v % m1 := ⟨_, rfl⟩
  have hmmb : mm ≤ m := by have := Nat.mod_lt u hm1p; omega
  have hnnb : nn ≤ m := by have := Nat.mod_lt v hm1p; omega
  obtain ⟨lo, hlo⟩ : ∃ q, q = min mm nn := ⟨_, rfl⟩
  obtain ⟨hi, hhi⟩ : ∃ q, q = max mm nn := ⟨_, rfl⟩
  have hlohi : lo ≤ hi := by omega
  have hhim : hi ≤ m := by omega
  have hlom : lo ≤ m := by omega
  have hmin : min (mm : Int) (nn : Int) = (lo : Int) := by omega
  have hmax : max (mm : Int) (nn : Int) = (hi : Int) := by omega
  have TLO := Lib.hid (cutTo lo hm hlom hmc hc02 H3.out)
  obtain ⟨a2, c2, run2, cut2⟩ := cutMid lo hi hm hlohi hhim hmc hc02 H3.out
  obtain ⟨a3, c3, run3, cut3⟩ := cutFrom hi hm hhim hmc hc02 H3.out
  have RM := Lib.hid run2
  have TM := Lib.hid cut2
  have RF := Lib.hid run3
  have TF := Lib.hid cut3
  have VLO := Lib.hid (fun wx hwx => TLO.out.2.view wx _ (VX.out wx hwx))
  have P1 : Hid (∀ wx, Below w.heap.size w wx → View wx (fun k => k < wx.heap.size) a0 (x.take lo) ∧ (x.take lo).length = lo ∧ lo ≤ cap0 ∧ cap0 ≤ maxLen ∧ (a0 = none → cap0 = 0)) := fun wx hwx => ⟨VLO.out wx hwx, TLO.out.2.len, TLO.out.2.cap.1, TLO.out.2.cap.2, TLO.out.2.none⟩
  have P2 : Hid (∀ wx, Below w.heap.size w wx → View wx (fun k => k < wx.heap.size) a2 ((x.take hi).drop lo) ∧ ((x.take hi).drop lo).length = hi - lo ∧ hi - lo ≤ c2 ∧ c2 ≤ maxLen ∧ (a2 = none → c2 = 0)) := fun wx hwx => ⟨TM.out.view wx _ (VX.out wx hwx), TM.out.len, TM.out.cap.1, TM.out.cap.2, TM.out.none⟩
  have P3 : Hid (∀ wx, Below w.heap.size w wx → View wx (fun k => k < wx.heap.size) a3 (x.drop hi) ∧ (x.drop hi).length = m - hi ∧ m - hi ≤ c3 ∧ c3 ≤ maxLen ∧ (a3 = none → c3 = 0)) := fun wx hwx => ⟨TF.out.view wx _ (VX.out wx hwx), TF.out.len, TF.out.cap.1, TF.out.cap.2, TF.out.none⟩
  obtain ⟨SX, hSX⟩ : ∃ l, l = sha x := ⟨_, rfl⟩
  obtain ⟨SL, hSL⟩ : ∃ l, l = sha (x.take lo) := ⟨_, rfl⟩
  have LX : Hid (SX.length = 32) := by rw [hSX]; exact sha_len _
  have LL : Hid (SL.length = 32) := by rw [hSL]; exact sha_len _
  have HALL : Hid (x.take lo ++ (x.take hi).drop lo = x.take hi) := by
    show x.take lo ++ (x.take hi).drop lo = x.take hi
    have h1 : x.take lo = (x.take hi).take lo := by rw [List.take_take, Nat.min_eq_left hlohi]
    rw [h1, List.take_append_drop]
  have CX : Hid (∀ (v : Value) wx, Below w.heap.size w wx → (partsTy [x]).holds v wx → Calls Tryd.prog 9 #[v] wx fun e w' => e = .returned (.agg (SX.map byteV).toArray) ∧ Below wx.heap.size wx w') := by
    intro v wx hwx hp
    have h := K.all v [x] wx hwx hp (by simp only [List.flatten_cons, List.flatten_nil, List.append_nil]; omega) (by simp)
    simp only [List.flatten_cons, List.flatten_nil, List.append_nil] at h
    rw [hSX]; exact h
  have CL : Hid (∀ (v : Value) wx, Below w.heap.size w wx → (partsTy [x.take lo]).holds v wx → Calls Tryd.prog 9 #[v] wx fun e w' => e = .returned (.agg (SL.map byteV).toArray) ∧ Below wx.heap.size wx w') := by
    intro v wx hwx hp
    have h := K.all v [x.take lo] wx hwx hp (by simp only [List.flatten_cons, List.flatten_nil, List.append_nil, List.length_take]; omega) (by simp)
    simp only [List.flatten_cons, List.flatten_nil, List.append_nil] at h
    rw [hSL]; exact h
  have CP : Hid (∀ (v : Value) wx, Below w.heap.size w wx → (partsTy [x.take lo, (x.take hi).drop lo, [], x.drop hi]).holds v wx → Calls Tryd.prog 9 #[v] wx fun e w' => e = .returned (.agg (SX.map byteV).toArray) ∧ Below wx.heap.size wx w') := by
    intro v wx hwx hp
    have e : [x.take lo, (x.take hi).drop lo, [], x.drop hi].flatten = x := by
      simp only [List.flatten_cons, List.flatten_nil, List.append_nil, List.nil_append]
      rw [← List.append_assoc, HALL.out, List.take_append_drop]
    have h := K.all v _ wx hwx hp (by rw [e]; omega) (by simp)
    rw [e] at h
    rw [hSX]; exact h
  have SH := Lib.hid (shown_any K)
  have HSX := Lib.hid hSX
  have HSL := Lib.hid hSL
  clear hx hl0 hc01 hc02 hc03 hv0 w0 run2 run3 cut2 cut3 hSX hSL hm hmc
  go_enter Tryd.func5, Tryd.ntmps5
  go_wp2_with (fail)
  refine SH.out.mono ?_
  rintro e wa ⟨rfl, hwa⟩
  have B1 := Lib.hid ((Own.St.start w).later hwa)
  clear hwa
  go_wp2_with (fail)
  refine (HF0.out wa).mono ?_
  rintro e wb ⟨rfl, rfl⟩
  go_wp2
  refine wp_lax_list (by kernel_rfl) (by kernel_rfl) (by kernel_rfl) ?_
  refine wpL_move (.int .u64 (u : Int)) rfl (by kernel_rfl) (by kernel_rfl) (by kernel_rfl) (by kernel_rfl) ?_
  refine wpL_move (.slice a0 m cap0) rfl (by kernel_rfl) (by kernel_rfl) (by kernel_rfl) (by kernel_rfl) ?_
  refine wpL_run1 (x := .tmp 19) (.slice a0 m cap0) (.int .i64 (m : Int)) (by kernel_rfl) (by kernel_rfl) (by kernel_rfl) (by kernel_rfl) (by kernel_rfl) (fun wx ρ hwx h0 hc => by simp [go_sem, h0, hc]) ?_
  refine wpL_run1 (x := .tmp 20) (.int .i64 (m : Int)) (.int .i64 (m1 : Int)) (by kernel_rfl) (by kernel_rfl) (by kernel_rfl) (by kernel_rfl) (by kernel_rfl) (fun wx ρ hwx h0 hc => add_one rfl m hm1b hm1 ρ wx h0 hc) ?_
  refine wpL_run1 (x := .tmp 21) (.int .i64 (m1 : Int)) (.int .u64 (m1 : Int)) (by kernel_rfl) (by kernel_rfl) (by kernel_rfl) (by kernel_rfl) (by kernel_rfl) (fun wx ρ hwx h0 hc => to_uint rfl m1 (by omega) ρ wx h0 hc) ?_
  refine wpL_run2 (x := .tmp 18) (y := .tmp 22) (.int .u64 (u : Int)) (.int .u64 (m1 : Int)) (.int .u64 (mm : Int)) (by kernel_rfl) (by kernel_rfl) (by kernel_rfl) (by kernel_rfl) (by kernel_rfl) (by kernel_rfl) (fun wx ρ hwx h0 h1 hc => rem_uint rfl u m1 hm1p (by omega) hmm ρ wx h0 h1) ?_
  refine wpL_run1 (x := .tmp 23) (.int .u64 (mm : Int)) (.int .i64 (mm : Int)) (by kernel_rfl) (by kernel_rfl) (by kernel_rfl) (by kernel_rfl) (by kernel_rfl) (fun wx ρ hwx h0 hc => to_int rfl mm (by omega) ρ wx h0 hc) ?_
  refine wpL_move (.int .u64 (v : Int)) rfl (by kernel_rfl) (by kernel_rfl) (by kernel_rfl) (by kernel_rfl) ?_
  refine wpL_move (.slice a0 m cap0) rfl (by kernel_rfl) (by kernel_rfl) (by kernel_rfl) (by kernel_rfl) ?_
  refine wpL_run1 (x := .tmp 26) (.slice a0 m cap0) (.int .i64 (m : Int)) (by kernel_rfl) (by kernel_rfl) (by kernel_rfl) (by kernel_rfl) (by kernel_rfl) (fun wx ρ hwx h0 hc => by simp [go_sem, h0, hc]) ?_
  refine wpL_run1 (x := .tmp 27) (.int .i64 (m : Int)) (.int .i64 (m1 : Int)) (by kernel_rfl) (by kernel_rfl) (by kernel_rfl) (by kernel_rfl) (by kernel_rfl) (fun wx ρ hwx h0 hc => add_one rfl m hm1b hm1 ρ wx h0 hc) ?_
  refine wpL_run1 (x := .tmp 28) (.int .i64 (m1 : Int)) (.int .u64 (m1 : Int)) (by kernel_rfl) (by kernel_rfl) (by kernel_rfl) (by kernel_rfl) (by kernel_rfl) (fun wx ρ hwx h0 hc => to_uint rfl m1 (by omega) ρ wx h0 hc) ?_
  refine wpL_run2 (x := .tmp 25) (y := .tmp 29) (.int .u64 (v : Int)) (.int .u64 (m1 : Int)) (.int .u64 (nn : Int)) (by kernel_rfl) (by kernel_rfl) (by kernel_rfl) (by kernel_rfl) (by kernel_rfl) (by kernel_rfl) (fun wx ρ hwx h0 h1 hc => rem_uint rfl v m1 hm1p (by omega) hnn ρ wx h0 h1) ?_
  refine wpL_run1 (x := .tmp 30) (.int .u64 (nn : Int)) (.int .i64 (nn : Int)) (by kernel_rfl) (by kernel_rfl) (by kernel_rfl) (by kernel_rfl) (by kernel_rfl) (fun wx ρ hwx h0 hc => to_int rfl nn (by omega) ρ wx h0 hc) ?_
  refine wpL_assign (.int .i64 (mm : Int)) rfl (by kernel_rfl) (by kernel_rfl) (by kernel_rfl) (by kernel_rfl) ?_
  refine wpL_assign (.int .i64 (nn : Int)) rfl (by kernel_rfl) (by kernel_rfl) (by kernel_rfl) (by kernel_rfl) ?_
  refine wpL_end (by kernel_rfl) (fun wb hwb => ?_)
  simp only [FinL, setL, List.set_cons_zero, List.set_cons_succ]
  have B2 := Lib.hid (B1.out.later hwb)
  clear hwb B1 hmm hnn hm1 hm1p hlo hhi
  go_wp2_with (fail)
  refine (new_st K B2.out).mono ?_
  rintro e wc ⟨p, rfl, hc⟩
  have B3 := Lib.hid hc
  clear hc B2
  go_wp2_with (refine wpList_val rfl (TLO.out.1 _ _ _ rfl _ _ rfl rfl) ?_)
  refine (write_old K B3.out 0 rfl (TLO.out.2.view _ _ (View.below VW.out B3.out.below)) TLO.out.2.len TLO.out.2.cap.1 TLO.out.2.cap.2 TLO.out.2.none (by simp only [List.length_nil]; omega)).mono ?_
  rintro e wd ⟨rfl, hd⟩
  have B4 : Hid (Own.St w.heap.size w wd [K.A p (x.take lo)]) := hd
  clear hd B3
  go_wp2_with (fail)
  refine (sum_st K B4.out 0 rfl (by rw [List.length_take]; omega)).mono ?_
  rintro e we ⟨rfl, he⟩
  have B5 := Lib.hid (B4.out.later he)
  clear he B4
  have e1 : sumV (x.take lo) = .agg (SL.map byteV).toArray := by rw [HSL.out]
  rw [e1]
  clear e1
  have hst := A8.box B5.out 25 (List.replicate 32 0)
  have THERE := Lib.hid (A8.there hst 0 rfl SL (by rw [LL.out]; rfl))
  have ALL := Lib.hid (A8.setAll hst 0 rfl SL (by rw [LL.out]; rfl))
  have I1 := Lib.hid (info_sum SL LL.out)
  have O1 := Lib.hid (one8 SL)
  clear hst B5
  go_wp2_with (first
    | (refine wpList_store_mid rfl 25 (.tmp 14) (.tmp 47) rfl we.heap.size 0 (SL.map byteV).toArray rfl rfl THERE.out I1.out O1.out ?_)
    | (refine wpList_val rfl (RM.out _ _ _ _ rfl _ _ rfl rfl rfl) ?_))
  clear THERE
  refine (write_old K ALL.out 1 rfl (TM.out.view _ _ (View.below VW.out ALL.out.below)) TM.out.len TM.out.cap.1 TM.out.cap.2 TM.out.none (by rw [List.length_take]; omega)).mono ?_
  rintro e wf ⟨rfl, hf⟩
  obtain ⟨b1, hb1⟩ : ∃ b, b = we.heap.size := ⟨_, rfl⟩
  have B6 : Hid (Own.St w.heap.size w wf [A8 b1 25 SL, K.A p (x.take hi)]) := by
    have h := hf
    simp only [List.set_cons_zero, List.set_cons_succ] at h
    rw [HALL.out, ← hb1] at h
    exact h
  rw [← hb1]
  clear hf ALL hb1
  go_wp2_with (refine wpList_val rfl (RF.out _ _ _ rfl _ _ rfl rfl) ?_)
  refine (write_old K B6.out 1 rfl (TF.out.view _ _ (View.below VW.out B6.out.below)) TF.out.len TF.out.cap.1 TF.out.cap.2 TF.out.none (by rw [List.length_take]; omega)).mono ?_
  rintro e wr ⟨rfl, hg⟩
  have B7 : Hid (Own.St w.heap.size w wr [A8 b1 25 SL, K.A p x]) := by
    have h := hg
    simp only [List.set_cons_zero, List.set_cons_succ] at h
    rw [List.take_append_drop] at h
    exact h
  clear hg B6
  have HB := Lib.hid B7.out.below
  have HBS := Lib.hid B7.out.size
  have ROW := Lib.hid (A8.row B7.out 0 rfl)
  have CS : Hid (∀ wx, Below wr.heap.size wr wx → Calls Tryd.prog 14 #[.pointer (some ⟨p, 0, none⟩)] wx fun e w' => e = .returned (.agg (SX.map byteV).toArray) ∧ Below wx.heap.size wx w') := by
    intro wx hwx
    rw [HSX.out]
    exact sum_st K (B7.out.later hwx) 1 rfl (by rw [HM.out]; omega)
  clear hmin hmax
  go_wp2
  refine wp_lax_list (by kernel_rfl) (by kernel_rfl) (by kernel_rfl) ?_
  refine wpL_move (.bool true) rfl (by kernel_rfl) (by kernel_rfl) (by kernel_rfl) (by kernel_rfl) ?_
  refine wpL_move (.bool true) rfl (by kernel_rfl) (by kernel_rfl) (by kernel_rfl) (by kernel_rfl) ?_
  refine wpL_move (.slice a0 m cap0) rfl (by kernel_rfl) (by kernel_rfl) (by kernel_rfl) (by kernel_rfl) ?_
  refine wpL_move (.int .i64 (lo : Int)) rfl (by kernel_rfl) (by kernel_rfl) (by kernel_rfl) (by kernel_rfl) ?_
  refine wpL_run2 (x := .tmp 61) (y := .tmp 62) (.slice a0 m cap0) (.int .i64 (lo : Int)) (.slice a0 lo cap0) (by kernel_rfl) (by kernel_rfl) (by kernel_rfl) (by kernel_rfl) (by kernel_rfl) (by kernel_rfl) (fun wx ρ hwx h0 h1 hc => TLO.out.1 _ _ _ rfl ρ wx h0 h1) ?_
  refine wpL_move (.slice a0 m cap0) rfl (by kernel_rfl) (by kernel_rfl) (by kernel_rfl) (by kernel_rfl) ?_
  refine wpL_move (.int .i64 (lo : Int)) rfl (by kernel_rfl) (by kernel_rfl) (by kernel_rfl) (by kernel_rfl) ?_
  refine wpL_move (.int .i64 (hi : Int)) rfl (by kernel_rfl) (by kernel_rfl) (by kernel_rfl) (by kernel_rfl) ?_
  refine wpL_run3 (x := .tmp 64) (y := .tmp 65) (z := .tmp 66) (.slice a0 m cap0) (.int .i64 (lo : Int)) (.int .i64 (hi : Int)) (.slice a2 (hi - lo) c2) (by kernel_rfl) (by kernel_rfl) (by kernel_rfl) (by kernel_rfl) (by kernel_rfl) (by kernel_rfl) (by kernel_rfl) (fun wx ρ hwx h0 h1 h2 hc => RM.out _ _ _ _ rfl ρ wx h0 h1 h2) ?_
  refine wpL_move (.slice a0 m cap0) rfl (by kernel_rfl) (by kernel_rfl) (by kernel_rfl) (by kernel_rfl) ?_
  refine wpL_move (.int .i64 (hi : Int)) rfl (by kernel_rfl) (by kernel_rfl) (by kernel_rfl) (by kernel_rfl) ?_
  refine wpL_run2 (x := .tmp 68) (y := .tmp 69) (.slice a0 m cap0) (.int .i64 (hi : Int)) (.slice a3 (m - hi) c3) (by kernel_rfl) (by kernel_rfl) (by kernel_rfl) (by kernel_rfl) (by kernel_rfl) (by kernel_rfl) (fun wx ρ hwx h0 h1 hc => RF.out _ _ _ rfl ρ wx h0 h1) ?_
  refine wpL_runT (partsTy [x.take lo, (x.take hi).drop lo, [], x.drop hi]) rfl (by kernel_rfl) (by kernel_rfl) (by kernel_rfl) (by kernel_rfl) (fun wx hwx => build4 rfl _ (by kernel_rfl) (by kernel_rfl) (by kernel_rfl) (by kernel_rfl) wx (P1.out wx (HB.out.trans (hwx.mono HBS.out))) (P2.out wx (HB.out.trans (hwx.mono HBS.out))) (P3.out wx (HB.out.trans (hwx.mono HBS.out)))) ?_
  refine wpL_fnUV (.agg (SX.map byteV).toArray) rfl rfl (by kernel_rfl) (by kernel_rfl) (fun _ _ => by simp [go_sem]) (fun u wx hwx hu => CP.out u wx (HB.out.trans (hwx.mono HBS.out)) hu) ?_
  refine wpL_move (.slice a0 m cap0) rfl (by kernel_rfl) (by kernel_rfl) (by kernel_rfl) (by kernel_rfl) ?_
  refine wpL_runT (partsTy [x]) rfl (by kernel_rfl) (by kernel_rfl) (by kernel_rfl) (by kernel_rfl) (fun wx hwx => build1 rfl _ (by kernel_rfl) wx (VX.out wx (HB.out.trans (hwx.mono HBS.out))) HM.out HMC.out HC2.out H3.out) ?_
  refine wpL_fnUV (.agg (SX.map byteV).toArray) rfl rfl (by kernel_rfl) (by kernel_rfl) (fun _ _ => by simp [go_sem]) (fun u wx hwx hu => CX.out u wx (HB.out.trans (hwx.mono HBS.out)) hu) ?_
  refine wpL_run2 (x := .tmp 72) (y := .tmp 75) (.agg (SX.map byteV).toArray) (.agg (SX.map byteV).toArray) (.bool true) (by kernel_rfl) (by kernel_rfl) (by kernel_rfl) (by kernel_rfl) (by kernel_rfl) (by kernel_rfl) (fun wx ρ hwx h0 h1 hc => eqlSum rfl LX.out LX.out (decide_eq_true rfl) ρ wx h0 h1) ?_
  refine wpL_run2 (x := .tmp 60) (y := .tmp 76) (.bool true) (.bool true) (.bool true) (by kernel_rfl) (by kernel_rfl) (by kernel_rfl) (by kernel_rfl) (by kernel_rfl) (by kernel_rfl) (fun wx ρ hwx h0 h1 hc => by simp [go_sem, h0, h1]) ?_
  refine wpL_move (.bool true) rfl (by kernel_rfl) (by kernel_rfl) (by kernel_rfl) (by kernel_rfl) ?_
  refine wpL_move (.pointer (some ⟨p, 0, none⟩)) rfl (by kernel_rfl) (by kernel_rfl) (by kernel_rfl) (by kernel_rfl) ?_
  refine wpL_fn (.agg (SX.map byteV).toArray) [.pointer (some ⟨p, 0, none⟩)] rfl (by kernel_rfl) (by kernel_rfl) (by kernel_rfl) (by kernel_rfl) (fun _ _ => by simp [go_sem]) (fun wx hwx => CS.out wx hwx) ?_
  refine wpL_move (.slice a0 m cap0) rfl (by kernel_rfl) (by kernel_rfl) (by kernel_rfl) (by kernel_rfl) ?_
  refine wpL_runT (partsTy [x]) rfl (by kernel_rfl) (by kernel_rfl) (by kernel_rfl) (by kernel_rfl) (fun wx hwx => build1 rfl _ (by kernel_rfl) wx (VX.out wx (HB.out.trans (hwx.mono HBS.out))) HM.out HMC.out HC2.out H3.out) ?_
  refine wpL_fnUV (.agg (SX.map byteV).toArray) rfl rfl (by kernel_rfl) (by kernel_rfl) (fun _ _ => by simp [go_sem]) (fun u wx hwx hu => CX.out u wx (HB.out.trans (hwx.mono HBS.out)) hu) ?_
  refine wpL_run2 (x := .tmp 80) (y := .tmp 83) (.agg (SX.map byteV).toArray) (.agg (SX.map byteV).toArray) (.bool true) (by kernel_rfl) (by kernel_rfl) (by kernel_rfl) (by kernel_rfl) (by kernel_rfl) (by kernel_rfl) (fun wx ρ hwx h0 h1 hc => eqlSum rfl LX.out LX.out (decide_eq_true rfl) ρ wx h0 h1) ?_
  refine wpL_run2 (x := .tmp 78) (y := .tmp 84) (.bool true) (.bool true) (.bool true) (by kernel_rfl) (by kernel_rfl) (by kernel_rfl) (by kernel_rfl) (by kernel_rfl) (by kernel_rfl) (fun wx ρ hwx h0 h1 hc => by simp [go_sem, h0, h1]) ?_
  refine wpL_move (.bool true) rfl (by kernel_rfl) (by kernel_rfl) (by kernel_rfl) (by kernel_rfl) ?_
  refine wpL_run1 (x := .tmp 14) (.pointer (some ⟨b1, 0, none⟩)) (.agg (SL.map byteV).toArray) (by kernel_rfl) (by kernel_rfl) (by kernel_rfl) (by kernel_rfl) (by kernel_rfl) (fun wx ρ hwx h0 hc => loadSum rfl ROW.out hwx LL.out ρ h0) ?_
  refine wpL_move (.slice a0 m cap0) rfl (by kernel_rfl) (by kernel_rfl) (by kernel_rfl) (by kernel_rfl) ?_
  refine wpL_move (.int .i64 (lo : Int)) rfl (by kernel_rfl) (by kernel_rfl) (by kernel_rfl) (by kernel_rfl) ?_
  refine wpL_run2 (x := .tmp 88) (y := .tmp 89) (.slice a0 m cap0) (.int .i64 (lo : Int)) (.slice a0 lo cap0) (by kernel_rfl) (by kernel_rfl) (by kernel_rfl) (by kernel_rfl) (by kernel_rfl) (by kernel_rfl) (fun wx ρ hwx h0 h1 hc => TLO.out.1 _ _ _ rfl ρ wx h0 h1) ?_
  refine wpL_runT (partsTy [(x.take lo)]) rfl (by kernel_rfl) (by kernel_rfl) (by kernel_rfl) (by kernel_rfl) (fun wx hwx => build1 rfl _ (by kernel_rfl) wx (VLO.out wx (HB.out.trans (hwx.mono HBS.out))) TLO.out.2.len TLO.out.2.cap.1 TLO.out.2.cap.2 TLO.out.2.none) ?_
  refine wpL_fnUV (.agg (SL.map byteV).toArray) rfl rfl (by kernel_rfl) (by kernel_rfl) (fun _ _ => by simp [go_sem]) (fun u wx hwx hu => CL.out u wx (HB.out.trans (hwx.mono HBS.out)) hu) ?_
  refine wpL_run2 (x := .tmp 87) (y := .tmp 92) (.agg (SL.map byteV).toArray) (.agg (SL.map byteV).toArray) (.bool true) (by kernel_rfl) (by kernel_rfl) (by kernel_rfl) (by kernel_rfl) (by kernel_rfl) (by kernel_rfl) (fun wx ρ hwx h0 h1 hc => eqlSum rfl LL.out LL.out (decide_eq_true rfl) ρ wx h0 h1) ?_
  refine wpL_run2 (x := .tmp 86) (y := .tmp 93) (.bool true) (.bool true) (.bool true) (by kernel_rfl) (by kernel_rfl) (by kernel_rfl) (by kernel_rfl) (by kernel_rfl) (by kernel_rfl) (fun wx ρ hwx h0 h1 hc => by simp [go_sem, h0, h1]) ?_
  refine wpL_assign (.bool true) rfl (by kernel_rfl) (by kernel_rfl) (by kernel_rfl) (by kernel_rfl) ?_
  refine wpL_end (by kernel_rfl) (fun wz hwz v91 h91 v82 h82 v74 h74 v71 h71 => ?_)
  simp only [FinL, setL, List.set_cons_zero, List.set_cons_succ]
  have BZ := Lib.hid (HB.out.trans (hwz.mono HBS.out))
  clear hwz h91 h82 h74 h71
  go_wp2
  go_ret
  exact ⟨rfl, BZ.out⟩

end Spo
end Go.Proofs.YtfbpajiddkehnaaDoor
