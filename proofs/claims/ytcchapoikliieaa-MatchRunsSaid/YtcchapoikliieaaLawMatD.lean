/- MatchRuns: the walk. -/
import Derived.Test.YtcchapoikliieaaLawMatC
namespace Go.Proofs.Ytcchapoikliieaa
open Go.RowKit Go.Own
namespace Mat
open Go.MatM Byt

theorem gtr2 {o : Oper} {x y : Operand} (ho : o.op = .binOp .gtr 3 x y 3) (k j : Int) {v : Bool} (hv : decide (k > j) = v) (ρ : Operand → Value) (w : World) (h0 : ρ x = .int .i64 k) (h1 : ρ y = .int .i64 j) : (execOp ρ o).run Try.prog w = .ok (.value (.bool v)) w := by
  simp only [execOp, ho, h0, h1]
  simp [go_sem, ← hv]
theorem sub_two {o : Oper} {x y : Tmp} (ho : o.op = .binOp .sub 3 (.tmp x) (.tmp y) 3) (k j : Nat) (hb : j ≤ k ∧ k ≤ 1000000000) {q : Nat} (hq : q = k - j) (ρ : Operand → Value) (w : World) (h0 : ρ (.tmp x) = .int .i64 (k : Int)) (h1 : ρ (.tmp y) = .int .i64 (j : Int)) : (execOp ρ o).run Try.prog w = .ok (.value (.int .i64 (q : Int))) w := by
  have e : IntKind.i64.wrap ((k : Int) - (j : Int)) = (q : Int) := (IntWalk.i64_in _ (by omega)).trans (by omega)
  simp only [execOp, ho, h0, h1]
  generalize (k : Int) = m at e
  generalize (j : Int) = m2 at e
  simp [go_sem, e]
theorem add_oneN {o : Oper} {x : Tmp} (ho : o.op = .binOp .add 3 (.tmp x) (.const (.int .i64 1)) 3) (k : Nat) (hb : k ≤ 1000000000) {q : Nat} (hq : q = k + 1) (ρ : Operand → Value) (w : World) (h0 : ρ (.tmp x) = .int .i64 (k : Int)) (h1 : ρ (.const (.int .i64 1)) = .int .i64 1) : (execOp ρ o).run Try.prog w = .ok (.value (.int .i64 (q : Int))) w := by
  have e : IntKind.i64.wrap ((k : Int) + 1) = (q : Int) := (IntWalk.i64_in _ (by omega)).trans (by omega)
  simp only [execOp, ho, h0, h1]
  generalize (k : Int) = m at e
  simp [go_sem, e]
theorem idx_two0 {o : Oper} {x : Tmp} (ho : o.op = .indexAddr 32 (.tmp x) (.const (.int .i64 0))) {g k : Nat} (ρ : Operand → Value) (w : World) (h0 : ρ (.tmp x) = .pointer (some ⟨g, k, none⟩)) (h1 : ρ (.const (.int .i64 0)) = .int .i64 0) : (execOp ρ o).run Try.prog w = .ok (.value (.pointer (some ⟨g, k, none⟩))) w := by
  simp [execOp, ho, h0, h1, go_sem, add_of]
theorem idx_two1 {o : Oper} {x : Tmp} (ho : o.op = .indexAddr 32 (.tmp x) (.const (.int .i64 1))) {g k : Nat} (ρ : Operand → Value) (w : World) (h0 : ρ (.tmp x) = .pointer (some ⟨g, k, none⟩)) (h1 : ρ (.const (.int .i64 1)) = .int .i64 1) : (execOp ρ o).run Try.prog w = .ok (.value (.pointer (some ⟨g, k + 1, none⟩))) w := by
  simp [execOp, ho, h0, h1, go_sem, add_of]
theorem loadI {o : Oper} {x : Tmp} (ho : o.op = .load 3 (.tmp x)) {a : Addr} {k : Nat} (ρ : Operand → Value) {w : World} (hc : w.cell? a = some (.int .i64 (k : Int))) (h0 : ρ (.tmp x) = .pointer (some a)) : (execOp ρ o).run Try.prog w = .ok (.value (.int .i64 (k : Int))) w := by
  simp [execOp, ho, h0, go_sem, hc]
theorem str_oldB {W : World} {D : Nat → Prop} {ao : Option Addr} {l : List UInt8} {n : Nat} (hV : View W D ao l) (hn : l.length = n) (cap : Nat) {w : World} (hb : Below W.heap.size W w) :
    (convert 22 9 (.slice ao n cap)).run Try.prog w = .ok (.string (strB l)) w := by
  subst hn
  exact run_str (P := Try.prog) 22 5 9 Try.underlying22 Try.underlying5 Try.underlying9 ((hV.live.mono fun k hk => hk.2).below hb) cap
theorem one_mid (l : Bs) (j : Nat) (hj : j < l.length) : (l.take (j + 1)).drop j = [by' l j] := by
  have h : ((l.take (j + 1)).drop j).length = 1 := by simp; omega
  obtain ⟨c, hc⟩ := List.length_eq_one_iff.1 h
  rw [hc]
  have e := congrArg (fun z : Bs => z[0]?) hc
  simp only [List.getElem?_drop, List.getElem?_take] at e
  rw [if_pos (by omega)] at e
  simp at e
  unfold by'
  rw [List.getD_eq_getElem?_getD, e]
  rfl

set_option maxRecDepth 4000 in
set_option maxHeartbeats 4000000 in
theorem walk_runs (a0 : Option Addr) (len0 cap0 : Nat) (x0 : Bs) {w : World} (w0 : inBytes x0 w.heap.size w [.slice a0 len0 cap0]) (K : Kept w) :
    Calls Try.prog 6 #[.slice a0 len0 cap0] w (RetYes w) := by
  obtain ⟨m, hm, hg, hf⟩ := few_in w0
  have HF := Lib.hid hf
  have SH := Lib.hid (shown_any K)
  obtain ⟨x, hx⟩ : ∃ x, x = fw x0 := ⟨_, rfl⟩
  rw [← hx] at hg
  have HL := Lib.hid hg.size
  have HG := Lib.hid hg
  have C1 := Lib.hid (fun wx (hwx : Below w.heap.size w wx) => K.all a0 m cap0 x wx hwx (hg.later hwx) (by omega))
  clear hx hg hf w0 K
  go_enter Try.func6, Try.ntmps6
  go_wp2_with (fail)
  refine SH.out.mono ?_
  rintro e w1 ⟨rfl, h1⟩
  have B1 := Lib.hid ((Own.St.start w).later h1)
  clear h1
  go_wp2_with (fail)
  refine (HF.out w1).mono ?_
  rintro e w2 ⟨rfl, rfl⟩
  go_wp2_with (fail)
  refine (C1.out w1 B1.out.below).mono ?_
  intro e w2 h2
  obtain ⟨a1, c1, rfl, k2⟩ := all_st B1.out h2
  have B2 := Lib.hid k2
  clear k2 h2 B1
  go_wp2
  go_loopw [22] (fun v wr => ∃ i : Nat, i ≤ m ∧ v = .int .i64 (i : Int) ∧ Own.St w.heap.size w wr [AQ a1 m c1 (alls x)]) (fun v _ => m - (intOf v).toNat)
  case atStart => exact ⟨0, Nat.zero_le _, rfl, B2.out⟩
  case round =>
    obtain ⟨i, him, rfl, H⟩ := hrel
    have H := Lib.hid H
    clear B2
    by_cases hi : i < m
    · obtain ⟨d, n, hdn⟩ : ∃ d n, longest x i = (d, n) := ⟨_, _, rfl⟩
      have HRUN := Lib.hid (longest_runs x i d n hdn)
      obtain ⟨g, rfl, ca, cb⟩ := aq_at H.out 0 rfl i hi
      rw [alls_at x i (by rw [HL.out]; exact hi), hdn] at ca cb
      have CE : Hid (∀ wx, Below wr.heap.size wr wx → wx.cell? ⟨g, 2 * i, none⟩ = some (.int .i64 (d : Int)) ∧ wx.cell? ⟨g, 2 * i + 1, none⟩ = some (.int .i64 (n : Int))) := fun wx hwx => ⟨cell_later ca hwx, cell_later cb hwx⟩
      clear ca cb hdn
      go_wp2
      refine wp_lax_list (by kernel_rfl) (by kernel_rfl) (by kernel_rfl) ?_
      refine wpL_move (.slice (some ⟨g, 0, none⟩) m c1) rfl (by kernel_rfl) (by kernel_rfl) (by kernel_rfl) (by kernel_rfl) ?_
      refine wpL_move (.int .i64 (i : Int)) rfl (by kernel_rfl) (by kernel_rfl) (by kernel_rfl) (by kernel_rfl) ?_
      refine wpL_run2 (x := .tmp 25) (y := .tmp 26) (.slice (some ⟨g, 0, none⟩) m c1) (.int .i64 (i : Int)) (.pointer (some ⟨g, 2 * i, none⟩)) (by kernel_rfl) (by kernel_rfl) (by kernel_rfl) (by kernel_rfl) (by kernel_rfl) (by kernel_rfl) (fun wx ρ hwx h0 h1 hc => idx_pair rfl g m c1 i hi ρ wx h0 h1) ?_
      refine wpL_run1 (x := .tmp 27) (.pointer (some ⟨g, 2 * i, none⟩)) (.pointer (some ⟨g, 2 * i, none⟩)) (by kernel_rfl) (by kernel_rfl) (by kernel_rfl) (by kernel_rfl) (by kernel_rfl) (fun wx ρ hwx h0 hc => idx_two0 rfl ρ wx h0 (hc _)) ?_
      refine wpL_run1 (x := .tmp 28) (.pointer (some ⟨g, 2 * i, none⟩)) (.int .i64 (d : Int)) (by kernel_rfl) (by kernel_rfl) (by kernel_rfl) (by kernel_rfl) (by kernel_rfl) (fun wx ρ hwx h0 hc => loadI rfl ρ (CE.out wx hwx).1 h0) ?_
      refine wpL_move (.slice (some ⟨g, 0, none⟩) m c1) rfl (by kernel_rfl) (by kernel_rfl) (by kernel_rfl) (by kernel_rfl) ?_
      refine wpL_move (.int .i64 (i : Int)) rfl (by kernel_rfl) (by kernel_rfl) (by kernel_rfl) (by kernel_rfl) ?_
      refine wpL_run2 (x := .tmp 30) (y := .tmp 31) (.slice (some ⟨g, 0, none⟩) m c1) (.int .i64 (i : Int)) (.pointer (some ⟨g, 2 * i, none⟩)) (by kernel_rfl) (by kernel_rfl) (by kernel_rfl) (by kernel_rfl) (by kernel_rfl) (by kernel_rfl) (fun wx ρ hwx h0 h1 hc => idx_pair rfl g m c1 i hi ρ wx h0 h1) ?_
      refine wpL_run1 (x := .tmp 32) (.pointer (some ⟨g, 2 * i, none⟩)) (.pointer (some ⟨g, 2 * i + 1, none⟩)) (by kernel_rfl) (by kernel_rfl) (by kernel_rfl) (by kernel_rfl) (by kernel_rfl) (fun wx ρ hwx h0 hc => idx_two1 rfl ρ wx h0 (hc _)) ?_
      refine wpL_run1 (x := .tmp 33) (.pointer (some ⟨g, 2 * i + 1, none⟩)) (.int .i64 (n : Int)) (by kernel_rfl) (by kernel_rfl) (by kernel_rfl) (by kernel_rfl) (by kernel_rfl) (fun wx ρ hwx h0 hc => loadI rfl ρ (CE.out wx hwx).2 h0) ?_
      refine wpL_assign (.int .i64 (d : Int)) rfl (by kernel_rfl) (by kernel_rfl) (by kernel_rfl) (by kernel_rfl) ?_
      refine wpL_assign (.int .i64 (n : Int)) rfl (by kernel_rfl) (by kernel_rfl) (by kernel_rfl) (by kernel_rfl) ?_
      refine wpL_end (by kernel_rfl) (fun wd hwd => ?_)
      simp only [FinL, setL, List.set_cons_zero, List.set_cons_succ]
      have G := Lib.hid (H.out.later hwd)
      clear hwd CE H
      by_cases hz : d = 0 ∧ n = 0
      · have hd0 : ((d : Int) == 0) = true := by simp; omega
        have hn0 : ((n : Int) == 0) = true := by simp; omega
        clear hz HRUN
        go_wp2
        go_roundw
        case rel => exact ⟨i + 1, by omega, by go_num, G.out⟩
        case measure => simp [intOf]; omega
      · obtain ⟨hd1, hd2, hd3, hn1, hn2, hin, heq, hne⟩ := HRUN.out hz
        rw [HL.out] at hin hne
        have HEQ := Lib.hid heq
        have HNE := Lib.hid hne
        clear heq hne hz HRUN
        obtain ⟨b, o, hao, _, _, _⟩ := vat HG.out.view (k := i) (by rw [HL.out]; exact hi)
        have HAO := Lib.hid hao
        have HBYTE : Hid (∀ wx j, Below w.heap.size w wx → j < m → wx.cell? ⟨b, o + j, none⟩ = some (.int .u8 ((by' x j).toNat : Int))) := by
          intro wx j hwx hj
          obtain ⟨b', o', h1, _, _, h2⟩ := vat (View.below HG.out.view hwx) (k := j) (by rw [HL.out]; exact hj)
          rw [HAO.out] at h1
          cases h1
          exact h2
        clear hao
        obtain ⟨qn, hqn'⟩ : ∃ q, q = i + n := ⟨_, rfl⟩
        obtain ⟨q1, hq1⟩ : ∃ q, q = i + 1 := ⟨_, rfl⟩
        obtain ⟨p, hp⟩ : ∃ q, q = i - d := ⟨_, rfl⟩
        obtain ⟨p1, hp1⟩ : ∃ q, q = p + 1 := ⟨_, rfl⟩
        obtain ⟨z, hzz⟩ : ∃ z, z = [by' x i] := ⟨_, rfl⟩
        obtain ⟨a2, c2, run2, cut2⟩ := cutMid i q1 HL.out (by omega) (by omega) HG.out.room.1 HG.out.room.2 HG.out.nil
        obtain ⟨a3, c3, run3, cut3⟩ := cutMid p p1 HL.out (by omega) (by omega) HG.out.room.1 HG.out.room.2 HG.out.nil
        rw [show q1 - i = 1 by omega] at run2 cut2
        rw [show p1 - p = 1 by omega] at run3 cut3
        rw [hq1, one_mid x i (by rw [HL.out]; omega), ← hzz] at cut2
        rw [hp1, one_mid x p (by rw [HL.out]; omega), show by' x p = by' x i by have h := HEQ.out 0 (by omega); rw [Nat.add_zero, ← hp] at h; exact h.symm, ← hzz] at cut3
        have R2 := Lib.hid run2
        have R3 := Lib.hid run3
        have V2 := Lib.hid (cut2.view w _ HG.out.view)
        have V3 := Lib.hid (cut3.view w _ HG.out.view)
        have L2 := Lib.hid cut2.len
        have L3 := Lib.hid cut3.len
        have HQN := Lib.hid hqn'
        have HQ1 := Lib.hid hq1
        have HP := Lib.hid hp
        have HP1 := Lib.hid hp1
        have hpm : p < m := by omega
        have hqnm : qn ≤ m := by omega
        have BW : Hid (∀ wx, Below wd.heap.size wd wx → Below w.heap.size w wx) := fun wx h => G.out.below.trans (h.mono G.out.size)
        have H42 : Hid (decide ((d : Int) < 1) = false) := by show decide ((d : Int) < 1) = false; simp; omega
        have H45 : Hid (decide ((d : Int) > 256) = false) := by show decide ((d : Int) > 256) = false; simp; omega
        have H50 : Hid (decide ((d : Int) > (i : Int)) = false) := by show decide ((d : Int) > (i : Int)) = false; simp; omega
        have H54 : Hid (decide ((n : Int) < 3) = false) := by show decide ((n : Int) < 3) = false; simp; omega
        have H58 : Hid (decide ((n : Int) > 130) = false) := by show decide ((n : Int) > 130) = false; simp; omega
        have H66 : Hid (decide ((qn : Int) > (m : Int)) = false) := by show decide ((qn : Int) > (m : Int)) = false; simp; omega
        have hn0 : ((n : Int) == 0) = false := by simp; omega
        clear run2 run3 cut2 cut3 hzz hp1 hq1
        clear hp hqn'
        go_wp2
        refine wp_lax_list (by kernel_rfl) (by kernel_rfl) (by kernel_rfl) ?_
        refine wpL_move (.int .i64 (d : Int)) rfl (by kernel_rfl) (by kernel_rfl) (by kernel_rfl) (by kernel_rfl) ?_
        refine wpL_run1 (x := .tmp 41) (.int .i64 (d : Int)) (.bool false) (by kernel_rfl) (by kernel_rfl) (by kernel_rfl) (by kernel_rfl) (by kernel_rfl) (fun wx ρ hwx h0 hc => lss2 rfl _ _ H42.out ρ wx h0 (hc _)) ?_
        refine wpL_move (.bool false) rfl (by kernel_rfl) (by kernel_rfl) (by kernel_rfl) (by kernel_rfl) ?_
        refine wpL_move (.int .i64 (d : Int)) rfl (by kernel_rfl) (by kernel_rfl) (by kernel_rfl) (by kernel_rfl) ?_
        refine wpL_run1 (x := .tmp 44) (.int .i64 (d : Int)) (.bool false) (by kernel_rfl) (by kernel_rfl) (by kernel_rfl) (by kernel_rfl) (by kernel_rfl) (fun wx ρ hwx h0 hc => gtr2 rfl _ _ H45.out ρ wx h0 (hc _)) ?_
        refine wpL_run2 (x := .tmp 43) (y := .tmp 45) (.bool false) (.bool false) (.bool false) (by kernel_rfl) (by kernel_rfl) (by kernel_rfl) (by kernel_rfl) (by kernel_rfl) (by kernel_rfl) (fun wx ρ hwx h0 h1 hc => by simp [go_sem, h0, h1, hc]) ?_
        refine wpL_move (.bool false) rfl (by kernel_rfl) (by kernel_rfl) (by kernel_rfl) (by kernel_rfl) ?_
        refine wpL_move (.int .i64 (d : Int)) rfl (by kernel_rfl) (by kernel_rfl) (by kernel_rfl) (by kernel_rfl) ?_
        refine wpL_move (.int .i64 (i : Int)) rfl (by kernel_rfl) (by kernel_rfl) (by kernel_rfl) (by kernel_rfl) ?_
        refine wpL_run2 (x := .tmp 48) (y := .tmp 49) (.int .i64 (d : Int)) (.int .i64 (i : Int)) (.bool false) (by kernel_rfl) (by kernel_rfl) (by kernel_rfl) (by kernel_rfl) (by kernel_rfl) (by kernel_rfl) (fun wx ρ hwx h0 h1 hc => gtr2 rfl _ _ H50.out ρ wx h0 h1) ?_
        refine wpL_run2 (x := .tmp 47) (y := .tmp 50) (.bool false) (.bool false) (.bool false) (by kernel_rfl) (by kernel_rfl) (by kernel_rfl) (by kernel_rfl) (by kernel_rfl) (by kernel_rfl) (fun wx ρ hwx h0 h1 hc => by simp [go_sem, h0, h1, hc]) ?_
        refine wpL_move (.bool false) rfl (by kernel_rfl) (by kernel_rfl) (by kernel_rfl) (by kernel_rfl) ?_
        refine wpL_move (.int .i64 (n : Int)) rfl (by kernel_rfl) (by kernel_rfl) (by kernel_rfl) (by kernel_rfl) ?_
        refine wpL_run1 (x := .tmp 53) (.int .i64 (n : Int)) (.bool false) (by kernel_rfl) (by kernel_rfl) (by kernel_rfl) (by kernel_rfl) (by kernel_rfl) (fun wx ρ hwx h0 hc => lss2 rfl _ _ H54.out ρ wx h0 (hc _)) ?_
        refine wpL_run2 (x := .tmp 52) (y := .tmp 54) (.bool false) (.bool false) (.bool false) (by kernel_rfl) (by kernel_rfl) (by kernel_rfl) (by kernel_rfl) (by kernel_rfl) (by kernel_rfl) (fun wx ρ hwx h0 h1 hc => by simp [go_sem, h0, h1, hc]) ?_
        refine wpL_move (.bool false) rfl (by kernel_rfl) (by kernel_rfl) (by kernel_rfl) (by kernel_rfl) ?_
        refine wpL_move (.int .i64 (n : Int)) rfl (by kernel_rfl) (by kernel_rfl) (by kernel_rfl) (by kernel_rfl) ?_
        refine wpL_run1 (x := .tmp 57) (.int .i64 (n : Int)) (.bool false) (by kernel_rfl) (by kernel_rfl) (by kernel_rfl) (by kernel_rfl) (by kernel_rfl) (fun wx ρ hwx h0 hc => gtr2 rfl _ _ H58.out ρ wx h0 (hc _)) ?_
        refine wpL_run2 (x := .tmp 56) (y := .tmp 58) (.bool false) (.bool false) (.bool false) (by kernel_rfl) (by kernel_rfl) (by kernel_rfl) (by kernel_rfl) (by kernel_rfl) (by kernel_rfl) (fun wx ρ hwx h0 h1 hc => by simp [go_sem, h0, h1, hc]) ?_
        refine wpL_move (.bool false) rfl (by kernel_rfl) (by kernel_rfl) (by kernel_rfl) (by kernel_rfl) ?_
        refine wpL_move (.int .i64 (i : Int)) rfl (by kernel_rfl) (by kernel_rfl) (by kernel_rfl) (by kernel_rfl) ?_
        refine wpL_move (.int .i64 (n : Int)) rfl (by kernel_rfl) (by kernel_rfl) (by kernel_rfl) (by kernel_rfl) ?_
        refine wpL_run2 (x := .tmp 61) (y := .tmp 62) (.int .i64 (i : Int)) (.int .i64 (n : Int)) (.int .i64 (qn : Int)) (by kernel_rfl) (by kernel_rfl) (by kernel_rfl) (by kernel_rfl) (by kernel_rfl) (by kernel_rfl) (fun wx ρ hwx h0 h1 hc => add_two rfl i n (by omega) HQN.out ρ wx h0 h1) ?_
        refine wpL_move (.slice a0 m cap0) rfl (by kernel_rfl) (by kernel_rfl) (by kernel_rfl) (by kernel_rfl) ?_
        refine wpL_run1 (x := .tmp 64) (.slice a0 m cap0) (.int .i64 (m : Int)) (by kernel_rfl) (by kernel_rfl) (by kernel_rfl) (by kernel_rfl) (by kernel_rfl) (fun wx ρ hwx h0 hc => by simp [go_sem, h0, hc]) ?_
        refine wpL_run2 (x := .tmp 63) (y := .tmp 65) (.int .i64 (qn : Int)) (.int .i64 (m : Int)) (.bool false) (by kernel_rfl) (by kernel_rfl) (by kernel_rfl) (by kernel_rfl) (by kernel_rfl) (by kernel_rfl) (fun wx ρ hwx h0 h1 hc => gtr2 rfl _ _ H66.out ρ wx h0 h1) ?_
        refine wpL_run2 (x := .tmp 60) (y := .tmp 66) (.bool false) (.bool false) (.bool false) (by kernel_rfl) (by kernel_rfl) (by kernel_rfl) (by kernel_rfl) (by kernel_rfl) (by kernel_rfl) (fun wx ρ hwx h0 h1 hc => by simp [go_sem, h0, h1, hc]) ?_
        refine wpL_move (.bool false) rfl (by kernel_rfl) (by kernel_rfl) (by kernel_rfl) (by kernel_rfl) ?_
        refine wpL_move (.slice a0 m cap0) rfl (by kernel_rfl) (by kernel_rfl) (by kernel_rfl) (by kernel_rfl) ?_
        refine wpL_move (.int .i64 (i : Int)) rfl (by kernel_rfl) (by kernel_rfl) (by kernel_rfl) (by kernel_rfl) ?_
        refine wpL_move (.int .i64 (i : Int)) rfl (by kernel_rfl) (by kernel_rfl) (by kernel_rfl) (by kernel_rfl) ?_
        refine wpL_run1 (x := .tmp 71) (.int .i64 (i : Int)) (.int .i64 (q1 : Int)) (by kernel_rfl) (by kernel_rfl) (by kernel_rfl) (by kernel_rfl) (by kernel_rfl) (fun wx ρ hwx h0 hc => add_oneN rfl i (by omega) HQ1.out ρ wx h0 (hc _)) ?_
        refine wpL_run3 (x := .tmp 69) (y := .tmp 70) (z := .tmp 72) (.slice a0 m cap0) (.int .i64 (i : Int)) (.int .i64 (q1 : Int)) (.slice a2 1 c2) (by kernel_rfl) (by kernel_rfl) (by kernel_rfl) (by kernel_rfl) (by kernel_rfl) (by kernel_rfl) (by kernel_rfl) (fun wx ρ hwx h0 h1 h2 hc => R2.out _ _ _ _ rfl ρ wx h0 h1 h2) ?_
        refine wpL_convK (.slice a2 1 c2) (.string (strB z)) rfl (by kernel_rfl) (by kernel_rfl) (by kernel_rfl) (by kernel_rfl) (fun wx hwx => str_oldB V2.out L2.out c2 (BW.out wx hwx)) ?_
        refine wpL_move (.slice a0 m cap0) rfl (by kernel_rfl) (by kernel_rfl) (by kernel_rfl) (by kernel_rfl) ?_
        refine wpL_move (.int .i64 (i : Int)) rfl (by kernel_rfl) (by kernel_rfl) (by kernel_rfl) (by kernel_rfl) ?_
        refine wpL_move (.int .i64 (d : Int)) rfl (by kernel_rfl) (by kernel_rfl) (by kernel_rfl) (by kernel_rfl) ?_
        refine wpL_run2 (x := .tmp 76) (y := .tmp 77) (.int .i64 (i : Int)) (.int .i64 (d : Int)) (.int .i64 (p : Int)) (by kernel_rfl) (by kernel_rfl) (by kernel_rfl) (by kernel_rfl) (by kernel_rfl) (by kernel_rfl) (fun wx ρ hwx h0 h1 hc => sub_two rfl i d (by omega) HP.out ρ wx h0 h1) ?_
        refine wpL_move (.int .i64 (i : Int)) rfl (by kernel_rfl) (by kernel_rfl) (by kernel_rfl) (by kernel_rfl) ?_
        refine wpL_move (.int .i64 (d : Int)) rfl (by kernel_rfl) (by kernel_rfl) (by kernel_rfl) (by kernel_rfl) ?_
        refine wpL_run2 (x := .tmp 79) (y := .tmp 80) (.int .i64 (i : Int)) (.int .i64 (d : Int)) (.int .i64 (p : Int)) (by kernel_rfl) (by kernel_rfl) (by kernel_rfl) (by kernel_rfl) (by kernel_rfl) (by kernel_rfl) (fun wx ρ hwx h0 h1 hc => sub_two rfl i d (by omega) HP.out ρ wx h0 h1) ?_
        refine wpL_run1 (x := .tmp 81) (.int .i64 (p : Int)) (.int .i64 (p1 : Int)) (by kernel_rfl) (by kernel_rfl) (by kernel_rfl) (by kernel_rfl) (by kernel_rfl) (fun wx ρ hwx h0 hc => add_oneN rfl p (by omega) HP1.out ρ wx h0 (hc _)) ?_
        refine wpL_run3 (x := .tmp 75) (y := .tmp 78) (z := .tmp 82) (.slice a0 m cap0) (.int .i64 (p : Int)) (.int .i64 (p1 : Int)) (.slice a3 1 c3) (by kernel_rfl) (by kernel_rfl) (by kernel_rfl) (by kernel_rfl) (by kernel_rfl) (by kernel_rfl) (by kernel_rfl) (fun wx ρ hwx h0 h1 h2 hc => R3.out _ _ _ _ rfl ρ wx h0 h1 h2) ?_
        refine wpL_convK (.slice a3 1 c3) (.string (strB z)) rfl (by kernel_rfl) (by kernel_rfl) (by kernel_rfl) (by kernel_rfl) (fun wx hwx => str_oldB V3.out L3.out c3 (BW.out wx hwx)) ?_
        refine wpL_run2 (x := .tmp 74) (y := .tmp 84) (.string (strB z)) (.string (strB z)) (.bool false) (by kernel_rfl) (by kernel_rfl) (by kernel_rfl) (by kernel_rfl) (by kernel_rfl) (by kernel_rfl) (fun wx ρ hwx h0 h1 hc => by simp [go_sem, h0, h1, hc]) ?_
        refine wpL_run2 (x := .tmp 68) (y := .tmp 85) (.bool false) (.bool false) (.bool false) (by kernel_rfl) (by kernel_rfl) (by kernel_rfl) (by kernel_rfl) (by kernel_rfl) (by kernel_rfl) (fun wx ρ hwx h0 h1 hc => by simp [go_sem, h0, h1, hc]) ?_
        refine wpL_end (by kernel_rfl) (fun we hwe => ?_)
        simp only [FinL, setL, List.set_cons_zero, List.set_cons_succ]
        have G2 := Lib.hid (G.out.later hwe)
        clear hwe BW G R2 R3 V2 V3 L2 L3 H42 H45 H50 H54 H58 H66 hn0
        go_wp2
        go_loopw [88] (fun v wf => ∃ k : Nat, k ≤ n ∧ v = .int .i64 (k : Int) ∧ Own.St w.heap.size w wf [AQ (some ⟨g, 0, none⟩) m c1 (alls x)]) (fun v _ => n - (intOf v).toNat)
        case atStart => exact ⟨0, Nat.zero_le _, rfl, G2.out⟩
        case round =>
          obtain ⟨k, hkn, rfl, F⟩ := hrel
          have F := Lib.hid F
          clear G2
          by_cases hk : k < n
          · obtain ⟨ik, hik'⟩ : ∃ q, q = i + k := ⟨_, rfl⟩
            obtain ⟨jk, hjk'⟩ : ∃ q, q = ik - d := ⟨_, rfl⟩
            have hik : ik < m := by have := HQN.out; omega
            have hdik : d ≤ ik := by omega
            have hjk : jk < m := by omega
            have HIK := Lib.hid hik'
            have HJK := Lib.hid hjk'
            obtain ⟨e1, he1⟩ : ∃ e, e = by' x ik := ⟨_, rfl⟩
            have he2 : by' x jk = e1 := by rw [he1, hjk', hik']; exact (HEQ.out k hk).symm
            have BF : Hid (∀ wx, Below wr.heap.size wr wx → Below w.heap.size w wx) := fun wx h => F.out.below.trans (h.mono F.out.size)
            have HE1 : Hid (∀ wx, Below wr.heap.size wr wx → wx.cell? ⟨b, o + ik, none⟩ = some (.int .u8 (e1.toNat : Int))) := by
              intro wx h; rw [he1]; exact HBYTE.out wx ik (BF.out wx h) hik
            have HE2 : Hid (∀ wx, Below wr.heap.size wr wx → wx.cell? ⟨b, o + jk, none⟩ = some (.int .u8 (e1.toNat : Int))) := by
              intro wx h; rw [← he2]; exact HBYTE.out wx jk (BF.out wx h) hjk
            clear he1 he2 hik' hjk'
            go_wp2
            refine wp_lax_list (by kernel_rfl) (by kernel_rfl) (by kernel_rfl) ?_
            refine wpL_move (.slice a0 m cap0) rfl (by kernel_rfl) (by kernel_rfl) (by kernel_rfl) (by kernel_rfl) ?_
            refine wpL_move (.int .i64 (i : Int)) rfl (by kernel_rfl) (by kernel_rfl) (by kernel_rfl) (by kernel_rfl) ?_
            refine wpL_move (.int .i64 (k : Int)) rfl (by kernel_rfl) (by kernel_rfl) (by kernel_rfl) (by kernel_rfl) ?_
            refine wpL_run2 (x := .tmp 92) (y := .tmp 93) (.int .i64 (i : Int)) (.int .i64 (k : Int)) (.int .i64 (ik : Int)) (by kernel_rfl) (by kernel_rfl) (by kernel_rfl) (by kernel_rfl) (by kernel_rfl) (by kernel_rfl) (fun wx ρ hwx h0 h1 hc => add_two rfl i k (by omega) HIK.out ρ wx h0 h1) ?_
            refine wpL_run2 (x := .tmp 91) (y := .tmp 94) (.slice a0 m cap0) (.int .i64 (ik : Int)) (.pointer (some ⟨b, o + ik, none⟩)) (by kernel_rfl) (by kernel_rfl) (by kernel_rfl) (by kernel_rfl) (by kernel_rfl) (by kernel_rfl) (fun wx ρ hwx h0 h1 hc => idx_at rfl HAO.out ik hik ρ wx h0 h1) ?_
            refine wpL_run1 (x := .tmp 95) (.pointer (some ⟨b, o + ik, none⟩)) (.int .u8 (e1.toNat : Int)) (by kernel_rfl) (by kernel_rfl) (by kernel_rfl) (by kernel_rfl) (by kernel_rfl) (fun wx ρ hwx h0 hc => load8 rfl ρ (HE1.out wx hwx) h0) ?_
            refine wpL_move (.slice a0 m cap0) rfl (by kernel_rfl) (by kernel_rfl) (by kernel_rfl) (by kernel_rfl) ?_
            refine wpL_move (.int .i64 (i : Int)) rfl (by kernel_rfl) (by kernel_rfl) (by kernel_rfl) (by kernel_rfl) ?_
            refine wpL_move (.int .i64 (k : Int)) rfl (by kernel_rfl) (by kernel_rfl) (by kernel_rfl) (by kernel_rfl) ?_
            refine wpL_run2 (x := .tmp 98) (y := .tmp 99) (.int .i64 (i : Int)) (.int .i64 (k : Int)) (.int .i64 (ik : Int)) (by kernel_rfl) (by kernel_rfl) (by kernel_rfl) (by kernel_rfl) (by kernel_rfl) (by kernel_rfl) (fun wx ρ hwx h0 h1 hc => add_two rfl i k (by omega) HIK.out ρ wx h0 h1) ?_
            refine wpL_move (.int .i64 (d : Int)) rfl (by kernel_rfl) (by kernel_rfl) (by kernel_rfl) (by kernel_rfl) ?_
            refine wpL_run2 (x := .tmp 100) (y := .tmp 101) (.int .i64 (ik : Int)) (.int .i64 (d : Int)) (.int .i64 (jk : Int)) (by kernel_rfl) (by kernel_rfl) (by kernel_rfl) (by kernel_rfl) (by kernel_rfl) (by kernel_rfl) (fun wx ρ hwx h0 h1 hc => sub_two rfl ik d (by omega) HJK.out ρ wx h0 h1) ?_
            refine wpL_run2 (x := .tmp 97) (y := .tmp 102) (.slice a0 m cap0) (.int .i64 (jk : Int)) (.pointer (some ⟨b, o + jk, none⟩)) (by kernel_rfl) (by kernel_rfl) (by kernel_rfl) (by kernel_rfl) (by kernel_rfl) (by kernel_rfl) (fun wx ρ hwx h0 h1 hc => idx_at rfl HAO.out jk hjk ρ wx h0 h1) ?_
            refine wpL_run1 (x := .tmp 103) (.pointer (some ⟨b, o + jk, none⟩)) (.int .u8 (e1.toNat : Int)) (by kernel_rfl) (by kernel_rfl) (by kernel_rfl) (by kernel_rfl) (by kernel_rfl) (fun wx ρ hwx h0 hc => load8 rfl ρ (HE2.out wx hwx) h0) ?_
            refine wpL_run2 (x := .tmp 96) (y := .tmp 104) (.int .u8 (e1.toNat : Int)) (.int .u8 (e1.toNat : Int)) (.bool false) (by kernel_rfl) (by kernel_rfl) (by kernel_rfl) (by kernel_rfl) (by kernel_rfl) (by kernel_rfl) (fun wx ρ hwx h0 h1 hc => by simp [go_sem, h0, h1, hc]) ?_
            refine wpL_end (by kernel_rfl) (fun wh hwh => ?_)
            simp only [FinL, setL, List.set_cons_zero, List.set_cons_succ]
            have F2 := Lib.hid (F.out.later hwh)
            clear hwh HE1 HE2 F BF
            go_wp2
            go_roundw
            case rel => exact ⟨k + 1, by omega, by go_num, F2.out⟩
            case measure => simp [intOf]; omega
          · by_cases hn130 : n = 130
            · have H108 : Hid (decide ((n : Int) < 130) = false) := by show decide ((n : Int) < 130) = false; simp; omega
              clear hn130
              go_wp2
              refine wp_lax_list (by kernel_rfl) (by kernel_rfl) (by kernel_rfl) ?_
              refine wpL_move (.int .i64 (n : Int)) rfl (by kernel_rfl) (by kernel_rfl) (by kernel_rfl) (by kernel_rfl) ?_
              refine wpL_run1 (x := .tmp 107) (.int .i64 (n : Int)) (.bool false) (by kernel_rfl) (by kernel_rfl) (by kernel_rfl) (by kernel_rfl) (by kernel_rfl) (fun wx ρ hwx h0 hc => lss2 rfl _ _ H108.out ρ wx h0 (hc _)) ?_
              refine wpL_move (.bool false) rfl (by kernel_rfl) (by kernel_rfl) (by kernel_rfl) (by kernel_rfl) ?_
              refine wpL_skip (by kernel_rfl) (by kernel_rfl) ?_
              refine wpL_skip (by kernel_rfl) (by kernel_rfl) ?_
              refine wpL_skip (by kernel_rfl) (by kernel_rfl) ?_
              refine wpL_skip (by kernel_rfl) (by kernel_rfl) ?_
              refine wpL_skip (by kernel_rfl) (by kernel_rfl) ?_
              refine wpL_skip (by kernel_rfl) (by kernel_rfl) ?_
              refine wpL_run2 (x := .tmp 109) (y := .tmp 115) (.bool false) (undef) (.bool false) (by kernel_rfl) (by kernel_rfl) (by kernel_rfl) (by kernel_rfl) (by kernel_rfl) (by kernel_rfl) (fun wx ρ hwx h0 h1 hc => by simp [go_sem, h0, h1, hc]) ?_
              refine wpL_move (.bool false) rfl (by kernel_rfl) (by kernel_rfl) (by kernel_rfl) (by kernel_rfl) ?_
              refine wpL_skip (by kernel_rfl) (by kernel_rfl) ?_
              refine wpL_skip (by kernel_rfl) (by kernel_rfl) ?_
              refine wpL_skip (by kernel_rfl) (by kernel_rfl) ?_
              refine wpL_skip (by kernel_rfl) (by kernel_rfl) ?_
              refine wpL_skip (by kernel_rfl) (by kernel_rfl) ?_
              refine wpL_skip (by kernel_rfl) (by kernel_rfl) ?_
              refine wpL_skip (by kernel_rfl) (by kernel_rfl) ?_
              refine wpL_skip (by kernel_rfl) (by kernel_rfl) ?_
              refine wpL_skip (by kernel_rfl) (by kernel_rfl) ?_
              refine wpL_skip (by kernel_rfl) (by kernel_rfl) ?_
              refine wpL_skip (by kernel_rfl) (by kernel_rfl) ?_
              refine wpL_skip (by kernel_rfl) (by kernel_rfl) ?_
              refine wpL_skip (by kernel_rfl) (by kernel_rfl) ?_
              refine wpL_skip (by kernel_rfl) (by kernel_rfl) ?_
              refine wpL_skip (by kernel_rfl) (by kernel_rfl) ?_
              refine wpL_run2 (x := .tmp 117) (y := .tmp 132) (.bool false) (undef) (.bool false) (by kernel_rfl) (by kernel_rfl) (by kernel_rfl) (by kernel_rfl) (by kernel_rfl) (by kernel_rfl) (fun wx ρ hwx h0 h1 hc => by simp [go_sem, h0, h1, hc]) ?_
              refine wpL_end (by kernel_rfl) (fun wh hwh => ?_)
              simp only [FinL, setL, List.set_cons_zero, List.set_cons_succ]
              have F2 := Lib.hid (F.out.later hwh)
              clear hwh F
              go_wp2
              go_roundw
              case rel => exact ⟨i + 1, by omega, by go_num, F2.out⟩
              case measure => simp [intOf]; omega
            · have H108 : Hid (decide ((n : Int) < 130) = true) := by show decide ((n : Int) < 130) = true; simp; omega
              by_cases hqn : qn < m
              · have H115 : Hid (decide ((qn : Int) < (m : Int)) = true) := by show decide ((qn : Int) < (m : Int)) = true; simp; omega
                obtain ⟨qd, hqd'⟩ : ∃ q, q = qn - d := ⟨_, rfl⟩
                have hdq : d ≤ qn := by have := HQN.out; omega
                have hqd : qd < m := by omega
                have HQD := Lib.hid hqd'
                obtain ⟨e3, he3⟩ : ∃ e, e = by' x qn := ⟨_, rfl⟩
                obtain ⟨e4, he4⟩ : ∃ e, e = by' x qd := ⟨_, rfl⟩
                have H132 : Hid (decide (e3 = e4) = false) := by
                  show decide (e3 = e4) = false
                  have h := HNE.out (by omega) (by have := HQN.out; omega)
                  rw [← HQN.out, ← hqd', ← he3, ← he4] at h
                  exact decide_eq_false h
                have BF : Hid (∀ wx, Below wr.heap.size wr wx → Below w.heap.size w wx) := fun wx h => F.out.below.trans (h.mono F.out.size)
                have HE3 : Hid (∀ wx, Below wr.heap.size wr wx → wx.cell? ⟨b, o + qn, none⟩ = some (.int .u8 (e3.toNat : Int))) := by
                  intro wx h; rw [he3]; exact HBYTE.out wx qn (BF.out wx h) hqn
                have HE4 : Hid (∀ wx, Below wr.heap.size wr wx → wx.cell? ⟨b, o + qd, none⟩ = some (.int .u8 (e4.toNat : Int))) := by
                  intro wx h; rw [he4]; exact HBYTE.out wx qd (BF.out wx h) hqd
                clear he3 he4 hqd' hn130
                go_wp2
                refine wp_lax_list (by kernel_rfl) (by kernel_rfl) (by kernel_rfl) ?_
                refine wpL_move (.int .i64 (n : Int)) rfl (by kernel_rfl) (by kernel_rfl) (by kernel_rfl) (by kernel_rfl) ?_
                refine wpL_run1 (x := .tmp 107) (.int .i64 (n : Int)) (.bool true) (by kernel_rfl) (by kernel_rfl) (by kernel_rfl) (by kernel_rfl) (by kernel_rfl) (fun wx ρ hwx h0 hc => lss2 rfl _ _ H108.out ρ wx h0 (hc _)) ?_
                refine wpL_move (.bool true) rfl (by kernel_rfl) (by kernel_rfl) (by kernel_rfl) (by kernel_rfl) ?_
                refine wpL_move (.int .i64 (i : Int)) rfl (by kernel_rfl) (by kernel_rfl) (by kernel_rfl) (by kernel_rfl) ?_
                refine wpL_move (.int .i64 (n : Int)) rfl (by kernel_rfl) (by kernel_rfl) (by kernel_rfl) (by kernel_rfl) ?_
                refine wpL_run2 (x := .tmp 110) (y := .tmp 111) (.int .i64 (i : Int)) (.int .i64 (n : Int)) (.int .i64 (qn : Int)) (by kernel_rfl) (by kernel_rfl) (by kernel_rfl) (by kernel_rfl) (by kernel_rfl) (by kernel_rfl) (fun wx ρ hwx h0 h1 hc => add_two rfl i n (by omega) HQN.out ρ wx h0 h1) ?_
                refine wpL_move (.slice a0 m cap0) rfl (by kernel_rfl) (by kernel_rfl) (by kernel_rfl) (by kernel_rfl) ?_
                refine wpL_run1 (x := .tmp 113) (.slice a0 m cap0) (.int .i64 (m : Int)) (by kernel_rfl) (by kernel_rfl) (by kernel_rfl) (by kernel_rfl) (by kernel_rfl) (fun wx ρ hwx h0 hc => by simp [go_sem, h0, hc]) ?_
                refine wpL_run2 (x := .tmp 112) (y := .tmp 114) (.int .i64 (qn : Int)) (.int .i64 (m : Int)) (.bool true) (by kernel_rfl) (by kernel_rfl) (by kernel_rfl) (by kernel_rfl) (by kernel_rfl) (by kernel_rfl) (fun wx ρ hwx h0 h1 hc => lss2 rfl _ _ H115.out ρ wx h0 h1) ?_
                refine wpL_run2 (x := .tmp 109) (y := .tmp 115) (.bool true) (.bool true) (.bool true) (by kernel_rfl) (by kernel_rfl) (by kernel_rfl) (by kernel_rfl) (by kernel_rfl) (by kernel_rfl) (fun wx ρ hwx h0 h1 hc => by simp [go_sem, h0, h1, hc]) ?_
                refine wpL_move (.bool true) rfl (by kernel_rfl) (by kernel_rfl) (by kernel_rfl) (by kernel_rfl) ?_
                refine wpL_move (.slice a0 m cap0) rfl (by kernel_rfl) (by kernel_rfl) (by kernel_rfl) (by kernel_rfl) ?_
                refine wpL_move (.int .i64 (i : Int)) rfl (by kernel_rfl) (by kernel_rfl) (by kernel_rfl) (by kernel_rfl) ?_
                refine wpL_move (.int .i64 (n : Int)) rfl (by kernel_rfl) (by kernel_rfl) (by kernel_rfl) (by kernel_rfl) ?_
                refine wpL_run2 (x := .tmp 119) (y := .tmp 120) (.int .i64 (i : Int)) (.int .i64 (n : Int)) (.int .i64 (qn : Int)) (by kernel_rfl) (by kernel_rfl) (by kernel_rfl) (by kernel_rfl) (by kernel_rfl) (by kernel_rfl) (fun wx ρ hwx h0 h1 hc => add_two rfl i n (by omega) HQN.out ρ wx h0 h1) ?_
                refine wpL_run2 (x := .tmp 118) (y := .tmp 121) (.slice a0 m cap0) (.int .i64 (qn : Int)) (.pointer (some ⟨b, o + qn, none⟩)) (by kernel_rfl) (by kernel_rfl) (by kernel_rfl) (by kernel_rfl) (by kernel_rfl) (by kernel_rfl) (fun wx ρ hwx h0 h1 hc => idx_at rfl HAO.out qn hqn ρ wx h0 h1) ?_
                refine wpL_run1 (x := .tmp 122) (.pointer (some ⟨b, o + qn, none⟩)) (.int .u8 (e3.toNat : Int)) (by kernel_rfl) (by kernel_rfl) (by kernel_rfl) (by kernel_rfl) (by kernel_rfl) (fun wx ρ hwx h0 hc => load8 rfl ρ (HE3.out wx hwx) h0) ?_
                refine wpL_move (.slice a0 m cap0) rfl (by kernel_rfl) (by kernel_rfl) (by kernel_rfl) (by kernel_rfl) ?_
                refine wpL_move (.int .i64 (i : Int)) rfl (by kernel_rfl) (by kernel_rfl) (by kernel_rfl) (by kernel_rfl) ?_
                refine wpL_move (.int .i64 (n : Int)) rfl (by kernel_rfl) (by kernel_rfl) (by kernel_rfl) (by kernel_rfl) ?_
                refine wpL_run2 (x := .tmp 125) (y := .tmp 126) (.int .i64 (i : Int)) (.int .i64 (n : Int)) (.int .i64 (qn : Int)) (by kernel_rfl) (by kernel_rfl) (by kernel_rfl) (by kernel_rfl) (by kernel_rfl) (by kernel_rfl) (fun wx ρ hwx h0 h1 hc => add_two rfl i n (by omega) HQN.out ρ wx h0 h1) ?_
                refine wpL_move (.int .i64 (d : Int)) rfl (by kernel_rfl) (by kernel_rfl) (by kernel_rfl) (by kernel_rfl) ?_
                refine wpL_run2 (x := .tmp 127) (y := .tmp 128) (.int .i64 (qn : Int)) (.int .i64 (d : Int)) (.int .i64 (qd : Int)) (by kernel_rfl) (by kernel_rfl) (by kernel_rfl) (by kernel_rfl) (by kernel_rfl) (by kernel_rfl) (fun wx ρ hwx h0 h1 hc => sub_two rfl qn d (by omega) HQD.out ρ wx h0 h1) ?_
                refine wpL_run2 (x := .tmp 124) (y := .tmp 129) (.slice a0 m cap0) (.int .i64 (qd : Int)) (.pointer (some ⟨b, o + qd, none⟩)) (by kernel_rfl) (by kernel_rfl) (by kernel_rfl) (by kernel_rfl) (by kernel_rfl) (by kernel_rfl) (fun wx ρ hwx h0 h1 hc => idx_at rfl HAO.out qd hqd ρ wx h0 h1) ?_
                refine wpL_run1 (x := .tmp 130) (.pointer (some ⟨b, o + qd, none⟩)) (.int .u8 (e4.toNat : Int)) (by kernel_rfl) (by kernel_rfl) (by kernel_rfl) (by kernel_rfl) (by kernel_rfl) (fun wx ρ hwx h0 hc => load8 rfl ρ (HE4.out wx hwx) h0) ?_
                refine wpL_run2 (x := .tmp 123) (y := .tmp 131) (.int .u8 (e3.toNat : Int)) (.int .u8 (e4.toNat : Int)) (.bool false) (by kernel_rfl) (by kernel_rfl) (by kernel_rfl) (by kernel_rfl) (by kernel_rfl) (by kernel_rfl) (fun wx ρ hwx h0 h1 hc => eql8 rfl e3 e4 H132.out ρ wx h0 h1) ?_
                refine wpL_run2 (x := .tmp 117) (y := .tmp 132) (.bool true) (.bool false) (.bool false) (by kernel_rfl) (by kernel_rfl) (by kernel_rfl) (by kernel_rfl) (by kernel_rfl) (by kernel_rfl) (fun wx ρ hwx h0 h1 hc => by simp [go_sem, h0, h1, hc]) ?_
                refine wpL_end (by kernel_rfl) (fun wh hwh => ?_)
                simp only [FinL, setL, List.set_cons_zero, List.set_cons_succ]
                have F2 := Lib.hid (F.out.later hwh)
                clear hwh F HE3 HE4 BF H132
                go_wp2
                go_roundw
                case rel => exact ⟨i + 1, by omega, by go_num, F2.out⟩
                case measure => simp [intOf]; omega
              · have H115 : Hid (decide ((qn : Int) < (m : Int)) = false) := by show decide ((qn : Int) < (m : Int)) = false; simp; omega
                clear hn130
                go_wp2
                refine wp_lax_list (by kernel_rfl) (by kernel_rfl) (by kernel_rfl) ?_
                refine wpL_move (.int .i64 (n : Int)) rfl (by kernel_rfl) (by kernel_rfl) (by kernel_rfl) (by kernel_rfl) ?_
                refine wpL_run1 (x := .tmp 107) (.int .i64 (n : Int)) (.bool true) (by kernel_rfl) (by kernel_rfl) (by kernel_rfl) (by kernel_rfl) (by kernel_rfl) (fun wx ρ hwx h0 hc => lss2 rfl _ _ H108.out ρ wx h0 (hc _)) ?_
                refine wpL_move (.bool true) rfl (by kernel_rfl) (by kernel_rfl) (by kernel_rfl) (by kernel_rfl) ?_
                refine wpL_move (.int .i64 (i : Int)) rfl (by kernel_rfl) (by kernel_rfl) (by kernel_rfl) (by kernel_rfl) ?_
                refine wpL_move (.int .i64 (n : Int)) rfl (by kernel_rfl) (by kernel_rfl) (by kernel_rfl) (by kernel_rfl) ?_
                refine wpL_run2 (x := .tmp 110) (y := .tmp 111) (.int .i64 (i : Int)) (.int .i64 (n : Int)) (.int .i64 (qn : Int)) (by kernel_rfl) (by kernel_rfl) (by kernel_rfl) (by kernel_rfl) (by kernel_rfl) (by kernel_rfl) (fun wx ρ hwx h0 h1 hc => add_two rfl i n (by omega) HQN.out ρ wx h0 h1) ?_
                refine wpL_move (.slice a0 m cap0) rfl (by kernel_rfl) (by kernel_rfl) (by kernel_rfl) (by kernel_rfl) ?_
                refine wpL_run1 (x := .tmp 113) (.slice a0 m cap0) (.int .i64 (m : Int)) (by kernel_rfl) (by kernel_rfl) (by kernel_rfl) (by kernel_rfl) (by kernel_rfl) (fun wx ρ hwx h0 hc => by simp [go_sem, h0, hc]) ?_
                refine wpL_run2 (x := .tmp 112) (y := .tmp 114) (.int .i64 (qn : Int)) (.int .i64 (m : Int)) (.bool false) (by kernel_rfl) (by kernel_rfl) (by kernel_rfl) (by kernel_rfl) (by kernel_rfl) (by kernel_rfl) (fun wx ρ hwx h0 h1 hc => lss2 rfl _ _ H115.out ρ wx h0 h1) ?_
                refine wpL_run2 (x := .tmp 109) (y := .tmp 115) (.bool true) (.bool false) (.bool false) (by kernel_rfl) (by kernel_rfl) (by kernel_rfl) (by kernel_rfl) (by kernel_rfl) (by kernel_rfl) (fun wx ρ hwx h0 h1 hc => by simp [go_sem, h0, h1, hc]) ?_
                refine wpL_move (.bool false) rfl (by kernel_rfl) (by kernel_rfl) (by kernel_rfl) (by kernel_rfl) ?_
                refine wpL_skip (by kernel_rfl) (by kernel_rfl) ?_
                refine wpL_skip (by kernel_rfl) (by kernel_rfl) ?_
                refine wpL_skip (by kernel_rfl) (by kernel_rfl) ?_
                refine wpL_skip (by kernel_rfl) (by kernel_rfl) ?_
                refine wpL_skip (by kernel_rfl) (by kernel_rfl) ?_
                refine wpL_skip (by kernel_rfl) (by kernel_rfl) ?_
                refine wpL_skip (by kernel_rfl) (by kernel_rfl) ?_
                refine wpL_skip (by kernel_rfl) (by kernel_rfl) ?_
                refine wpL_skip (by kernel_rfl) (by kernel_rfl) ?_
                refine wpL_skip (by kernel_rfl) (by kernel_rfl) ?_
                refine wpL_skip (by kernel_rfl) (by kernel_rfl) ?_
                refine wpL_skip (by kernel_rfl) (by kernel_rfl) ?_
                refine wpL_skip (by kernel_rfl) (by kernel_rfl) ?_
                refine wpL_skip (by kernel_rfl) (by kernel_rfl) ?_
                refine wpL_skip (by kernel_rfl) (by kernel_rfl) ?_
                refine wpL_run2 (x := .tmp 117) (y := .tmp 132) (.bool false) (undef) (.bool false) (by kernel_rfl) (by kernel_rfl) (by kernel_rfl) (by kernel_rfl) (by kernel_rfl) (by kernel_rfl) (fun wx ρ hwx h0 h1 hc => by simp [go_sem, h0, h1, hc]) ?_
                refine wpL_end (by kernel_rfl) (fun wh hwh => ?_)
                simp only [FinL, setL, List.set_cons_zero, List.set_cons_succ]
                have F2 := Lib.hid (F.out.later hwh)
                clear hwh F
                go_wp2
                go_roundw
                case rel => exact ⟨i + 1, by omega, by go_num, F2.out⟩
                case measure => simp [intOf]; omega
    · go_wp2
      go_ret
      exact ⟨rfl, H.out.below⟩

end Mat
end Go.Proofs.Ytcchapoikliieaa
