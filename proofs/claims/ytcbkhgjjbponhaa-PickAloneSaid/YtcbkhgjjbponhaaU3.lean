/- Merged: PicL PicU RecM KeyI PicI PkaM PkaA PkaB PkaC -/
import Derived.WalkKit
import Derived.Laws.StructEq
import Derived.Laws.Cover2
import Derived.Deep.MidRow
import Derived.Laws.Rows
import Derived.Great.Walk
import Derived.Lib.Hide
import Derived.Test.YtcbkhgjjbponhaaU1
import Derived.Test.YtcbkhgjjbponhaaU2
set_option linter.unusedVariables false
section
namespace Go.Proofs.Ytcbkhgjjbponhaa
open Go.RowKit Go.Own
namespace Pic
open Go.PicM Byt
theorem age_lt {o : Oper} {x : Tmp} (ho : o.op = .binOp .geq 22 (.tmp x) (.const (.int .u64 4294967296)) 22) {k : Nat} (hk : k < 4294967296) (ρ : Operand → Value) (w : World) (h0 : ρ (.tmp x) = .int .u64 (k : Int)) (h1 : ρ (.const (.int .u64 4294967296)) = .int .u64 4294967296) : (execOp ρ o).run Try.prog w = .ok (.value (.bool false)) w := by
  have h : ¬ ((k : Int) ≥ 4294967296) := by omega
  have hd : decide ((k : Int) ≥ 4294967296) = false := decide_eq_false h
  unfold execOp
  simp only [ho, h0, h1, Sem.run_bind]
  simp [go_sem, binOp, eqGuard, hd]
set_option maxRecDepth 8000 in
set_option maxHeartbeats 12800000 in
theorem walk_less {w : World} (c : Cn) (live : Int) (age : Nat) (hlv : -9223372036854775808 ≤ live ∧ live ≤ 9223372036854775807) (hag : age < 18446744073709551616) (fc : Fits c) (K : Kept w) : Calls Try.prog 7 #[cV c, .int .i64 live, .int .u64 (age : Int)] w (RetYes w) := by
  obtain ⟨C, hC⟩ : ∃ x, x = c := ⟨_, rfl⟩
  obtain ⟨sg, lv, pg, ag⟩ := c
  have hcC : cC ⟨sg, lv, pg, ag⟩ = [.int .i64 sg, .int .i64 lv, .int .i64 pg, .int .u64 (ag : Int)] := rfl
  have hbox := (Own.St.start w).boxV 24 (cC ⟨sg, lv, pg, ag⟩)
  obtain ⟨b3, hb3⟩ : ∃ x, x = w.heap.size := ⟨_, rfl⟩
  obtain ⟨w1, hw1⟩ : ∃ x, x = w.alloc (.cells (cC ⟨sg, lv, pg, ag⟩).toArray 24) := ⟨_, rfl⟩
  rw [← hw1, ← hb3, hcC] at hbox
  rw [hcC] at hw1
  have SH := Lib.hid (shown_any K (w := w1) (by have := hbox.below; rwa [hb3] at this))
  have HB3 := Lib.hid hb3
  have HW1 := Lib.hid hw1
  have H1 := Lib.hid hbox
  show Calls Try.prog _ #[.agg (cC ⟨sg, lv, pg, ag⟩).toArray, .int .i64 live, .int .u64 (age : Int)] w _
  rw [hcC]
  have HCC := Lib.hid hC
  clear hbox hb3 hw1 hC
  go_enter Try.func7, Try.ntmps7
  go_wp2_with (fail)
  rw [← HW1.out, ← HB3.out]
  refine SH.out.mono ?_
  rintro e w2 ⟨rfl, h2⟩
  have H2 := Lib.hid (H1.out.later h2)
  clear h2 SH
  have HF0 : Hid (Own.St b3 w (((w2.alloc (.cells #[.int .i64 sg, .int .i64 lv, .int .i64 pg, .int .u64 (ag : Int)] 24)).alloc (.cells #[.int .i64 sg, .int .i64 lv, .int .i64 pg, .int .u64 (ag : Int)] 24)).drew) [AVals (w2.heap.size + 1) 24 [.int .i64 sg, .int .i64 lv, .int .i64 pg, .int .u64 (ag : Int)], AVals w2.heap.size 24 [.int .i64 sg, .int .i64 lv, .int .i64 pg, .int .u64 (ag : Int)], AVals b3 24 [.int .i64 sg, .int .i64 lv, .int .i64 pg, .int .u64 (ag : Int)]]) := by
    have h1 := H2.out.boxV 24 [.int .i64 sg, .int .i64 lv, .int .i64 pg, .int .u64 (ag : Int)]
    have h2 := h1.boxV 24 [.int .i64 sg, .int .i64 lv, .int .i64 pg, .int .u64 (ag : Int)]
    rw [show (w2.alloc (.cells #[.int .i64 sg, .int .i64 lv, .int .i64 pg, .int .u64 (ag : Int)] 24)).heap.size = w2.heap.size + 1 from Array.size_push ..] at h2
    exact h2.drew
  have d0 := (H2.out.cellV 0 rfl 0 rfl).1
  have d1 := (H2.out.cellV 0 rfl 1 rfl).1
  have d2 := (H2.out.cellV 0 rfl 2 rfl).1
  have d3 := (H2.out.cellV 0 rfl 3 rfl).1
  have e3 := H2.out.boxV 24 [.int .i64 0, .int .i64 0, .int .i64 0, .int .u64 0]
  have f0_0 := (e3.cellV 1 rfl 0 rfl).1
  have f0_1 := (e3.cellV 1 rfl 1 rfl).1
  have f0_2 := (e3.cellV 1 rfl 2 rfl).1
  have f0_3 := (e3.cellV 1 rfl 3 rfl).1
  have e4 := e3.boxV 24 [.int .i64 0, .int .i64 0, .int .i64 0, .int .u64 0]
  have f1_0 := (e4.cellV 2 rfl 0 rfl).1
  have f1_1 := (e4.cellV 2 rfl 1 rfl).1
  have f1_2 := (e4.cellV 2 rfl 2 rfl).1
  have f1_3 := (e4.cellV 2 rfl 3 rfl).1
  clear e4
  have e4 := e3.boxV 24 [.int .i64 sg, .int .i64 lv, .int .i64 pg, .int .u64 (ag : Int)]
  have f2_0 := (e4.cellV 2 rfl 0 rfl).1
  have f2_1 := (e4.cellV 2 rfl 1 rfl).1
  have f2_2 := (e4.cellV 2 rfl 2 rfl).1
  have f2_3 := (e4.cellV 2 rfl 3 rfl).1
  clear e4
  clear e3
  have e3 := H2.out.boxV 24 [.int .i64 sg, .int .i64 lv, .int .i64 pg, .int .u64 (ag : Int)]
  have f3_0 := (e3.cellV 1 rfl 0 rfl).1
  have f3_1 := (e3.cellV 1 rfl 1 rfl).1
  have f3_2 := (e3.cellV 1 rfl 2 rfl).1
  have f3_3 := (e3.cellV 1 rfl 3 rfl).1
  have e4 := e3.boxV 24 [.int .i64 0, .int .i64 0, .int .i64 0, .int .u64 0]
  have f4_0 := (e4.cellV 2 rfl 0 rfl).1
  have f4_1 := (e4.cellV 2 rfl 1 rfl).1
  have f4_2 := (e4.cellV 2 rfl 2 rfl).1
  have f4_3 := (e4.cellV 2 rfl 3 rfl).1
  clear e4
  have e4 := e3.boxV 24 [.int .i64 sg, .int .i64 lv, .int .i64 pg, .int .u64 (ag : Int)]
  have f5_0 := (e4.cellV 2 rfl 0 rfl).1
  have f5_1 := (e4.cellV 2 rfl 1 rfl).1
  have f5_2 := (e4.cellV 2 rfl 2 rfl).1
  have f5_3 := (e4.cellV 2 rfl 3 rfl).1
  clear e4
  clear e3
  have fl : Fits ⟨sg, live, pg, ag⟩ := ⟨fc.seg, hlv, fc.pages, fc.age⟩
  have fo : Fits ⟨sg, lv, pg, age⟩ := ⟨fc.seg, fc.live, fc.pages, hag⟩
  obtain ⟨rc, hrc⟩ : ∃ x, x = right ⟨sg, lv, pg, ag⟩ := ⟨_, rfl⟩
  obtain ⟨rl, hrl⟩ : ∃ x, x = right ⟨sg, live, pg, ag⟩ := ⟨_, rfl⟩
  obtain ⟨gc, hgc⟩ : ∃ x, x = gains ⟨sg, lv, pg, ag⟩ := ⟨_, rfl⟩
  obtain ⟨bl, hbl⟩ : ∃ x, x = better ⟨sg, live, pg, ag⟩ ⟨sg, lv, pg, ag⟩ := ⟨_, rfl⟩
  obtain ⟨bo, hbo⟩ : ∃ x, x = better ⟨sg, lv, pg, age⟩ ⟨sg, lv, pg, ag⟩ := ⟨_, rfl⟩
  have HLES : Hid (rc = true → rl = true → live < lv → bl = true) := by
    rw [hrc, hrl, hbl]
    exact fun h1 h2 h3 => less_live (c := ⟨sg, lv, pg, ag⟩) h1 live (right_iff.1 h2).2.2.1 h3
  have HOLD : Hid (gc = true → ag < age → ag < 4294967296 → bo = true) := by
    rw [hgc, hbo]
    exact fun h1 h2 h3 => more_age (c := ⟨sg, lv, pg, ag⟩) h1 age h2 h3
  obtain ⟨cc, hcc⟩ : ∃ x, x = cC ⟨sg, lv, pg, ag⟩ := ⟨_, rfl⟩
  obtain ⟨lc, hlc⟩ : ∃ x, x = cC ⟨sg, live, pg, ag⟩ := ⟨_, rfl⟩
  obtain ⟨oc, hoc⟩ : ∃ x, x = cC ⟨sg, lv, pg, age⟩ := ⟨_, rfl⟩
  have LC : Hid (cc.length = 4) := by show _ = _; rw [hcc]; rfl
  have LL : Hid (lc.length = 4) := by show _ = _; rw [hlc]; rfl
  have LO : Hid (oc.length = 4) := by show _ = _; rw [hoc]; rfl
  have CA : Hid (cc[3]? = some (.int .u64 (ag : Int))) := by show _ = _; rw [hcc]; rfl
  have CL : Hid (cc[1]? = some (.int .i64 lv)) := by show _ = _; rw [hcc]; rfl
  have RC : Hid (∀ wx, Below b3 w wx → Calls Try.prog 10 #[.agg cc.toArray] wx fun e w' => e = .returned (.bool rc) ∧ Below wx.heap.size wx w') := by rw [hcc, hrc, HB3.out]; exact fun wx hwx => K.right _ hwx fc
  have RL : Hid (∀ wx, Below b3 w wx → Calls Try.prog 10 #[.agg lc.toArray] wx fun e w' => e = .returned (.bool rl) ∧ Below wx.heap.size wx w') := by rw [hlc, hrl, HB3.out]; exact fun wx hwx => K.right _ hwx fl
  have GC : Hid (∀ wx, Below b3 w wx → Calls Try.prog 12 #[.agg cc.toArray] wx fun e w' => e = .returned (.bool gc) ∧ Below wx.heap.size wx w') := by rw [hcc, hgc, HB3.out]; exact fun wx hwx => K.gains _ hwx fc
  have BL : Hid (∀ wx, Below b3 w wx → Calls Try.prog 14 #[.agg lc.toArray, .agg cc.toArray] wx fun e w' => e = .returned (.bool bl) ∧ Below wx.heap.size wx w') := by rw [hcc, hlc, hbl, HB3.out]; exact fun wx hwx => K.better _ _ hwx fl fc
  have BO : Hid (∀ wx, Below b3 w wx → Calls Try.prog 14 #[.agg oc.toArray, .agg cc.toArray] wx fun e w' => e = .returned (.bool bo) ∧ Below wx.heap.size wx w') := by rw [hcc, hoc, hbo, HB3.out]; exact fun wx hwx => K.better _ _ hwx fo fc
  have HCE : Hid (cc = [.int .i64 sg, .int .i64 lv, .int .i64 pg, .int .u64 (ag : Int)]) := hcc
  have HLE : Hid (lc = [.int .i64 sg, .int .i64 live, .int .i64 pg, .int .u64 (ag : Int)]) := hlc
  have HOE : Hid (oc = [.int .i64 sg, .int .i64 lv, .int .i64 pg, .int .u64 (age : Int)]) := hoc
  clear hrc hrl hgc hbl hbo hcc hlc hoc fc fl fo K hcC HCC hlv
  go_wp2_with (fail)
  go_region
  · obtain ⟨WF, hWF⟩ : ∃ x, x = ((w2.alloc (.cells #[.int .i64 sg, .int .i64 lv, .int .i64 pg, .int .u64 (ag : Int)] 24)).alloc (.cells #[.int .i64 sg, .int .i64 lv, .int .i64 pg, .int .u64 (ag : Int)] 24)).drew := ⟨_, rfl⟩
    rw [← hWF] at HF0 ⊢
    obtain ⟨p8, h8⟩ : ∃ x, x = w2.heap.size := ⟨_, rfl⟩
    obtain ⟨p9, h9⟩ : ∃ x, x = w2.heap.size + 1 := ⟨_, rfl⟩
    have HF : Hid (Own.St b3 w WF [AVals p9 24 [.int .i64 sg, .int .i64 lv, .int .i64 pg, .int .u64 (ag : Int)], AVals p8 24 [.int .i64 sg, .int .i64 lv, .int .i64 pg, .int .u64 (ag : Int)], AVals b3 24 [.int .i64 sg, .int .i64 lv, .int .i64 pg, .int .u64 (ag : Int)]]) := by rw [h8, h9]; exact HF0.out
    rw [← h9, ← h8]
    clear hWF h8 h9 HF0 d0 d1 d2 d3 f0_0 f0_1 f0_2 f0_3 f1_0 f1_1 f1_2 f1_3 f2_0 f2_1 f2_2 f2_3 f3_0 f3_1 f3_2 f3_3 f4_0 f4_1 f4_2 f4_3 f5_0 f5_1 f5_2 f5_3
    have s1 := HF.out.cellV 1 rfl 1 rfl
    have HF1 := HF.out.storeV 1 rfl 1 (.int .i64 live)
    simp only [List.set_cons_zero, List.set_cons_succ] at HF1
    have s3 := HF1.cellV 0 rfl 3 rfl
    have HF2 := HF1.storeV 0 rfl 3 (.int .u64 (age : Int))
    simp only [List.set_cons_zero, List.set_cons_succ] at HF2
    rw [← HCE.out, ← HLE.out, ← HOE.out] at HF2
    have H5 := Lib.hid HF2
    obtain ⟨s1a, s1b⟩ := s1
    obtain ⟨s3a, s3b⟩ := s3
    clear HF HF1 HF2
    cases hrc : rc
    · rw [hrc] at RC
      go_wp2_with (first
            | (refine wpList_val rfl (load_cn cc LC.out rfl _ (b := b3) (k := 0) (H5.out.boxRange 2 rfl) rfl) ?_)
            | (refine wpList_val rfl (load_cn lc LL.out rfl _ (b := p8) (k := 0) (H5.out.boxRange 1 rfl) rfl) ?_)
            | (refine wpList_val rfl (load_cn oc LO.out rfl _ (b := p9) (k := 0) (H5.out.boxRange 0 rfl) rfl) ?_))
      refine (RC.out _ H5.out.below).mono ?_
      rintro e vH6 ⟨rfl, h⟩
      have H6 := Lib.hid (H5.out.later h)
      clear h
      go_wp2_with (fail)
      go_ret
      exact ⟨rfl, HB3.out ▸ H6.out.below⟩
    · rw [hrc] at RC
      cases hrl : rl
      · rw [hrl] at RL
        go_wp2_with (first
              | (refine wpList_val rfl (load_cn cc LC.out rfl _ (b := b3) (k := 0) (H5.out.boxRange 2 rfl) rfl) ?_)
              | (refine wpList_val rfl (load_cn lc LL.out rfl _ (b := p8) (k := 0) (H5.out.boxRange 1 rfl) rfl) ?_)
              | (refine wpList_val rfl (load_cn oc LO.out rfl _ (b := p9) (k := 0) (H5.out.boxRange 0 rfl) rfl) ?_))
        refine (RC.out _ H5.out.below).mono ?_
        rintro e vH6 ⟨rfl, h⟩
        have H6 := Lib.hid (H5.out.later h)
        clear h
        go_wp2_with (first
              | (refine wpList_val rfl (load_cn cc LC.out rfl _ (b := b3) (k := 0) (H6.out.boxRange 2 rfl) rfl) ?_)
              | (refine wpList_val rfl (load_cn lc LL.out rfl _ (b := p8) (k := 0) (H6.out.boxRange 1 rfl) rfl) ?_)
              | (refine wpList_val rfl (load_cn oc LO.out rfl _ (b := p9) (k := 0) (H6.out.boxRange 0 rfl) rfl) ?_))
        refine (RL.out _ H6.out.below).mono ?_
        rintro e vH7 ⟨rfl, h⟩
        have H7 := Lib.hid (H6.out.later h)
        clear h
        go_wp2_with (fail)
        go_ret
        exact ⟨rfl, HB3.out ▸ H7.out.below⟩
      · rw [hrl] at RL
        go_wp2_with (first
              | (refine wpList_val rfl (load_cn cc LC.out rfl _ (b := b3) (k := 0) (H5.out.boxRange 2 rfl) rfl) ?_)
              | (refine wpList_val rfl (load_cn lc LL.out rfl _ (b := p8) (k := 0) (H5.out.boxRange 1 rfl) rfl) ?_)
              | (refine wpList_val rfl (load_cn oc LO.out rfl _ (b := p9) (k := 0) (H5.out.boxRange 0 rfl) rfl) ?_))
        refine (RC.out _ H5.out.below).mono ?_
        rintro e vH6 ⟨rfl, h⟩
        have H6 := Lib.hid (H5.out.later h)
        clear h
        go_wp2_with (first
              | (refine wpList_val rfl (load_cn cc LC.out rfl _ (b := b3) (k := 0) (H6.out.boxRange 2 rfl) rfl) ?_)
              | (refine wpList_val rfl (load_cn lc LL.out rfl _ (b := p8) (k := 0) (H6.out.boxRange 1 rfl) rfl) ?_)
              | (refine wpList_val rfl (load_cn oc LO.out rfl _ (b := p9) (k := 0) (H6.out.boxRange 0 rfl) rfl) ?_))
        refine (RL.out _ H6.out.below).mono ?_
        rintro e vH7 ⟨rfl, h⟩
        have H7 := Lib.hid (H6.out.later h)
        clear h
        have dl := (H7.out.cellV 2 rfl 1 CL.out).1
        by_cases hlt : live < lv
        · have hbl : bl = true := HLES.out hrc hrl hlt
          rw [hbl] at BL
          go_wp2_with (first
                | (refine wpList_val rfl (load_cn cc LC.out rfl _ (b := b3) (k := 0) (H7.out.boxRange 2 rfl) rfl) ?_)
                | (refine wpList_val rfl (load_cn lc LL.out rfl _ (b := p8) (k := 0) (H7.out.boxRange 1 rfl) rfl) ?_)
                | (refine wpList_val rfl (load_cn oc LO.out rfl _ (b := p9) (k := 0) (H7.out.boxRange 0 rfl) rfl) ?_))
          refine (BL.out _ H7.out.below).mono ?_
          rintro e vH8 ⟨rfl, h⟩
          have H8 := Lib.hid (H7.out.later h)
          clear h
          have dq := (H8.out.cellV 2 rfl 3 CA.out).1
          by_cases h1 : age ≤ ag
          · have h1' : (age : Int) ≤ (ag : Int) := by omega
            go_wp2_with (fail)
            go_ret
            exact ⟨rfl, HB3.out ▸ H8.out.below⟩
          · have h1' : ¬ (age : Int) ≤ (ag : Int) := by omega
            by_cases h2 : (ag : Int) ≥ 4294967296
            · go_wp2_with (fail)
              go_ret
              exact ⟨rfl, HB3.out ▸ H8.out.below⟩
            · have HAG : Hid (ag < 4294967296) := by show _ < _; omega
              clear h2
              cases hgc : gc
              · rw [hgc] at GC
                go_wp2_with (first
                      | (refine wpList_val rfl (age_lt rfl HAG.out _ _ rfl rfl) ?_)
                      | (refine wpList_val rfl (load_cn cc LC.out rfl _ (b := b3) (k := 0) (H8.out.boxRange 2 rfl) rfl) ?_) 
                      | (refine wpList_val rfl (load_cn lc LL.out rfl _ (b := p8) (k := 0) (H8.out.boxRange 1 rfl) rfl) ?_)
                      | (refine wpList_val rfl (load_cn oc LO.out rfl _ (b := p9) (k := 0) (H8.out.boxRange 0 rfl) rfl) ?_))
                refine (GC.out _ H8.out.below).mono ?_
                rintro e vHa ⟨rfl, h⟩
                have Ha := Lib.hid (H8.out.later h)
                clear h
                go_wp2_with (fail)
                go_ret
                exact ⟨rfl, HB3.out ▸ Ha.out.below⟩
              · rw [hgc] at GC
                have hbo : bo = true := HOLD.out hgc (by omega) HAG.out
                rw [hbo] at BO
                go_wp2_with (first
                      | (refine wpList_val rfl (age_lt rfl HAG.out _ _ rfl rfl) ?_)
                      | (refine wpList_val rfl (load_cn cc LC.out rfl _ (b := b3) (k := 0) (H8.out.boxRange 2 rfl) rfl) ?_) 
                      | (refine wpList_val rfl (load_cn lc LL.out rfl _ (b := p8) (k := 0) (H8.out.boxRange 1 rfl) rfl) ?_)
                      | (refine wpList_val rfl (load_cn oc LO.out rfl _ (b := p9) (k := 0) (H8.out.boxRange 0 rfl) rfl) ?_))
                refine (GC.out _ H8.out.below).mono ?_
                rintro e vHa ⟨rfl, h⟩
                have Ha := Lib.hid (H8.out.later h)
                clear h
                go_wp2_with (first
                      | (refine wpList_val rfl (age_lt rfl HAG.out _ _ rfl rfl) ?_)
                      | (refine wpList_val rfl (load_cn cc LC.out rfl _ (b := b3) (k := 0) (Ha.out.boxRange 2 rfl) rfl) ?_)
                      | (refine wpList_val rfl (load_cn lc LL.out rfl _ (b := p8) (k := 0) (Ha.out.boxRange 1 rfl) rfl) ?_)
                      | (refine wpList_val rfl (load_cn oc LO.out rfl _ (b := p9) (k := 0) (Ha.out.boxRange 0 rfl) rfl) ?_))
                refine (BO.out _ Ha.out.below).mono ?_
                rintro e vHb ⟨rfl, h⟩
                have Hb := Lib.hid (Ha.out.later h)
                clear h
                go_wp2_with (fail)
                go_ret
                exact ⟨rfl, HB3.out ▸ Hb.out.below⟩
        · have dq := (H7.out.cellV 2 rfl 3 CA.out).1
          by_cases h1 : age ≤ ag
          · have h1' : (age : Int) ≤ (ag : Int) := by omega
            go_wp2_with (fail)
            go_ret
            exact ⟨rfl, HB3.out ▸ H7.out.below⟩
          · have h1' : ¬ (age : Int) ≤ (ag : Int) := by omega
            by_cases h2 : (ag : Int) ≥ 4294967296
            · go_wp2_with (fail)
              go_ret
              exact ⟨rfl, HB3.out ▸ H7.out.below⟩
            · have HAG : Hid (ag < 4294967296) := by show _ < _; omega
              clear h2
              cases hgc : gc
              · rw [hgc] at GC
                go_wp2_with (first
                      | (refine wpList_val rfl (age_lt rfl HAG.out _ _ rfl rfl) ?_)
                      | (refine wpList_val rfl (load_cn cc LC.out rfl _ (b := b3) (k := 0) (H7.out.boxRange 2 rfl) rfl) ?_)
                      | (refine wpList_val rfl (load_cn lc LL.out rfl _ (b := p8) (k := 0) (H7.out.boxRange 1 rfl) rfl) ?_)
                      | (refine wpList_val rfl (load_cn oc LO.out rfl _ (b := p9) (k := 0) (H7.out.boxRange 0 rfl) rfl) ?_))
                refine (GC.out _ H7.out.below).mono ?_
                rintro e vHa ⟨rfl, h⟩
                have Ha := Lib.hid (H7.out.later h)
                clear h
                go_wp2_with (fail)
                go_ret
                exact ⟨rfl, HB3.out ▸ Ha.out.below⟩
              · rw [hgc] at GC
                have hbo : bo = true := HOLD.out hgc (by omega) HAG.out
                rw [hbo] at BO
                go_wp2_with (first
                      | (refine wpList_val rfl (age_lt rfl HAG.out _ _ rfl rfl) ?_)
                      | (refine wpList_val rfl (load_cn cc LC.out rfl _ (b := b3) (k := 0) (H7.out.boxRange 2 rfl) rfl) ?_)
                      | (refine wpList_val rfl (load_cn lc LL.out rfl _ (b := p8) (k := 0) (H7.out.boxRange 1 rfl) rfl) ?_)
                      | (refine wpList_val rfl (load_cn oc LO.out rfl _ (b := p9) (k := 0) (H7.out.boxRange 0 rfl) rfl) ?_))
                refine (GC.out _ H7.out.below).mono ?_
                rintro e vHa ⟨rfl, h⟩
                have Ha := Lib.hid (H7.out.later h)
                clear h
                go_wp2_with (first
                      | (refine wpList_val rfl (age_lt rfl HAG.out _ _ rfl rfl) ?_)
                      | (refine wpList_val rfl (load_cn cc LC.out rfl _ (b := b3) (k := 0) (Ha.out.boxRange 2 rfl) rfl) ?_)
                      | (refine wpList_val rfl (load_cn lc LL.out rfl _ (b := p8) (k := 0) (Ha.out.boxRange 1 rfl) rfl) ?_)
                      | (refine wpList_val rfl (load_cn oc LO.out rfl _ (b := p9) (k := 0) (Ha.out.boxRange 0 rfl) rfl) ?_))
                refine (BO.out _ Ha.out.below).mono ?_
                rintro e vHb ⟨rfl, h⟩
                have Hb := Lib.hid (Ha.out.later h)
                clear h
                go_wp2_with (fail)
                go_ret
                exact ⟨rfl, HB3.out ▸ Hb.out.below⟩
  · obtain ⟨WF, hWF⟩ : ∃ x, x = ((w2.alloc (.cells #[.int .i64 sg, .int .i64 lv, .int .i64 pg, .int .u64 (ag : Int)] 24)).alloc (.cells #[.int .i64 sg, .int .i64 lv, .int .i64 pg, .int .u64 (ag : Int)] 24)).drew := ⟨_, rfl⟩
    rw [← hWF] at HF0 ⊢
    obtain ⟨p8, h8⟩ : ∃ x, x = w2.heap.size + 1 := ⟨_, rfl⟩
    obtain ⟨p9, h9⟩ : ∃ x, x = w2.heap.size := ⟨_, rfl⟩
    have HF : Hid (Own.St b3 w WF [AVals p9 24 [.int .i64 sg, .int .i64 lv, .int .i64 pg, .int .u64 (ag : Int)], AVals p8 24 [.int .i64 sg, .int .i64 lv, .int .i64 pg, .int .u64 (ag : Int)], AVals b3 24 [.int .i64 sg, .int .i64 lv, .int .i64 pg, .int .u64 (ag : Int)]]) := by rw [h8, h9]; exact HF0.out.swap2
    rw [← h8, ← h9]
    clear hWF h8 h9 HF0 d0 d1 d2 d3 f0_0 f0_1 f0_2 f0_3 f1_0 f1_1 f1_2 f1_3 f2_0 f2_1 f2_2 f2_3 f3_0 f3_1 f3_2 f3_3 f4_0 f4_1 f4_2 f4_3 f5_0 f5_1 f5_2 f5_3
    have s1 := HF.out.cellV 1 rfl 1 rfl
    have HF1 := HF.out.storeV 1 rfl 1 (.int .i64 live)
    simp only [List.set_cons_zero, List.set_cons_succ] at HF1
    have s3 := HF1.cellV 0 rfl 3 rfl
    have HF2 := HF1.storeV 0 rfl 3 (.int .u64 (age : Int))
    simp only [List.set_cons_zero, List.set_cons_succ] at HF2
    rw [← HCE.out, ← HLE.out, ← HOE.out] at HF2
    have H5 := Lib.hid HF2
    obtain ⟨s1a, s1b⟩ := s1
    obtain ⟨s3a, s3b⟩ := s3
    clear HF HF1 HF2
    cases hrc : rc
    · rw [hrc] at RC
      go_wp2_with (first
            | (refine wpList_val rfl (age_lt rfl HAG.out _ _ rfl rfl) ?_)
            | (refine wpList_val rfl (load_cn cc LC.out rfl _ (b := b3) (k := 0) (H5.out.boxRange 2 rfl) rfl) ?_)
            | (refine wpList_val rfl (load_cn lc LL.out rfl _ (b := p8) (k := 0) (H5.out.boxRange 1 rfl) rfl) ?_)
            | (refine wpList_val rfl (load_cn oc LO.out rfl _ (b := p9) (k := 0) (H5.out.boxRange 0 rfl) rfl) ?_))
      refine (RC.out _ H5.out.below).mono ?_
      rintro e vH6 ⟨rfl, h⟩
      have H6 := Lib.hid (H5.out.later h)
      clear h
      go_wp2_with (fail)
      go_ret
      exact ⟨rfl, HB3.out ▸ H6.out.below⟩
    · rw [hrc] at RC
      cases hrl : rl
      · rw [hrl] at RL
        go_wp2_with (first
              | (refine wpList_val rfl (age_lt rfl HAG.out _ _ rfl rfl) ?_)
              | (refine wpList_val rfl (load_cn cc LC.out rfl _ (b := b3) (k := 0) (H5.out.boxRange 2 rfl) rfl) ?_)
              | (refine wpList_val rfl (load_cn lc LL.out rfl _ (b := p8) (k := 0) (H5.out.boxRange 1 rfl) rfl) ?_)
              | (refine wpList_val rfl (load_cn oc LO.out rfl _ (b := p9) (k := 0) (H5.out.boxRange 0 rfl) rfl) ?_))
        refine (RC.out _ H5.out.below).mono ?_
        rintro e vH6 ⟨rfl, h⟩
        have H6 := Lib.hid (H5.out.later h)
        clear h
        go_wp2_with (first
              | (refine wpList_val rfl (age_lt rfl HAG.out _ _ rfl rfl) ?_)
              | (refine wpList_val rfl (load_cn cc LC.out rfl _ (b := b3) (k := 0) (H6.out.boxRange 2 rfl) rfl) ?_)
              | (refine wpList_val rfl (load_cn lc LL.out rfl _ (b := p8) (k := 0) (H6.out.boxRange 1 rfl) rfl) ?_)
              | (refine wpList_val rfl (load_cn oc LO.out rfl _ (b := p9) (k := 0) (H6.out.boxRange 0 rfl) rfl) ?_))
        refine (RL.out _ H6.out.below).mono ?_
        rintro e vH7 ⟨rfl, h⟩
        have H7 := Lib.hid (H6.out.later h)
        clear h
        go_wp2_with (fail)
        go_ret
        exact ⟨rfl, HB3.out ▸ H7.out.below⟩
      · rw [hrl] at RL
        go_wp2_with (first
              | (refine wpList_val rfl (age_lt rfl HAG.out _ _ rfl rfl) ?_)
              | (refine wpList_val rfl (load_cn cc LC.out rfl _ (b := b3) (k := 0) (H5.out.boxRange 2 rfl) rfl) ?_)
              | (refine wpList_val rfl (load_cn lc LL.out rfl _ (b := p8) (k := 0) (H5.out.boxRange 1 rfl) rfl) ?_)
              | (refine wpList_val rfl (load_cn oc LO.out rfl _ (b := p9) (k := 0) (H5.out.boxRange 0 rfl) rfl) ?_))
        refine (RC.out _ H5.out.below).mono ?_
        rintro e vH6 ⟨rfl, h⟩
        have H6 := Lib.hid (H5.out.later h)
        clear h
        go_wp2_with (first
              | (refine wpList_val rfl (age_lt rfl HAG.out _ _ rfl rfl) ?_)
              | (refine wpList_val rfl (load_cn cc LC.out rfl _ (b := b3) (k := 0) (H6.out.boxRange 2 rfl) rfl) ?_)
              | (refine wpList_val rfl (load_cn lc LL.out rfl _ (b := p8) (k := 0) (H6.out.boxRange 1 rfl) rfl) ?_)
              | (refine wpList_val rfl (load_cn oc LO.out rfl _ (b := p9) (k := 0) (H6.out.boxRange 0 rfl) rfl) ?_))
        refine (RL.out _ H6.out.below).mono ?_
        rintro e vH7 ⟨rfl, h⟩
        have H7 := Lib.hid (H6.out.later h)
        clear h
        have dl := (H7.out.cellV 2 rfl 1 CL.out).1
        by_cases hlt : live < lv
        · have hbl : bl = true := HLES.out hrc hrl hlt
          rw [hbl] at BL
          go_wp2_with (first
                | (refine wpList_val rfl (age_lt rfl HAG.out _ _ rfl rfl) ?_)
                | (refine wpList_val rfl (load_cn cc LC.out rfl _ (b := b3) (k := 0) (H7.out.boxRange 2 rfl) rfl) ?_)
                | (refine wpList_val rfl (load_cn lc LL.out rfl _ (b := p8) (k := 0) (H7.out.boxRange 1 rfl) rfl) ?_)
                | (refine wpList_val rfl (load_cn oc LO.out rfl _ (b := p9) (k := 0) (H7.out.boxRange 0 rfl) rfl) ?_))
          refine (BL.out _ H7.out.below).mono ?_
          rintro e vH8 ⟨rfl, h⟩
          have H8 := Lib.hid (H7.out.later h)
          clear h
          have dq := (H8.out.cellV 2 rfl 3 CA.out).1
          by_cases h1 : age ≤ ag
          · have h1' : (age : Int) ≤ (ag : Int) := by omega
            go_wp2_with (fail)
            go_ret
            exact ⟨rfl, HB3.out ▸ H8.out.below⟩
          · have h1' : ¬ (age : Int) ≤ (ag : Int) := by omega
            by_cases h2 : (ag : Int) ≥ 4294967296
            · go_wp2_with (fail)
              go_ret
              exact ⟨rfl, HB3.out ▸ H8.out.below⟩
            · have HAG : Hid (ag < 4294967296) := by show _ < _; omega
              clear h2
              cases hgc : gc
              · rw [hgc] at GC
                go_wp2_with (first
                      | (refine wpList_val rfl (age_lt rfl HAG.out _ _ rfl rfl) ?_)
                      | (refine wpList_val rfl (load_cn cc LC.out rfl _ (b := b3) (k := 0) (H8.out.boxRange 2 rfl) rfl) ?_) 
                      | (refine wpList_val rfl (load_cn lc LL.out rfl _ (b := p8) (k := 0) (H8.out.boxRange 1 rfl) rfl) ?_)
                      | (refine wpList_val rfl (load_cn oc LO.out rfl _ (b := p9) (k := 0) (H8.out.boxRange 0 rfl) rfl) ?_))
                refine (GC.out _ H8.out.below).mono ?_
                rintro e vHa ⟨rfl, h⟩
                have Ha := Lib.hid (H8.out.later h)
                clear h
                go_wp2_with (fail)
                go_ret
                exact ⟨rfl, HB3.out ▸ Ha.out.below⟩
              · rw [hgc] at GC
                have hbo : bo = true := HOLD.out hgc (by omega) HAG.out
                rw [hbo] at BO
                go_wp2_with (first
                      | (refine wpList_val rfl (age_lt rfl HAG.out _ _ rfl rfl) ?_)
                      | (refine wpList_val rfl (load_cn cc LC.out rfl _ (b := b3) (k := 0) (H8.out.boxRange 2 rfl) rfl) ?_) 
                      | (refine wpList_val rfl (load_cn lc LL.out rfl _ (b := p8) (k := 0) (H8.out.boxRange 1 rfl) rfl) ?_)
                      | (refine wpList_val rfl (load_cn oc LO.out rfl _ (b := p9) (k := 0) (H8.out.boxRange 0 rfl) rfl) ?_))
                refine (GC.out _ H8.out.below).mono ?_
                rintro e vHa ⟨rfl, h⟩
                have Ha := Lib.hid (H8.out.later h)
                clear h
                go_wp2_with (first
                      | (refine wpList_val rfl (age_lt rfl HAG.out _ _ rfl rfl) ?_)
                      | (refine wpList_val rfl (load_cn cc LC.out rfl _ (b := b3) (k := 0) (Ha.out.boxRange 2 rfl) rfl) ?_)
                      | (refine wpList_val rfl (load_cn lc LL.out rfl _ (b := p8) (k := 0) (Ha.out.boxRange 1 rfl) rfl) ?_)
                      | (refine wpList_val rfl (load_cn oc LO.out rfl _ (b := p9) (k := 0) (Ha.out.boxRange 0 rfl) rfl) ?_))
                refine (BO.out _ Ha.out.below).mono ?_
                rintro e vHb ⟨rfl, h⟩
                have Hb := Lib.hid (Ha.out.later h)
                clear h
                go_wp2_with (fail)
                go_ret
                exact ⟨rfl, HB3.out ▸ Hb.out.below⟩
        · have dq := (H7.out.cellV 2 rfl 3 CA.out).1
          by_cases h1 : age ≤ ag
          · have h1' : (age : Int) ≤ (ag : Int) := by omega
            go_wp2_with (fail)
            go_ret
            exact ⟨rfl, HB3.out ▸ H7.out.below⟩
          · have h1' : ¬ (age : Int) ≤ (ag : Int) := by omega
            by_cases h2 : (ag : Int) ≥ 4294967296
            · go_wp2_with (fail)
              go_ret
              exact ⟨rfl, HB3.out ▸ H7.out.below⟩
            · have HAG : Hid (ag < 4294967296) := by show _ < _; omega
              clear h2
              cases hgc : gc
              · rw [hgc] at GC
                go_wp2_with (first
                      | (refine wpList_val rfl (age_lt rfl HAG.out _ _ rfl rfl) ?_)
                      | (refine wpList_val rfl (load_cn cc LC.out rfl _ (b := b3) (k := 0) (H7.out.boxRange 2 rfl) rfl) ?_)
                      | (refine wpList_val rfl (load_cn lc LL.out rfl _ (b := p8) (k := 0) (H7.out.boxRange 1 rfl) rfl) ?_)
                      | (refine wpList_val rfl (load_cn oc LO.out rfl _ (b := p9) (k := 0) (H7.out.boxRange 0 rfl) rfl) ?_))
                refine (GC.out _ H7.out.below).mono ?_
                rintro e vHa ⟨rfl, h⟩
                have Ha := Lib.hid (H7.out.later h)
                clear h
                go_wp2_with (fail)
                go_ret
                exact ⟨rfl, HB3.out ▸ Ha.out.below⟩
              · rw [hgc] at GC
                have hbo : bo = true := HOLD.out hgc (by omega) HAG.out
                rw [hbo] at BO
                go_wp2_with (first
                      | (refine wpList_val rfl (age_lt rfl HAG.out _ _ rfl rfl) ?_)
                      | (refine wpList_val rfl (load_cn cc LC.out rfl _ (b := b3) (k := 0) (H7.out.boxRange 2 rfl) rfl) ?_)
                      | (refine wpList_val rfl (load_cn lc LL.out rfl _ (b := p8) (k := 0) (H7.out.boxRange 1 rfl) rfl) ?_)
                      | (refine wpList_val rfl (load_cn oc LO.out rfl _ (b := p9) (k := 0) (H7.out.boxRange 0 rfl) rfl) ?_))
                refine (GC.out _ H7.out.below).mono ?_
                rintro e vHa ⟨rfl, h⟩
                have Ha := Lib.hid (H7.out.later h)
                clear h
                go_wp2_with (first
                      | (refine wpList_val rfl (age_lt rfl HAG.out _ _ rfl rfl) ?_)
                      | (refine wpList_val rfl (load_cn cc LC.out rfl _ (b := b3) (k := 0) (Ha.out.boxRange 2 rfl) rfl) ?_)
                      | (refine wpList_val rfl (load_cn lc LL.out rfl _ (b := p8) (k := 0) (Ha.out.boxRange 1 rfl) rfl) ?_)
                      | (refine wpList_val rfl (load_cn oc LO.out rfl _ (b := p9) (k := 0) (Ha.out.boxRange 0 rfl) rfl) ?_))
                refine (BO.out _ Ha.out.below).mono ?_
                rintro e vHb ⟨rfl, h⟩
                have Hb := Lib.hid (Ha.out.later h)
                clear h
                go_wp2_with (fail)
                go_ret
                exact ⟨rfl, HB3.out ▸ Hb.out.below⟩
end Pic
end Go.Proofs.Ytcbkhgjjbponhaa

end
section
namespace Go.Proofs.Ytcbkhgjjbponhaa
open Go.RowKit Go.Own
namespace Pic
open Go.PicM Byt
/-- x[j:j+1], of elements of four cells -/
theorem cutM_cn {g o m c j : Nat} (hj : j < m) (hm : m ≤ c) (hc : c ≤ 9223372036854775807) {op : Oper} {x y z : Operand} (ho : op.op = .slice 28 x (some y) (some z) none) (ρ : Operand → Value) (w : World) (h0 : ρ x = .slice (some ⟨g, o, none⟩) m c) (h1 : ρ y = .int .i64 (j : Int)) (h2 : ρ z = .int .i64 ((j + 1 : Nat) : Int)) : (execOp ρ op).run Try.prog w = .ok (.value (.slice (some ⟨g, o + j * 4, none⟩) 1 (c - j))) w := by
  obtain ⟨i, hi, hs⟩ := Option.map_eq_some_iff.1 size_cn
  have hu := Try.underlying28
  have e1 : (j : Int) ≤ ((j + 1 : Nat) : Int) := by omega
  have e2 : ((j + 1 : Nat) : Int) ≤ (c : Int) := by omega
  have e3 : ¬ j = c := by omega
  have e4 : ¬ c = j := by omega
  have e5 : j + 1 ≤ c := by omega
  have e6 : (j : Int) + 1 ≤ (c : Int) := by omega
  have e7 : ((j : Int) + 1 - (j : Int)).toNat = 1 := by omega
  simp [execOp, ho, h0, h1, h2, go_sem, hu, e4, e6, add_of]
  intro h9
  omega
/-- x[k:] -/
theorem cutD_cn {g o m c k : Nat} (hk : k < m) (hm : m ≤ c) (hc : c ≤ 9223372036854775807) {op : Oper} {x y : Operand} (ho : op.op = .slice 28 x (some y) none none) (ρ : Operand → Value) (w : World) (h0 : ρ x = .slice (some ⟨g, o, none⟩) m c) (h1 : ρ y = .int .i64 (k : Int)) : (execOp ρ op).run Try.prog w = .ok (.value (.slice (some ⟨g, o + k * 4, none⟩) (m - k) (c - k))) w := by
  obtain ⟨i, hi, hs⟩ := Option.map_eq_some_iff.1 size_cn
  have hu := Try.underlying28
  have e1 : (k : Int) ≤ (m : Int) := by omega
  have e2 : (m : Int) ≤ (c : Int) := by omega
  have e3 : ¬ k = c := by omega
  have e4 : ¬ c = k := by omega
  have e5 : k ≤ m := by omega
  have e6 : m ≤ c := hm
  have e7 : ((m : Int) - (k : Int)).toNat = m - k := by omega
  simp [execOp, ho, h0, h1, go_sem, hu, e1, e4, add_of]
theorem remc {o : Oper} {x y : Tmp} (ho : o.op = .binOp .rem 3 (.tmp x) (.tmp y) 3) {a b f : Nat} (hb : 0 < b) (hf : f = a % b) (hb2 : b ≤ 1000000) (ρ : Operand → Value) (w : World) (h0 : ρ (.tmp x) = .int .i64 (a : Int)) (h1 : ρ (.tmp y) = .int .i64 (b : Int)) : (execOp ρ o).run Try.prog w = .ok (.value (.int .i64 (f : Int))) w := by
  have hfb : f < b := by rw [hf]; exact Nat.mod_lt _ hb
  have e : (a : Int).tmod (b : Int) = (f : Int) := by rw [hf]; rfl
  have e2 : IntKind.i64.wrap (f : Int) = (f : Int) := by rw [IntWalk.i64_in _ (by omega)]
  have e3 : ¬ (b : Int) = 0 := by omega
  have e4 : ¬ b = 0 := by omega
  simp [execOp, ho, h0, h1, go_sem, e, e4]
theorem win_sub {X : List Cn} {w : World} {g o k n c : Nat} (h : ∀ j u, (X.flatMap cC)[j]? = some u → w.cell? ⟨g, o + j, none⟩ = some u) (Y : List Cn) (hY : ∀ i, i < Y.length → k + i < X.length ∧ at_ Y i = at_ X (k + i)) : RdWin w (.slice (some ⟨g, o + k * 4, none⟩) n c) n (Y.flatMap cC) := by
  refine ⟨_, _, rfl, .inr ⟨g, _, rfl, ?_⟩⟩
  refine cns_flat (fun i hi => ?_)
  obtain ⟨h1, h2⟩ := hY i hi
  have h3 := cn_range h h1
  have e : Y[i] = at_ Y i := by
    have := at_get hi
    rw [List.getElem?_eq_getElem hi] at this
    exact Option.some.inj this
  rw [e, h2, show o + k * 4 + i * 4 = o + (k + i) * 4 by omega]
  exact h3
set_option maxRecDepth 6000 in
set_option maxHeartbeats 6400000 in
theorem walk_alone (a0 : Option Addr) (len0 cap0 : Nat) (L : List Cn) (cut : Nat) (hcut : cut < 256) {w : World} (w0 : inSlice 4 inCn L w.heap.size w [.slice a0 len0 cap0]) (K : Kept w) : Calls Try.prog 8 #[.slice a0 len0 cap0, .int .u8 (cut : Int)] w (RetYes w) := by
  obtain ⟨m, X, hm, hm1, hm2, hcap, hmax, hnil, hXl, hXf, hwin⟩ := cns_in w0
  have hmin : min (len0 : Int) 200 = (m : Int) := by omega
  have NIL1 : Hid (a0 = none → cap0 = 0) := hnil
  have HWIN := Lib.hid hwin
  have RW : Hid (∀ wx, Below w.heap.size w wx → RdWin wx (.slice a0 m cap0) m (X.flatMap cC)) := by
    intro wx hwx
    rcases HWIN.out with h | ⟨g, o, e, hc⟩
    · exact ⟨a0, cap0, rfl, .inl h⟩
    · exact ⟨a0, cap0, rfl, .inr ⟨g, o, e, fun j u hu => hc wx hwx j u hu⟩⟩
  have HXL := Lib.hid hXl
  have HXF := Lib.hid hXf
  have SH := Lib.hid (shown_any K (Below.refl _ _))
  clear hwin hXl hXf w0 hm hnil
  obtain ⟨bi, hbi⟩ : ∃ x, x = bestI X := ⟨_, rfl⟩
  have hmc : m ≤ cap0 := by omega
  have hbc := best_cases X
  rw [← hbi, HXL.out] at hbc
  have hq1 : ¬ bi < -1 := by rcases hbc with ⟨h, _⟩ | ⟨t, _, _, h, _⟩ <;> rw [h] <;> omega
  have hq2 : ¬ bi ≥ (m : Int) := by rcases hbc with ⟨h, _⟩ | ⟨t, _, _, h, _⟩ <;> rw [h] <;> omega
  have HBC := Lib.hid hbc
  have HBI := Lib.hid hbi
  clear hbc hbi
  go_enter Try.func8, Try.ntmps8
  go_wp2_with (fail)
  refine SH.out.mono ?_
  rintro e w1 ⟨rfl, h⟩
  have HB := Lib.hid h
  clear h SH
  go_wp2_with (refine wpList_val rfl (cutK_cn m hm1 hcap hmax rfl _ _ rfl rfl NIL1.out) ?_)
  refine (K.best X m _ HB.out HXF.out HXL.out (by omega) (RW.out _ HB.out)).mono ?_
  rw [← HBI.out]
  rintro e w2 ⟨rfl, h⟩
  have HB2 := Lib.hid (HB.out.trans (h.mono HB.out.size))
  clear h HB
  go_wp2_with (fail)
  go_loopw [28] (fun v28 wr => ∃ i : Nat, i ≤ m ∧ v28 = .int .i64 (i : Int) ∧ Below w.heap.size w wr) (fun v28 _ => m - (intOf v28).toNat)
  case atStart => exact ⟨0, Nat.zero_le _, rfl, HB2.out⟩
  case round =>
    obtain ⟨i, hin, rfl, hbw⟩ := hrel
    have HB3 := Lib.hid hbw
    clear hbw HB2
    by_cases hi : (i : Int) < (m : Int)
    · have him : i < m := by omega
      have hi6 : i ≤ 1000000 := by omega
      rcases HWIN.out with h | ⟨g, o, rfl, hc⟩
      · omega
      obtain ⟨ci, hci⟩ : ∃ x, x = cC (at_ X i) := ⟨_, rfl⟩
      obtain ⟨gi, hgi⟩ : ∃ x, x = gains (at_ X i) := ⟨_, rfl⟩
      have UP : Hid (∀ wx, Below wr.heap.size wr wx → Below w.heap.size w wx) := fun wx hwx => HB3.out.trans (hwx.mono HB3.out.size)
      have LI : Hid (ci.length = 4) := by show _ = _; rw [hci]; rfl
      have RI : Hid (∀ wx, Below wr.heap.size wr wx → wx.rangeAt g (o + i * 4) ci) := by
        intro wx hwx
        rw [hci]
        exact cn_range (hc wx (UP.out wx hwx)) (by rw [HXL.out]; exact him)
      have GI : Hid (∀ wx, Below wr.heap.size wr wx → Calls Try.prog 12 #[.agg ci.toArray] wx fun e w' => e = .returned (.bool gi) ∧ Below wx.heap.size wx w') := by
        rw [hci, hgi]
        exact fun wx hwx => K.gains (at_ X i) (UP.out wx hwx) (HXF.out _ (at_mem (by rw [HXL.out]; exact him)))
      have BO : Hid (∀ wx, Below wr.heap.size wr wx → Calls Try.prog 16 #[.slice (some ⟨g, o + i * 4, none⟩) 1 (cap0 - i)] wx fun e w' => e = .returned (.int .i64 (if gi then 0 else -1)) ∧ Below wx.heap.size wx w') := by
        intro wx hwx
        have h := K.best [at_ X i] 1 (.slice (some ⟨g, o + i * 4, none⟩) 1 (cap0 - i)) (UP.out wx hwx) (fun c hcm => by rw [List.mem_singleton.1 hcm]; exact HXF.out _ (at_mem (by rw [HXL.out]; exact him))) rfl (by decide) (win_sub (hc wx (UP.out wx hwx)) [at_ X i] (fun q hq => by
          obtain rfl : q = 0 := by simpa using hq
          exact ⟨by rw [HXL.out]; omega, rfl⟩))
        rw [show bestI [at_ X i] = if gi then 0 else -1 by rw [bestI, best_one, hgi]; cases gains (at_ X i) <;> rfl] at h
        exact h
      clear hci hc hgi
      cases gi
      · simp only [Bool.false_eq_true, if_false] at BO
        go_wp2_with (fail)
        refine wp_lax_list (by kernel_rfl) (by kernel_rfl) (by kernel_rfl) ?_
        refine wpL_move (.slice (some ⟨g, o, none⟩) m cap0) rfl (by kernel_rfl) (by kernel_rfl) (by kernel_rfl) (by kernel_rfl) ?_
        refine wpL_move (.int .i64 (i : Int)) rfl (by kernel_rfl) (by kernel_rfl) (by kernel_rfl) (by kernel_rfl) ?_
        refine wpL_move (.int .i64 (i : Int)) rfl (by kernel_rfl) (by kernel_rfl) (by kernel_rfl) (by kernel_rfl) ?_
        refine wpL_run1 (x := .tmp 33) (.int .i64 (i : Int)) (.int .i64 ((i + 1 : Nat) : Int)) (by kernel_rfl) (by kernel_rfl) (by kernel_rfl) (by kernel_rfl) (by kernel_rfl) (fun wx ρ hwx h0 hc => add1c rfl hi6 ρ wx h0 hc) ?_
        refine wpL_run3 (x := .tmp 31) (y := .tmp 32) (z := .tmp 34) (.slice (some ⟨g, o, none⟩) m cap0) (.int .i64 (i : Int)) (.int .i64 ((i + 1 : Nat) : Int)) (.slice (some ⟨g, o + i * 4, none⟩) 1 (cap0 - i)) (by kernel_rfl) (by kernel_rfl) (by kernel_rfl) (by kernel_rfl) (by kernel_rfl) (by kernel_rfl) (by kernel_rfl) (fun wx ρ hwx h0 h1 h2 hc => cutM_cn him hmc hmax rfl ρ wx h0 h1 h2) ?_
        refine wpL_fn (.int .i64 (-1)) [.slice (some ⟨g, o + i * 4, none⟩) 1 (cap0 - i)] rfl (by kernel_rfl) (by kernel_rfl) (by kernel_rfl) (by kernel_rfl) (fun _ _ => by simp [go_sem]) (fun wx hwx => BO.out wx hwx) ?_
        refine wpL_run1 (x := .tmp 36) (.int .i64 (-1)) (.bool false) (by kernel_rfl) (by kernel_rfl) (by kernel_rfl) (by kernel_rfl) (by kernel_rfl) (fun wx ρ hwx h0 hc => by simp [go_sem, h0, hc]) ?_
        refine wpL_move (.slice (some ⟨g, o, none⟩) m cap0) rfl (by kernel_rfl) (by kernel_rfl) (by kernel_rfl) (by kernel_rfl) ?_
        refine wpL_move (.int .i64 (i : Int)) rfl (by kernel_rfl) (by kernel_rfl) (by kernel_rfl) (by kernel_rfl) ?_
        refine wpL_run2 (x := .tmp 38) (y := .tmp 39) (.slice (some ⟨g, o, none⟩) m cap0) (.int .i64 (i : Int)) (.pointer (some ⟨g, o + i * 4, none⟩)) (by kernel_rfl) (by kernel_rfl) (by kernel_rfl) (by kernel_rfl) (by kernel_rfl) (by kernel_rfl) (fun wx ρ hwx h0 h1 hc => idx_cn rfl him ρ wx h0 h1) ?_
        refine wpL_run1 (x := .tmp 40) (.pointer (some ⟨g, o + i * 4, none⟩)) (.agg ci.toArray) (by kernel_rfl) (by kernel_rfl) (by kernel_rfl) (by kernel_rfl) (by kernel_rfl) (fun wx ρ hwx h0 hc => load_cn ci LI.out rfl ρ (RI.out wx hwx) h0) ?_
        refine wpL_fn (.bool false) [.agg ci.toArray] rfl (by kernel_rfl) (by kernel_rfl) (by kernel_rfl) (by kernel_rfl) (fun _ _ => by simp [go_sem]) (fun wx hwx => GI.out wx hwx) ?_
        refine wpL_run2 (x := .tmp 37) (y := .tmp 42) (.bool false) (.bool false) (.bool false) (by kernel_rfl) (by kernel_rfl) (by kernel_rfl) (by kernel_rfl) (by kernel_rfl) (by kernel_rfl) (fun wx ρ hwx h0 h1 hc => by simp [go_sem, h0, h1]) ?_
        refine wpL_end (by kernel_rfl) (fun w4 hw4 => ?_)
        simp only [FinL, setL, List.set_cons_zero, List.set_cons_succ]
        have HB4 := Lib.hid (UP.out w4 hw4)
        clear hw4 RI GI BO UP
        go_wp2
        go_roundw
        case rel => exact ⟨i + 1, by omega, by go_num, HB4.out⟩
        case measure => simp [intOf]; omega
      · simp only [if_true] at BO
        go_wp2_with (fail)
        refine wp_lax_list (by kernel_rfl) (by kernel_rfl) (by kernel_rfl) ?_
        refine wpL_move (.slice (some ⟨g, o, none⟩) m cap0) rfl (by kernel_rfl) (by kernel_rfl) (by kernel_rfl) (by kernel_rfl) ?_
        refine wpL_move (.int .i64 (i : Int)) rfl (by kernel_rfl) (by kernel_rfl) (by kernel_rfl) (by kernel_rfl) ?_
        refine wpL_move (.int .i64 (i : Int)) rfl (by kernel_rfl) (by kernel_rfl) (by kernel_rfl) (by kernel_rfl) ?_
        refine wpL_run1 (x := .tmp 33) (.int .i64 (i : Int)) (.int .i64 ((i + 1 : Nat) : Int)) (by kernel_rfl) (by kernel_rfl) (by kernel_rfl) (by kernel_rfl) (by kernel_rfl) (fun wx ρ hwx h0 hc => add1c rfl hi6 ρ wx h0 hc) ?_
        refine wpL_run3 (x := .tmp 31) (y := .tmp 32) (z := .tmp 34) (.slice (some ⟨g, o, none⟩) m cap0) (.int .i64 (i : Int)) (.int .i64 ((i + 1 : Nat) : Int)) (.slice (some ⟨g, o + i * 4, none⟩) 1 (cap0 - i)) (by kernel_rfl) (by kernel_rfl) (by kernel_rfl) (by kernel_rfl) (by kernel_rfl) (by kernel_rfl) (by kernel_rfl) (fun wx ρ hwx h0 h1 h2 hc => cutM_cn him hmc hmax rfl ρ wx h0 h1 h2) ?_
        refine wpL_fn (.int .i64 0) [.slice (some ⟨g, o + i * 4, none⟩) 1 (cap0 - i)] rfl (by kernel_rfl) (by kernel_rfl) (by kernel_rfl) (by kernel_rfl) (fun _ _ => by simp [go_sem]) (fun wx hwx => BO.out wx hwx) ?_
        refine wpL_run1 (x := .tmp 36) (.int .i64 0) (.bool true) (by kernel_rfl) (by kernel_rfl) (by kernel_rfl) (by kernel_rfl) (by kernel_rfl) (fun wx ρ hwx h0 hc => by simp [go_sem, h0, hc]) ?_
        refine wpL_move (.slice (some ⟨g, o, none⟩) m cap0) rfl (by kernel_rfl) (by kernel_rfl) (by kernel_rfl) (by kernel_rfl) ?_
        refine wpL_move (.int .i64 (i : Int)) rfl (by kernel_rfl) (by kernel_rfl) (by kernel_rfl) (by kernel_rfl) ?_
        refine wpL_run2 (x := .tmp 38) (y := .tmp 39) (.slice (some ⟨g, o, none⟩) m cap0) (.int .i64 (i : Int)) (.pointer (some ⟨g, o + i * 4, none⟩)) (by kernel_rfl) (by kernel_rfl) (by kernel_rfl) (by kernel_rfl) (by kernel_rfl) (by kernel_rfl) (fun wx ρ hwx h0 h1 hc => idx_cn rfl him ρ wx h0 h1) ?_
        refine wpL_run1 (x := .tmp 40) (.pointer (some ⟨g, o + i * 4, none⟩)) (.agg ci.toArray) (by kernel_rfl) (by kernel_rfl) (by kernel_rfl) (by kernel_rfl) (by kernel_rfl) (fun wx ρ hwx h0 hc => load_cn ci LI.out rfl ρ (RI.out wx hwx) h0) ?_
        refine wpL_fn (.bool true) [.agg ci.toArray] rfl (by kernel_rfl) (by kernel_rfl) (by kernel_rfl) (by kernel_rfl) (fun _ _ => by simp [go_sem]) (fun wx hwx => GI.out wx hwx) ?_
        refine wpL_run2 (x := .tmp 37) (y := .tmp 42) (.bool true) (.bool true) (.bool false) (by kernel_rfl) (by kernel_rfl) (by kernel_rfl) (by kernel_rfl) (by kernel_rfl) (by kernel_rfl) (fun wx ρ hwx h0 h1 hc => by simp [go_sem, h0, h1]) ?_
        refine wpL_end (by kernel_rfl) (fun w4 hw4 => ?_)
        simp only [FinL, setL, List.set_cons_zero, List.set_cons_succ]
        have HB4 := Lib.hid (UP.out w4 hw4)
        clear hw4 RI GI BO UP
        go_wp2
        go_roundw
        case rel => exact ⟨i + 1, by omega, by go_num, HB4.out⟩
        case measure => simp [intOf]; omega
    · rcases HBC.out with ⟨rfl, _⟩ | ⟨t, htm, hbp, rfl, hgt, hno⟩
      · go_wp2_with (fail)
        go_ret
        exact ⟨rfl, HB3.out⟩
      · rcases HWIN.out with h | ⟨g, o, rfl, hc⟩
        · omega
        have HC := Lib.hid hc
        have ht0 : ¬ (t : Int) < 0 := by omega
        have ht2 : t ≤ 200 := by omega
        have htn : t + 1 ≤ m := by omega
        obtain ⟨fr, hfr⟩ : ∃ x, x = cut % (t + 1) := ⟨_, rfl⟩
        have hft : fr < t + 1 := by rw [hfr]; exact Nat.mod_lt _ (Nat.succ_pos _)
        have hfm : fr < m := by omega
        have HFR := Lib.hid hfr
        have hlt : bestP X < X.length := by rw [hbp, HXL.out]; exact htm
        have BD : Hid (∀ wx, Below w.heap.size w wx → Calls Try.prog 16 #[.slice (some ⟨g, o + fr * 4, none⟩) (m - fr) (cap0 - fr)] wx fun e w' => e = .returned (.int .i64 ((t : Int) - (fr : Int))) ∧ Below wx.heap.size wx w') := by
          intro wx hwx
          have hdl : (X.drop fr).length = m - fr := by rw [List.length_drop, HXL.out]
          have h := K.best (X.drop fr) (m - fr) (.slice (some ⟨g, o + fr * 4, none⟩) (m - fr) (cap0 - fr)) hwx (fun c hcm => HXF.out _ (List.mem_of_mem_drop hcm)) hdl (by omega) (win_sub (HC.out wx hwx) (X.drop fr) (fun q hq => by rw [hdl] at hq; exact ⟨by rw [HXL.out]; omega, at_drop X fr q⟩))
          have hb := best_drop hlt fr (by rw [hbp]; omega)
          rw [show bestI (X.drop fr) = (t : Int) - (fr : Int) by rw [bestI, hb, hbp, if_pos (by rw [hdl]; omega)]; omega] at h
          exact h
        have BT : Hid (∀ wx, Below w.heap.size w wx → Calls Try.prog 16 #[.slice (some ⟨g, o, none⟩) (t + 1) cap0] wx fun e w' => e = .returned (.int .i64 (t : Int)) ∧ Below wx.heap.size wx w') := by
          intro wx hwx
          have hdl : (X.take (t + 1)).length = t + 1 := by rw [List.length_take, HXL.out]; omega
          have hw : RdWin wx (.slice (some ⟨g, o, none⟩) (t + 1) cap0) (t + 1) ((X.take (t + 1)).flatMap cC) := by
            have h := win_sub (g := g) (o := o) (k := 0) (n := t + 1) (c := cap0) (HC.out wx hwx) (X.take (t + 1)) (fun q hq => by rw [hdl] at hq; exact ⟨by rw [HXL.out]; omega, by rw [Nat.zero_add]; exact at_take hq⟩)
            rw [Nat.zero_mul, Nat.add_zero] at h
            exact h
          have h := K.best (X.take (t + 1)) (t + 1) (.slice (some ⟨g, o, none⟩) (t + 1) cap0) hwx (fun c hcm => HXF.out _ (List.mem_of_mem_take hcm)) hdl (by omega) hw
          have hb := best_take hlt
          rw [hbp] at hb
          rw [show bestI (X.take (t + 1)) = (t : Int) by rw [bestI, hb, if_pos (by rw [hdl]; omega)]] at h
          exact h
        clear hc hfr hlt hno hgt hbp RW HWIN HXL HXF HBC HBI HC
        go_wp2_with (first
          | (refine wpList_val rfl (remc (b := t + 1) rfl (by omega) HFR.out (by omega) _ _ rfl rfl) ?_)
          | (refine wpList_val rfl (cutD_cn hfm hmc hmax rfl _ _ rfl rfl) ?_))
        refine (BD.out _ HB3.out).mono ?_
        rintro e w5 ⟨rfl, h⟩
        have HB5 := Lib.hid (HB3.out.trans (h.mono HB3.out.size))
        clear h
        go_wp2_with (refine wpList_val rfl (cutK_cn (t + 1) htn hmc hmax rfl _ _ rfl rfl (fun h => by cases h)) ?_)
        refine (BT.out _ HB5.out).mono ?_
        rintro e w6 ⟨rfl, h⟩
        have HB6 := Lib.hid (HB5.out.trans (h.mono HB5.out.size))
        clear h
        go_wp2_with (fail)
        go_ret
        exact ⟨by simp, HB6.out⟩
end Pic
end Go.Proofs.Ytcbkhgjjbponhaa

end
section
namespace Go.RecM
abbrev Bs := List UInt8
/-- the many lowest bytes of n, the least significant one first (as Cod.le) -/
def le (n : Nat) : Nat → Bs
  | 0 => []
  | k + 1 => le n k ++ [UInt8.ofNat (n / 2 ^ (8 * k))]
structure Nte where
  kind : UInt8
  addr : Nat
  seq : Nat
  sum : Bs
  kn : Nat
  data : Bs
def zsum : Bs := List.replicate 32 0
def zeroN : Nte := ⟨0, 0, 0, zsum, 0, []⟩
/-- the fields are of their widths -/
structure Fits (n : Nte) : Prop where
  addr : n.addr < 4294967296
  seq : n.seq < 18446744073709551616
  sum : n.sum.length = 32
  kn : n.kn < 4294967296
def right (n : Nte) : Bool :=
  decide (n.data.length ≤ 300) &&
    (if n.kind = 1 then true
     else if n.kind = 2 then decide (n.sum = zsum) && decide (n.kn = 0) && decide (n.data.length = 0)
     else if n.kind = 3 then decide (n.addr = 0) && (decide (n.sum = zsum) && decide (n.kn = 0)) && decide (n.data.length = 0)
     else if n.kind = 4 then decide (n.addr = 0) && decide (n.seq = 0) && decide (0 < n.data.length)
     else false)
def tail (n : Nte) : Bs := n.sum ++ (le n.kn 4 ++ (le n.data.length 2 ++ n.data))
def laid (n : Nte) : Bs :=
  n.kind :: (if n.kind = 1 then le n.addr 4 ++ (le n.seq 8 ++ tail n)
    else if n.kind = 2 then le n.addr 4 ++ le n.seq 8
    else if n.kind = 3 then le n.seq 8
    else tail n)
/-- bytes that are a note's -/
def IsNote (b : Bs) : Prop := ∃ n, Fits n ∧ right n = true ∧ laid n = b
open Classical in
noncomputable def take (b : Bs) : Nte × Nat := if h : IsNote b then (h.choose, 0) else (zeroN, 100)
end Go.RecM

end
section
namespace Go.Proofs.Ytcbkhgjjbponhaa
open Go.RowKit Go.Own
namespace Rec
open Go.RecM Byt
theorem nat_u64 {a : Int} (h : (Lit.int .u64 a).wf = true) : ∃ u : Nat, a = u ∧ u < 18446744073709551616 := by
  have : 0 ≤ a ∧ a < 18446744073709551616 := by
    have : 0 ≤ a ∧ a ≤ 18446744073709551615 := by simpa [Lit.wf, IntKind.min, IntKind.max, IntKind.signed, IntKind.bits] using h
    omega
  exact ⟨a.toNat, by omega, by omega⟩
end Rec
end Go.Proofs.Ytcbkhgjjbponhaa

end
section
namespace Go.Proofs.Ytcbkhgjjbponhaa
open Go.RowKit Go.Own
namespace Pic
open Go.PicM Byt
open Rec (nat_u64)
theorem i64_ends {a : Int} (h : (Lit.int .i64 a).wf = true) : -9223372036854775808 ≤ a ∧ a ≤ 9223372036854775807 := by
  simpa [Lit.wf, IntKind.min, IntKind.max, IntKind.signed, IntKind.bits] using h
theorem opens_cn : Opens Try.prog 24 inCn := by
  intro H enc w fuel cs x h
  obtain ⟨hl, hf⟩ := opens_fields (P := Try.prog) Try.underlying24 h
  rw [show Try.prog.cellsOf 24 = 4 by kernel_rfl] at hl
  obtain ⟨n0, y0, h0⟩ := hf 0 _ rfl
  obtain ⟨n1, y1, h1⟩ := hf 1 _ rfl
  obtain ⟨n2, y2, h2⟩ := hf 2 _ rfl
  obtain ⟨n3, y3, h3⟩ := hf 3 _ rfl
  obtain ⟨a0, e0, w0⟩ := opens_int (P := Try.prog) Try.underlying3 H enc w n0 _ y0 h0
  obtain ⟨a1, e1, w1⟩ := opens_int (P := Try.prog) Try.underlying3 H enc w n1 _ y1 h1
  obtain ⟨a2, e2, w2⟩ := opens_int (P := Try.prog) Try.underlying3 H enc w n2 _ y2 h2
  obtain ⟨a3, e3, w3⟩ := opens_int (P := Try.prog) Try.underlying22 H enc w n3 _ y3 h3
  obtain ⟨u, rfl, hu⟩ := nat_u64 w3
  have k0 : Try.prog.cellsOf 3 = 1 := by kernel_rfl
  have k3 : Try.prog.cellsOf 22 = 1 := by kernel_rfl
  refine ⟨⟨a0, a1, a2, u⟩, ?_, ⟨i64_ends w0, i64_ends w1, i64_ends w2, hu⟩⟩
  match cs, hl with
  | [c0, c1, c2, c3], _ =>
    have f0 : c0 = .int .i64 a0 := by simpa [k0] using e0
    have f1 : c1 = .int .i64 a1 := by simpa [k0] using e1
    have f2 : c2 = .int .i64 a2 := by simpa [k0] using e2
    have f3 : c3 = .int .u64 (u : Int) := by simpa [k3] using e3
    show _ = cC _
    rw [f0, f1, f2, f3]
    rfl
theorem agg_cn {vs : Array Value} {c : Cn} (h : vs.toList = cC c) : (.agg vs : Value) = cV c := by
  have e : vs = (cC c).toArray := by rw [← h]
  rw [e]
  rfl
theorem in_compares (vs : Array Value) (a : Cn) (us : Array Value) (b : Cn) {w : World} (h : inCn a w.heap.size w vs.toList) (g : inCn b w.heap.size w us.toList) (K : Kept w) : Calls Try.prog 3 #[.agg vs, .agg us] w (RetYes w) := by
  rw [agg_cn h.1, agg_cn g.1]
  exact walk_compares a b h.2 g.2 K (Below.refl _ _)
theorem in_order (vs : Array Value) (a : Cn) (us : Array Value) (b : Cn) (ts : Array Value) (c : Cn) {w : World} (h : inCn a w.heap.size w vs.toList) (g : inCn b w.heap.size w us.toList) (k : inCn c w.heap.size w ts.toList) (K : Kept w) : Calls Try.prog 5 #[.agg vs, .agg us, .agg ts] w (RetYes w) := by
  rw [agg_cn h.1, agg_cn g.1, agg_cn k.1]
  exact walk_order a b c h.2 g.2 k.2 K
theorem in_less (vs : Array Value) (c : Cn) (live : Int) (hl : (Lit.int .i64 live).wf = true) (age : Int) (ha : (Lit.int .u64 age).wf = true) {w : World} (h : inCn c w.heap.size w vs.toList) (K : Kept w) : Calls Try.prog 7 #[.agg vs, .int .i64 live, .int .u64 age] w (RetYes w) := by
  obtain ⟨u, rfl, hu⟩ := nat_u64 ha
  rw [agg_cn h.1]
  exact walk_less c live u (i64_ends hl) hu h.2 K
theorem in_alone (a0 : Option Addr) (len0 cap0 : Nat) (L : List Cn) (k : Int) (hk : (Lit.int .u8 k).wf = true) {w : World} (w0 : inSlice 4 inCn L w.heap.size w [.slice a0 len0 cap0]) (K : Kept w) : Calls Try.prog 8 #[.slice a0 len0 cap0, .int .u8 k] w (RetYes w) := by
  have h2 : 0 ≤ k ∧ k ≤ 255 := by simpa [Lit.wf, IntKind.min, IntKind.max, IntKind.signed, IntKind.bits] using hk
  obtain ⟨u, rfl⟩ : ∃ u : Nat, k = (u : Int) := ⟨k.toNat, by omega⟩
  exact walk_alone a0 len0 cap0 L u (by omega) w0 K
end Pic
end Go.Proofs.Ytcbkhgjjbponhaa

end
section
namespace Go.PicM
theorem at_left {T : List Cn} {c : Cn} {j : Nat} (h : j < T.length) : at_ (T ++ [c]) j = at_ T j := by
  unfold at_
  rw [List.getD_eq_getElem?_getD, List.getD_eq_getElem?_getD, List.getElem?_append_left h]
theorem at_last (T : List Cn) (c : Cn) : at_ (T ++ [c]) T.length = c := by
  unfold at_
  rw [List.getD_eq_getElem?_getD, List.getElem?_append_right (Nat.le_refl _), Nat.sub_self]
  rfl
theorem none_gains {T : List Cn} (h : bestP T = T.length) : ∀ j, j < T.length → gains (at_ T j) = false := by
  intro j hj
  cases hg : gains (at_ T j)
  · rfl
  · have := best_some hj hg
    omega
theorem not_top {L : List Cn} {c : Cn} (h : gains c = false) : isTop L c = false := by
  cases h2 : isTop L c
  · rfl
  · rw [isTop, topF_iff] at h2
    rw [h] at h2
    cases h2.1
theorem len_snoc (T : List Cn) (c : Cn) : (T ++ [c]).length = T.length + 1 := by simp
theorem snoc_none {T : List Cn} {c : Cn} (h : bestP T = T.length) (hg : gains c = true) : bestP (T ++ [c]) = T.length := by
  have hn := none_gains h
  refine best_eq _ _ (by rw [len_snoc]; omega) (fun j hj => ?_) (fun _ => ?_)
  · rw [at_left hj]; exact not_top (hn j hj)
  · rw [at_last, isTop, topF_iff]
    refine ⟨hg, fun k hk => ?_⟩
    rw [len_snoc] at hk
    rcases Nat.lt_or_ge k T.length with h1 | h1
    · rw [at_left h1]
      cases hb : better (at_ T k) c
      · rfl
      · have := better_gains hb
        rw [hn k h1] at this
        cases this
    · obtain rfl : k = T.length := by omega
      rw [at_last]; exact better_self _
theorem snoc_never {T : List Cn} {c : Cn} (h : bestP T = T.length) (hg : gains c = false) : bestP (T ++ [c]) = T.length + 1 := by
  have hn := none_gains h
  refine best_eq _ _ (by rw [len_snoc]; omega) (fun j hj => ?_) (fun h2 => by rw [len_snoc] at h2; omega)
  rcases Nat.lt_or_ge j T.length with h1 | h1
  · rw [at_left h1]; exact not_top (hn j h1)
  · obtain rfl : j = T.length := by omega
    rw [at_last]; exact not_top hg
theorem snoc_new {T : List Cn} {c : Cn} (h : bestP T < T.length) (hb : better c (at_ T (bestP T)) = true) : bestP (T ++ [c]) = T.length := by
  obtain ⟨hg, ht⟩ := best_top h
  refine best_eq _ _ (by rw [len_snoc]; omega) (fun j hj => ?_) (fun _ => ?_)
  · rw [at_left hj]
    cases h2 : isTop (T ++ [c]) (at_ T j)
    · rfl
    · rw [isTop, topF_iff] at h2
      obtain ⟨h3, h4⟩ := h2
      have h5 := h4 (bestP T) (by rw [len_snoc]; omega)
      rw [at_left h] at h5
      have h6 := h4 T.length (by rw [len_snoc]; omega)
      rw [at_last] at h6
      rw [better_alike hg h3 h5 (ht j hj) hb] at h6
      cases h6
  · rw [at_last, isTop, topF_iff]
    refine ⟨better_gains hb, fun k hk => ?_⟩
    rw [len_snoc] at hk
    rcases Nat.lt_or_ge k T.length with h1 | h1
    · rw [at_left h1]
      cases h2 : better (at_ T k) c
      · rfl
      · have := better_trans h2 hb
        rw [ht k h1] at this
        cases this
    · obtain rfl : k = T.length := by omega
      rw [at_last]; exact better_self _
theorem snoc_old {T : List Cn} {c : Cn} (h : bestP T < T.length) (hb : better c (at_ T (bestP T)) = false) : bestP (T ++ [c]) = bestP T := by
  obtain ⟨hg, ht⟩ := best_top h
  obtain ⟨_, hno, _⟩ := best_spec T
  refine best_eq _ _ (by rw [len_snoc]; omega) (fun j hj => ?_) (fun _ => ?_)
  · rw [at_left (by omega)]
    have h1 := hno j hj
    cases h2 : isTop (T ++ [c]) (at_ T j)
    · rfl
    · rw [isTop, topF_iff] at h2
      obtain ⟨h3, h4⟩ := h2
      have h5 : isTop T (at_ T j) = true := by
        rw [isTop, topF_iff]
        refine ⟨h3, fun k hk => ?_⟩
        have := h4 k (by rw [len_snoc]; omega)
        rwa [at_left hk] at this
      rw [h1] at h5
      cases h5
  · rw [at_left h, isTop, topF_iff]
    refine ⟨hg, fun k hk => ?_⟩
    rw [len_snoc] at hk
    rcases Nat.lt_or_ge k T.length with h1 | h1
    · rw [at_left h1]; exact ht k h1
    · obtain rfl : k = T.length := by omega
      rw [at_last]; exact hb
theorem take_snoc {L : List Cn} {i : Nat} (h : i < L.length) : L.take (i + 1) = L.take i ++ [at_ L i] := by
  rw [List.take_add_one, at_get h]
  rfl
/-- the best of the first i + 1, as the loop finds it -/
theorem bestI_take {L : List Cn} {i : Nat} (h : i < L.length) :
    (bestI (L.take i) = -1 ∧ ((gains (at_ L i) = true ∧ bestI (L.take (i + 1)) = (i : Int)) ∨ (gains (at_ L i) = false ∧ bestI (L.take (i + 1)) = -1)))
    ∨ ∃ p, p < i ∧ bestI (L.take i) = (p : Int) ∧ ((better (at_ L i) (at_ L p) = true ∧ bestI (L.take (i + 1)) = (i : Int)) ∨ (better (at_ L i) (at_ L p) = false ∧ bestI (L.take (i + 1)) = (p : Int))) := by
  have hl : (L.take i).length = i := by rw [List.length_take]; omega
  rw [take_snoc h]
  rcases Nat.lt_or_ge (bestP (L.take i)) i with h1 | h1
  · right
    have h2 : bestP (L.take i) < (L.take i).length := by rw [hl]; exact h1
    have e0 : at_ (L.take i) (bestP (L.take i)) = at_ L (bestP (L.take i)) := at_take h1
    refine ⟨bestP (L.take i), h1, by rw [bestI, if_pos h2], ?_⟩
    cases hb : better (at_ L i) (at_ L (bestP (L.take i)))
    · right
      refine ⟨rfl, ?_⟩
      have := snoc_old h2 (c := at_ L i) (by rw [e0]; exact hb)
      rw [bestI, this, if_pos (by rw [len_snoc]; omega)]
    · left
      refine ⟨rfl, ?_⟩
      have := snoc_new h2 (c := at_ L i) (by rw [e0]; exact hb)
      rw [bestI, this, if_pos (by rw [len_snoc]; omega), hl]
  · left
    have h2 : bestP (L.take i) = (L.take i).length := by
      have := (best_spec (L.take i)).1
      omega
    refine ⟨by rw [bestI, if_neg (by omega)], ?_⟩
    cases hg : gains (at_ L i)
    · right
      refine ⟨rfl, ?_⟩
      have := snoc_never h2 hg
      rw [bestI, this, if_neg (by rw [len_snoc]; omega)]
    · left
      refine ⟨rfl, ?_⟩
      have := snoc_none h2 hg
      rw [bestI, this, if_pos (by rw [len_snoc]; omega), hl]
end Go.PicM

end
section
namespace Go.Proofs.Ytcbkhgjjbponhaa
open Go.RowKit Go.Own
namespace Pic
open Go.PicM Byt
section
set_option maxHeartbeats 1600000 in
theorem rightK_any (c : Cn) (w : World) : Calls Try.prog 10 #[cV c] w fun e w' => e = .returned (.bool (right c)) ∧ Below w.heap.size w w' := by
  have hbox := (Own.St.start w).boxV 24 (cC c)
  have c1 := (hbox.cellV 0 rfl 1 rfl).1
  have c2 := (hbox.cellV 0 rfl 2 rfl).1
  have HB := Lib.hid hbox.below
  obtain ⟨x, hx⟩ : ∃ x, x = right c := ⟨_, rfl⟩
  rw [← hx]
  unfold right at hx
  obtain ⟨pg, hpg⟩ : ∃ x, x = c.pages := ⟨_, rfl⟩
  obtain ⟨lv, hlv⟩ : ∃ x, x = c.live := ⟨_, rfl⟩
  rw [← hpg, ← hlv] at hx
  obtain ⟨cs, hcs⟩ : ∃ x, x = cC c := ⟨_, rfl⟩
  have C1 : Hid ((w.alloc (.cells cs.toArray 24)).cell? ⟨w.heap.size, 1, none⟩ = some (.int .i64 lv)) := by rw [hcs, hlv]; exact c1
  have C2 : Hid ((w.alloc (.cells cs.toArray 24)).cell? ⟨w.heap.size, 2, none⟩ = some (.int .i64 pg)) := by rw [hcs, hpg]; exact c2
  show Calls Try.prog _ #[.agg (cC c).toArray] w _
  have HBB : Hid (Below w.heap.size w (w.alloc (.cells cs.toArray 24))) := by rw [hcs]; exact HB.out
  rw [← hcs]
  have d1 := C1.out
  have d2 := C2.out
  clear c1 c2 hbox hcs hpg hlv HB C1 C2
  by_cases h1 : pg ≥ 1
  · by_cases h2 : pg ≤ 64
    · by_cases h3 : lv ≥ 0
      · by_cases h4 : lv ≤ pg
        · rw [decide_eq_true (show 1 ≤ pg from h1), decide_eq_true h2, decide_eq_true (show 0 ≤ lv from h3), decide_eq_true h4] at hx
          subst hx
          go_enter Try.func10, Try.ntmps10
          go_wp2_with (fail)
          go_ret
          exact ⟨rfl, HBB.out⟩
        · rw [decide_eq_false h4] at hx
          simp only [Bool.and_false] at hx
          subst hx
          go_enter Try.func10, Try.ntmps10
          go_wp2_with (fail)
          go_ret
          exact ⟨rfl, HBB.out⟩
      · rw [decide_eq_false (show ¬ 0 ≤ lv from h3)] at hx
        simp only [Bool.and_false, Bool.false_and] at hx
        subst hx
        go_enter Try.func10, Try.ntmps10
        go_wp2_with (fail)
        go_ret
        exact ⟨rfl, HBB.out⟩
    · rw [decide_eq_false h2] at hx
      simp only [Bool.and_false, Bool.false_and] at hx
      subst hx
      go_enter Try.func10, Try.ntmps10
      go_wp2_with (fail)
      go_ret
      exact ⟨rfl, HBB.out⟩
  · rw [decide_eq_false (show ¬ 1 ≤ pg from h1)] at hx
    simp only [Bool.false_and] at hx
    subst hx
    go_enter Try.func10, Try.ntmps10
    go_wp2_with (fail)
    go_ret
    exact ⟨rfl, HBB.out⟩
set_option maxHeartbeats 1600000 in
theorem gainsK_any (c : Cn) (w : World) : Calls Try.prog 12 #[cV c] w fun e w' => e = .returned (.bool (gains c)) ∧ Below w.heap.size w w' := by
  have hbox := (Own.St.start w).boxV 24 (cC c)
  obtain ⟨cs, hcs⟩ : ∃ x, x = cC c := ⟨_, rfl⟩
  obtain ⟨w1, hw1⟩ : ∃ x, x = w.alloc (.cells cs.toArray 24) := ⟨_, rfl⟩
  have hb1 : Own.St w.heap.size w w1 [AVals w.heap.size 24 cs] := by rw [hw1, hcs]; exact hbox
  have CL : Hid (cs.length = 4) := by show _ = _; rw [hcs]; rfl
  have CR : Hid (Calls Try.prog 10 #[.agg cs.toArray] w1 fun e w' => e = .returned (.bool (right c)) ∧ Below w1.heap.size w1 w') := by rw [hcs]; exact rightK_any c w1
  obtain ⟨pg, hpg⟩ : ∃ x, x = c.pages := ⟨_, rfl⟩
  obtain ⟨lv, hlv⟩ : ∃ x, x = c.live := ⟨_, rfl⟩
  have K1 : Hid (cs[1]? = some (.int .i64 lv)) := by show _ = _; rw [hcs, hlv]; rfl
  have K2 : Hid (cs[2]? = some (.int .i64 pg)) := by show _ = _; rw [hcs, hpg]; rfl
  obtain ⟨r, hr⟩ : ∃ x, x = right c := ⟨_, rfl⟩
  obtain ⟨x, hx⟩ : ∃ x, x = gains c := ⟨_, rfl⟩
  unfold gains at hx
  show Calls Try.prog _ #[.agg (cC c).toArray] w fun e w' => e = .returned (.bool (right c && decide (c.live < c.pages))) ∧ _
  rw [← hx, ← hcs]
  rw [← hr] at CR hx
  rw [← hpg, ← hlv] at hx
  have H1 := Lib.hid hb1
  have HW1 := Lib.hid hw1
  clear hbox hcs hw1 hb1 hr hpg hlv
  cases r
  · simp only [Bool.false_and] at hx
    subst hx
    go_enter Try.func12, Try.ntmps12
    go_wp2_with (refine wpList_val rfl (load_cn cs CL.out rfl _ (b := w.heap.size) (k := 0) (by rw [← HW1.out]; exact H1.out.boxRange 0 rfl) rfl) ?_)
    rw [← HW1.out]
    refine CR.out.mono ?_
    rintro e w2 ⟨rfl, h⟩
    have H2 := Lib.hid (H1.out.later h)
    clear h
    go_wp2_with (fail)
    go_ret
    exact ⟨rfl, H2.out.below⟩
  · simp only [Bool.true_and] at hx
    by_cases hlt : lv < pg
    · rw [decide_eq_true hlt] at hx
      subst hx
      go_enter Try.func12, Try.ntmps12
      go_wp2_with (refine wpList_val rfl (load_cn cs CL.out rfl _ (b := w.heap.size) (k := 0) (by rw [← HW1.out]; exact H1.out.boxRange 0 rfl) rfl) ?_)
      rw [← HW1.out]
      refine CR.out.mono ?_
      rintro e w2 ⟨rfl, h⟩
      have H2 := Lib.hid (H1.out.later h)
      have d1 := (H2.out.cellV 0 rfl 1 K1.out).1
      have d2 := (H2.out.cellV 0 rfl 2 K2.out).1
      clear h
      go_wp2_with (fail)
      go_ret
      exact ⟨rfl, H2.out.below⟩
    · rw [decide_eq_false hlt] at hx
      subst hx
      go_enter Try.func12, Try.ntmps12
      go_wp2_with (refine wpList_val rfl (load_cn cs CL.out rfl _ (b := w.heap.size) (k := 0) (by rw [← HW1.out]; exact H1.out.boxRange 0 rfl) rfl) ?_)
      rw [← HW1.out]
      refine CR.out.mono ?_
      rintro e w2 ⟨rfl, h⟩
      have H2 := Lib.hid (H1.out.later h)
      have d1 := (H2.out.cellV 0 rfl 1 K1.out).1
      have d2 := (H2.out.cellV 0 rfl 2 K2.out).1
      clear h
      go_wp2_with (fail)
      go_ret
      exact ⟨by simp [hlt], H2.out.below⟩
set_option maxHeartbeats 1600000 in
theorem benefitK_any (c : Cn) (hg : gains c = true) (w : World) : Calls Try.prog 18 #[cV c] w fun e w' => e = .returned (.int .u64 (gainN c : Int)) ∧ Below w.heap.size w w' := by
  have hi := gains_iff.1 hg
  have hbox := (Own.St.start w).boxV 24 (cC c)
  have c1 := (hbox.cellV 0 rfl 1 rfl).1
  have c2 := (hbox.cellV 0 rfl 2 rfl).1
  have c3 := (hbox.cellV 0 rfl 3 rfl).1
  have HB := Lib.hid hbox.below
  obtain ⟨lv, hlv⟩ : ∃ x : Nat, c.live = (x : Int) := ⟨c.live.toNat, by omega⟩
  obtain ⟨pg, hpg⟩ : ∃ x : Nat, c.pages = (x : Int) := ⟨c.pages.toNat, by omega⟩
  obtain ⟨ag, hag⟩ : ∃ x : Nat, x = c.age := ⟨_, rfl⟩
  obtain ⟨m, hm⟩ : ∃ x : Nat, x = min ag 4294967296 := ⟨_, rfl⟩
  obtain ⟨cs, hcs⟩ : ∃ x, x = cC c := ⟨_, rfl⟩
  rw [hlv] at c1
  rw [hpg] at c2
  rw [← hag] at c3
  have hG : gainN c = (pg - lv) * (m + 1) := by unfold gainN; rw [hlv, hpg, ← hag, ← hm]; congr 1; omega
  show Calls Try.prog _ #[.agg (cC c).toArray] w _
  rw [← hcs] at c1 c2 c3 HB ⊢
  rw [hlv, hpg] at hi
  have hmin : ∀ wx, (Builtin.min_ #[22, 22] 22 #[.int .u64 (ag : Int), .int .u64 4294967296]).run Try.prog wx = .ok (.int .u64 (m : Int)) wx := by
    intro wx
    rw [show (m : Int) = min (ag : Int) 4294967296 by omega]
    simp [Builtin.min_, Builtin.min2, go_sem]
    try omega
  obtain ⟨d, hd⟩ : ∃ x : Nat, x = pg - lv := ⟨_, rfl⟩
  obtain ⟨m1, hm1⟩ : ∃ x : Nat, x = m + 1 := ⟨_, rfl⟩
  obtain ⟨G, hGG⟩ : ∃ x, x = gainN c := ⟨_, rfl⟩
  rw [← hGG]
  rw [hG, ← hd, ← hm1] at hGG
  have e1 : IntKind.i64.wrap ((pg : Int) - (lv : Int)) = (d : Int) := by rw [IntWalk.i64_in _ (by omega)]; omega
  have e0 : (pg : Int) - (lv : Int) = (d : Int) := by omega
  have hGb : G < 18446744073709551616 := by
    have : G ≤ 64 * 4294967297 := by rw [hGG]; exact Nat.mul_le_mul (by omega) (by omega)
    omega
  have e3 : (m : Int) + 1 = (m1 : Int) := by omega
  have e4 : (d : Int) * (m1 : Int) = (G : Int) := by rw [hGG, Int.natCast_mul]
  have hml : m ≤ 4294967296 := by omega
  have HG := Lib.hid hGG
  clear hbox hcs hlv hpg hag hm hd hm1 hG hGG hg
  go_enter Try.func18, Try.ntmps18
  go_wp2_with (fail)
  go_ret
  exact ⟨rfl, HB.out⟩
set_option maxHeartbeats 1600000 in
theorem costK_any (c : Cn) (hg : gains c = true) (w : World) : Calls Try.prog 19 #[cV c] w fun e w' => e = .returned (.int .u64 ((c.live + 1).toNat : Int)) ∧ Below w.heap.size w w' := by
  have hi := gains_iff.1 hg
  have hbox := (Own.St.start w).boxV 24 (cC c)
  have c1 := (hbox.cellV 0 rfl 1 rfl).1
  have HB := Lib.hid hbox.below
  obtain ⟨lv, hlv⟩ : ∃ x : Nat, c.live = (x : Int) := ⟨c.live.toNat, by omega⟩
  obtain ⟨l1, hl1⟩ : ∃ x : Nat, x = lv + 1 := ⟨_, rfl⟩
  obtain ⟨cs, hcs⟩ : ∃ x, x = cC c := ⟨_, rfl⟩
  rw [hlv] at c1
  have e1 : (c.live + 1).toNat = l1 := by omega
  rw [e1]
  have e3 : (lv : Int) + 1 = (l1 : Int) := by omega
  have hlb : lv ≤ 64 := by omega
  show Calls Try.prog _ #[.agg (cC c).toArray] w _
  rw [← hcs] at c1 HB ⊢
  clear hbox hcs hlv hg hi hl1 e1
  go_enter Try.func19, Try.ntmps19
  go_wp2_with (fail)
  go_ret
  exact ⟨rfl, HB.out⟩
end
end Pic
end Go.Proofs.Ytcbkhgjjbponhaa

end
section
namespace Go.Proofs.Ytcbkhgjjbponhaa
open Go.RowKit Go.Own
namespace Pic
open Go.PicM Byt
section
set_option maxRecDepth 6000 in
set_option maxHeartbeats 3200000 in
theorem betterK_any (a b : Cn) (w : World) : Calls Try.prog 14 #[cV a, cV b] w fun e w' => e = .returned (.bool (better a b)) ∧ Below w.heap.size w w' := by
  have hbox := ((Own.St.start w).boxV 24 (cC a)).boxV 24 (cC b)
  obtain ⟨ca, hca⟩ : ∃ x, x = cC a := ⟨_, rfl⟩
  obtain ⟨cb, hcb⟩ : ∃ x, x = cC b := ⟨_, rfl⟩
  obtain ⟨b2, hb2⟩ : ∃ x, x = w.heap.size := ⟨_, rfl⟩
  obtain ⟨wa, hwa⟩ : ∃ x, x = w.alloc (.cells ca.toArray 24) := ⟨_, rfl⟩
  obtain ⟨b3, hb3⟩ : ∃ x, x = wa.heap.size := ⟨_, rfl⟩
  obtain ⟨w1, hw1⟩ : ∃ x, x = wa.alloc (.cells cb.toArray 24) := ⟨_, rfl⟩
  have hb1 : Own.St w.heap.size w w1 [AVals b3 24 cb, AVals b2 24 ca] := by rw [hw1, hb3, hwa, hb2, hca, hcb]; exact hbox
  have AL : Hid (ca.length = 4) := by show _ = _; rw [hca]; rfl
  have BL : Hid (cb.length = 4) := by show _ = _; rw [hcb]; rfl
  have DA : Hid (∀ wx, Calls Try.prog 12 #[.agg ca.toArray] wx fun e w' => e = .returned (.bool (gains a)) ∧ Below wx.heap.size wx w') := by rw [hca]; exact fun wx => gainsK_any a wx
  have DB : Hid (∀ wx, Calls Try.prog 12 #[.agg cb.toArray] wx fun e w' => e = .returned (.bool (gains b)) ∧ Below wx.heap.size wx w') := by rw [hcb]; exact fun wx => gainsK_any b wx
  have EA : Hid (gains a = true → ∀ wx, Calls Try.prog 18 #[.agg ca.toArray] wx fun e w' => e = .returned (.int .u64 (gainN a : Int)) ∧ Below wx.heap.size wx w') := by rw [hca]; exact fun h wx => benefitK_any a h wx
  have EB : Hid (gains b = true → ∀ wx, Calls Try.prog 18 #[.agg cb.toArray] wx fun e w' => e = .returned (.int .u64 (gainN b : Int)) ∧ Below wx.heap.size wx w') := by rw [hcb]; exact fun h wx => benefitK_any b h wx
  have FA1 : Hid (gains a = true → ∀ wx, Calls Try.prog 19 #[.agg ca.toArray] wx fun e w' => e = .returned (.int .u64 ((a.live + 1).toNat : Int)) ∧ Below wx.heap.size wx w') := by rw [hca]; exact fun h wx => costK_any a h wx
  have FB1 : Hid (gains b = true → ∀ wx, Calls Try.prog 19 #[.agg cb.toArray] wx fun e w' => e = .returned (.int .u64 ((b.live + 1).toNat : Int)) ∧ Below wx.heap.size wx w') := by rw [hcb]; exact fun h wx => costK_any b h wx
  have KA1 : Hid (ca[1]? = some (.int .i64 a.live) ∧ ca[0]? = some (.int .i64 a.seg)) := by rw [hca]; exact ⟨rfl, rfl⟩
  have KB1 : Hid (cb[1]? = some (.int .i64 b.live) ∧ cb[0]? = some (.int .i64 b.seg)) := by rw [hcb]; exact ⟨rfl, rfl⟩
  show Calls Try.prog _ #[.agg (cC a).toArray, .agg (cC b).toArray] w _
  rw [← hca, ← hcb]
  obtain ⟨xx, hxx⟩ : ∃ x, x = better a b := ⟨_, rfl⟩
  rw [← hxx]
  have HX := Lib.hid hxx
  obtain ⟨ga, hga⟩ : ∃ x, x = gains a := ⟨_, rfl⟩
  obtain ⟨gb, hgb⟩ : ∃ x, x = gains b := ⟨_, rfl⟩
  rw [← hga] at DA
  rw [← hgb] at DB
  have HGA := Lib.hid hga
  have HGB := Lib.hid hgb
  have H1 := Lib.hid hb1
  have HWA := Lib.hid hwa
  have HB2 := Lib.hid hb2
  have hb3' : b3 = b2 + 1 := by rw [hb3, hwa, hb2]; exact Array.size_push ..
  have HB3 := Lib.hid hb3'
  have HW1 := Lib.hid hw1
  have AR : Hid (∀ wx, Below w1.heap.size w1 wx → wx.rangeAt b2 0 ca) := fun wx hwx => (hb1.later hwx).boxRange 1 rfl
  have BR : Hid (∀ wx, Below w1.heap.size w1 wx → wx.rangeAt b3 0 cb) := fun wx hwx => (hb1.later hwx).boxRange 0 rfl
  clear hbox hca hcb hb2 hwa hb3 hb3' hw1 hb1 hxx hga hgb
  go_enter Try.func14, Try.ntmps14
  go_wp2_with (refine wpList_val rfl (load_cn ca AL.out rfl _ (b := b2) (k := 0) (by rw [← HWA.out, ← HW1.out]; exact AR.out _ (Below.refl _ _)) (by rw [HB2.out]; rfl)) ?_)
  rw [← HWA.out, ← HB2.out, ← HB3.out, ← HW1.out]
  refine (DA.out _).mono ?_
  rintro e w2 ⟨rfl, h2⟩
  have B2 := Lib.hid h2
  clear h2
  cases ga
  · have hx : xx = false := by rw [HX.out]; unfold better; rw [← HGA.out]; rfl
    subst hx
    go_wp2_with (refine wpList_val rfl (load_cn ca AL.out rfl _ (b := b2) (k := 0) (AR.out _ B2.out) rfl) ?_)
    refine (DA.out _).mono ?_
    rintro e w3 ⟨rfl, h3⟩
    have H3 := Lib.hid ((H1.out.later B2.out).later h3)
    clear h3
    go_wp2_with (fail)
    go_ret
    exact ⟨rfl, H3.out.below⟩
  · go_wp2_with (refine wpList_val rfl (load_cn cb BL.out rfl _ (b := b3) (k := 0) (BR.out _ B2.out) rfl) ?_)
    refine (DB.out _).mono ?_
    rintro e w3 ⟨rfl, h3⟩
    have B3 := Lib.hid (B2.out.trans (h3.mono B2.out.size))
    clear h3
    cases gb
    · have hx : xx = true := by rw [HX.out]; exact better_left HGA.out.symm HGB.out.symm
      subst hx
      go_wp2_with (refine wpList_val rfl (load_cn ca AL.out rfl _ (b := b2) (k := 0) (AR.out _ B3.out) rfl) ?_)
      refine (DA.out _).mono ?_
      rintro e w4 ⟨rfl, h4⟩
      have H4 := Lib.hid ((H1.out.later B3.out).later h4)
      clear h4
      go_wp2_with (fail)
      go_ret
      exact ⟨rfl, H4.out.below⟩
    · have hga := HGA.out.symm
      have hgb := HGB.out.symm
      have ia := gains_iff.1 hga
      have ib := gains_iff.1 hgb
      obtain ⟨la, hla0⟩ : ∃ x : Nat, a.live = (x : Int) := ⟨a.live.toNat, by omega⟩
      obtain ⟨lb, hlb0⟩ : ∃ x : Nat, b.live = (x : Int) := ⟨b.live.toNat, by omega⟩
      have hla : la ≤ 1000000 := by omega
      have hlb : lb ≤ 1000000 := by omega
      have hla6 : la ≤ 64 := by omega
      have hlb6 : lb ≤ 64 := by omega
      obtain ⟨la1, hla1⟩ : ∃ x, x = la + 1 := ⟨_, rfl⟩
      obtain ⟨lb1, hlb1⟩ : ∃ x, x = lb + 1 := ⟨_, rfl⟩
      have HLA1 := Lib.hid hla1
      have HLB1 := Lib.hid hlb1
      have gla := gain_le hga
      have glb := gain_le hgb
      have GA0 := Lib.hid (EA.out hga)
      have FA0 := Lib.hid (FA1.out hga)
      have FB0 := Lib.hid (FB1.out hgb)
      rw [hla0] at FA0
      rw [hlb0] at FB0
      rw [show ((la : Int) + 1).toNat = la1 by omega] at FA0
      rw [show ((lb : Int) + 1).toNat = lb1 by omega] at FB0
      have GB0 := Lib.hid (EB.out hgb)
      have hbth := better_both hga hgb
      have es1 : score a b = gainN a * lb1 := by unfold score; rw [hlb0, hlb1]; congr 1
      have es2 : score b a = gainN b * la1 := by unfold score; rw [hla0, hla1]; congr 1
      obtain ⟨ga, hgaa⟩ : ∃ x, x = gainN a := ⟨_, rfl⟩
      obtain ⟨gb, hgbb⟩ : ∃ x, x = gainN b := ⟨_, rfl⟩
      obtain ⟨xa, hxa0⟩ : ∃ x, x = ga * lb1 := ⟨_, rfl⟩
      obtain ⟨xb, hxb0⟩ : ∃ x, x = gb * la1 := ⟨_, rfl⟩
      rw [es1, es2, ← hgaa, ← hgbb, ← hxa0, ← hxb0] at hbth
      have hxa : xa < 18446744073709551616 := by
        have : xa ≤ 64 * 4294967297 * 65 := by rw [hxa0, hgaa]; exact Nat.mul_le_mul gla (by omega)
        omega
      have hxb : xb < 18446744073709551616 := by
        have : xb ≤ 64 * 4294967297 * 65 := by rw [hxb0, hgbb]; exact Nat.mul_le_mul glb (by omega)
        omega
      have HXA := Lib.hid hxa0
      have HXB := Lib.hid hxb0
      rw [← hgaa] at GA0
      rw [← hgbb] at GB0
      obtain ⟨sa, hsa⟩ : ∃ x, x = a.seg := ⟨_, rfl⟩
      obtain ⟨sb, hsb⟩ : ∃ x, x = b.seg := ⟨_, rfl⟩
      rw [← hsa, ← hsb] at hbth
      have CA : Hid (∀ wx, Below w1.heap.size w1 wx → wx.cell? ⟨b2, 1, none⟩ = some (.int .i64 (la : Int)) ∧ wx.cell? ⟨b2, 0, none⟩ = some (.int .i64 sa)) := by
        intro wx hwx
        have h := H1.out.later hwx
        have k := KA1.out
        rw [hla0, ← hsa] at k
        exact ⟨(h.cellV 1 rfl 1 k.1).1, (h.cellV 1 rfl 0 k.2).1⟩
      have CB : Hid (∀ wx, Below w1.heap.size w1 wx → wx.cell? ⟨b3, 1, none⟩ = some (.int .i64 (lb : Int)) ∧ wx.cell? ⟨b3, 0, none⟩ = some (.int .i64 sb)) := by
        intro wx hwx
        have h := H1.out.later hwx
        have k := KB1.out
        rw [hlb0, ← hsb] at k
        exact ⟨(h.cellV 0 rfl 1 k.1).1, (h.cellV 0 rfl 0 k.2).1⟩
      have HBT := Lib.hid hbth
      have hlb1' : lb1 ≤ 1000000 := by omega
      have hla1' : la1 ≤ 1000000 := by omega
      clear hga hgb ia ib hla0 hlb0 hla1 hlb1 gla glb hbth es1 es2 hgaa hgbb hxa0 hxb0 hsa hsb
      have hlb1 := hlb1'
      have hla1 := hla1'
      have UP3 : Hid (∀ wx, Below w3.heap.size w3 wx → Below w1.heap.size w1 wx) := fun wx h => B3.out.trans (h.mono B3.out.size)
      have R2 : Hid (∀ wx, Below w3.heap.size w3 wx → wx.rangeAt b2 0 ca) := fun wx h => AR.out wx (UP3.out wx h)
      have R3 : Hid (∀ wx, Below w3.heap.size w3 wx → wx.rangeAt b3 0 cb) := fun wx h => BR.out wx (UP3.out wx h)
      have GA : Hid (∀ wx, Below w3.heap.size w3 wx → Calls Try.prog 18 #[.agg ca.toArray] wx fun e w' => e = .returned (.int .u64 (ga : Int)) ∧ Below wx.heap.size wx w') := fun wx _ => GA0.out wx
      have GB : Hid (∀ wx, Below w3.heap.size w3 wx → Calls Try.prog 18 #[.agg cb.toArray] wx fun e w' => e = .returned (.int .u64 (gb : Int)) ∧ Below wx.heap.size wx w') := fun wx _ => GB0.out wx
      have FA : Hid (∀ wx, Below w3.heap.size w3 wx → Calls Try.prog 19 #[.agg ca.toArray] wx fun e w' => e = .returned (.int .u64 (la1 : Int)) ∧ Below wx.heap.size wx w') := fun wx _ => FA0.out wx
      have FB : Hid (∀ wx, Below w3.heap.size w3 wx → Calls Try.prog 19 #[.agg cb.toArray] wx fun e w' => e = .returned (.int .u64 (lb1 : Int)) ∧ Below wx.heap.size wx w') := fun wx _ => FB0.out wx
      go_wp2_with (fail)
      refine wp_lax_list (by kernel_rfl) (by kernel_rfl) (by kernel_rfl) ?_
      refine wpL_run1 (x := .tmp 2) (ptr b2) (.agg ca.toArray) (by kernel_rfl) (by kernel_rfl) (by kernel_rfl) (by kernel_rfl) (by kernel_rfl) (fun wx ρ hwx h0 hc => load_cn ca AL.out rfl ρ (R2.out wx hwx) h0) ?_
      refine wpL_fn (.int .u64 (ga : Int)) [.agg ca.toArray] rfl (by kernel_rfl) (by kernel_rfl) (by kernel_rfl) (by kernel_rfl) (fun _ _ => by simp [go_sem]) (fun wx hwx => GA.out wx hwx) ?_
      refine wpL_run1 (x := .tmp 3) (ptr b3) (.agg cb.toArray) (by kernel_rfl) (by kernel_rfl) (by kernel_rfl) (by kernel_rfl) (by kernel_rfl) (fun wx ρ hwx h0 hc => load_cn cb BL.out rfl ρ (R3.out wx hwx) h0) ?_
      refine wpL_fn (.int .u64 (lb1 : Int)) [.agg cb.toArray] rfl (by kernel_rfl) (by kernel_rfl) (by kernel_rfl) (by kernel_rfl) (fun _ _ => by simp [go_sem]) (fun wx hwx => FB.out wx hwx) ?_
      refine wpL_run2 (x := .tmp 18) (y := .tmp 20) (.int .u64 (ga : Int)) (.int .u64 (lb1 : Int)) (.int .u64 (xa : Int)) (by kernel_rfl) (by kernel_rfl) (by kernel_rfl) (by kernel_rfl) (by kernel_rfl) (by kernel_rfl) (fun wx ρ hwx h0 h1 hc => mulc rfl HXA.out hxa ρ wx h0 h1) ?_
      refine wpL_run1 (x := .tmp 3) (ptr b3) (.agg cb.toArray) (by kernel_rfl) (by kernel_rfl) (by kernel_rfl) (by kernel_rfl) (by kernel_rfl) (fun wx ρ hwx h0 hc => load_cn cb BL.out rfl ρ (R3.out wx hwx) h0) ?_
      refine wpL_fn (.int .u64 (gb : Int)) [.agg cb.toArray] rfl (by kernel_rfl) (by kernel_rfl) (by kernel_rfl) (by kernel_rfl) (fun _ _ => by simp [go_sem]) (fun wx hwx => GB.out wx hwx) ?_
      refine wpL_run1 (x := .tmp 2) (ptr b2) (.agg ca.toArray) (by kernel_rfl) (by kernel_rfl) (by kernel_rfl) (by kernel_rfl) (by kernel_rfl) (fun wx ρ hwx h0 hc => load_cn ca AL.out rfl ρ (R2.out wx hwx) h0) ?_
      refine wpL_fn (.int .u64 (la1 : Int)) [.agg ca.toArray] rfl (by kernel_rfl) (by kernel_rfl) (by kernel_rfl) (by kernel_rfl) (fun _ _ => by simp [go_sem]) (fun wx hwx => FA.out wx hwx) ?_
      refine wpL_run2 (x := .tmp 23) (y := .tmp 25) (.int .u64 (gb : Int)) (.int .u64 (la1 : Int)) (.int .u64 (xb : Int)) (by kernel_rfl) (by kernel_rfl) (by kernel_rfl) (by kernel_rfl) (by kernel_rfl) (by kernel_rfl) (fun wx ρ hwx h0 h1 hc => mulc rfl HXB.out hxb ρ wx h0 h1) ?_
      refine wpL_assign (.int .u64 (xa : Int)) rfl (by kernel_rfl) (by kernel_rfl) (by kernel_rfl) (by kernel_rfl) ?_
      refine wpL_assign (.int .u64 (xb : Int)) rfl (by kernel_rfl) (by kernel_rfl) (by kernel_rfl) (by kernel_rfl) ?_
      refine wpL_end (by kernel_rfl) (fun w5 hw5 => ?_)
      simp only [FinL, setL, List.set_cons_zero, List.set_cons_succ]
      have B5 := Lib.hid (UP3.out w5 hw5)
      have d2 := (CA.out w5 B5.out).2
      have d3 := (CB.out w5 B5.out).2
      have H5 := Lib.hid (H1.out.later B5.out)
      clear hw5 R2 R3 GA GB FA FB UP3 CA CB
      have hcase : (xx = true ∧ (xa : Int) > (xb : Int)) ∨ (xx = true ∧ xa = xb ∧ sa < sb) ∨ (xx = false ∧ xa = xb ∧ ¬ sa < sb) ∨ (xx = false ∧ ¬ (xa : Int) > (xb : Int) ∧ xa ≠ xb) := by
        have h := HBT.out
        rw [← HX.out] at h
        cases xx
        · simp only [Bool.false_eq_true, false_iff, not_or, not_and] at h
          by_cases e : xa = xb
          · exact .inr (.inr (.inl ⟨rfl, e, h.2 e⟩))
          · exact .inr (.inr (.inr ⟨rfl, by omega, e⟩))
        · simp only [true_iff] at h
          rcases h with h | h
          · exact .inl ⟨rfl, by omega⟩
          · exact .inr (.inl ⟨rfl, h⟩)
      clear HBT HX HXA HXB
      rcases hcase with ⟨rfl, h1⟩ | ⟨rfl, rfl, h1⟩ | ⟨rfl, rfl, h1⟩ | ⟨rfl, h1, h2⟩
      · go_wp2_with (fail)
        go_ret
        exact ⟨rfl, H5.out.below⟩
      · have h0 : ¬ (xa : Int) > (xa : Int) := by omega
        go_wp2_with (fail)
        go_ret
        exact ⟨by simp, H5.out.below⟩
      · have h0 : ¬ (xa : Int) > (xa : Int) := by omega
        go_wp2_with (fail)
        go_ret
        exact ⟨by simp, H5.out.below⟩
      · have h3 : ((xa : Int) == (xb : Int)) = false := by simp; omega
        go_wp2_with (fail)
        go_ret
        exact ⟨by simp, H5.out.below⟩
end
end Pic
end Go.Proofs.Ytcbkhgjjbponhaa

end
section
namespace Go.Proofs.Ytcbkhgjjbponhaa
open Go.RowKit Go.Own
namespace Pic
open Go.PicM Byt
theorem boxCn : Boxy Try.prog 24 4 := boxy_of (cC zeroC).toArray (by kernel_rfl) rfl (by kernel_rfl)
section
set_option maxRecDepth 6000 in
set_option maxHeartbeats 6400000 in
theorem bestK_any (L : List Cn) (n : Nat) (v : Value) (w : World) (hl : L.length = n) (hn : n ≤ 1000000) (hr : RdWin w v n (L.flatMap cC)) : Calls Try.prog 16 #[v] w fun e w' => e = .returned (.int .i64 (bestI L)) ∧ Below w.heap.size w w' := by
  obtain ⟨ao, c, rfl, hr⟩ := hr
  have HL := Lib.hid hl
  have HR := Lib.hid hr
  clear hl hr
  go_enter Try.func16, Try.ntmps16
  go_wp2_with (fail)
  go_loopw [3, 8] (fun v3 v8 wr => ∃ i : Nat, i ≤ n ∧ v3 = .int .i64 (bestI (L.take i)) ∧ v8 = .int .i64 (i : Int) ∧ Below w.heap.size w wr) (fun _ v8 _ => n - (intOf v8).toNat)
  case atStart => exact ⟨0, Nat.zero_le _, rfl, rfl, Below.refl _ _⟩
  case round =>
    obtain ⟨i, hin, rfl, rfl, hbw⟩ := hrel
    have HB := Lib.hid hbw
    clear hbw
    by_cases hi : (i : Int) < (n : Int)
    · have hin2 : i < n := by omega
      rcases HR.out with h | ⟨g, o, rfl, hc⟩
      · omega
      have HC := Lib.hid hc
      clear hc HR
      obtain ⟨ci, hci⟩ : ∃ x, x = cC (at_ L i) := ⟨_, rfl⟩
      have LI : Hid (ci.length = 4) := by show _ = _; rw [hci]; rfl
      have ONE : Hid (∀ u ∈ ci, u.oneCell' = true) := by show ∀ u ∈ ci, _; rw [hci]; exact cC_one _
      have RI0 : Hid (∀ wx, Below w.heap.size w wx → wx.rangeAt g (o + i * 4) ci) := by
        intro wx hwx
        rw [hci]
        exact cn_range (fun j u hu => cellLater' (HC.out j u hu) hwx) (by rw [HL.out]; exact hin2)
      have hstep := bestI_take (L := L) (i := i) (by rw [HL.out]; exact hin2)
      have GI0 : Hid (∀ wx, Calls Try.prog 12 #[.agg ci.toArray] wx fun e w' => e = .returned (.bool (gains (at_ L i))) ∧ Below wx.heap.size wx w') := by rw [hci]; exact fun wx => gainsK_any _ wx
      have BI : Hid (∀ (k : Nat) (wx : World), Calls Try.prog 14 #[.agg ci.toArray, .agg (cC (at_ L k)).toArray] wx fun e w' => e = .returned (.bool (better (at_ L i) (at_ L k))) ∧ Below wx.heap.size wx w') := by rw [hci]; exact fun k wx => betterK_any _ _ wx
      clear hci
      obtain ⟨bi, hbi⟩ : ∃ x, x = bestI (L.take i) := ⟨_, rfl⟩
      rw [← hbi] at hstep ⊢
      have HST := Lib.hid hstep
      clear hstep hbi
      go_wp2_with (first
        | (refine wpList_val rfl (idx_cn rfl (b := g) (g := o) (k := i) (n := n) (c := c) hin2 _ _ rfl rfl) ?_)
        | (refine wpList_val rfl (load_cn ci LI.out rfl _ (b := g) (k := o + i * 4) (RI0.out _ HB.out) rfl) ?_)
        | (refine wpList_newZ (B := w.heap.size) (w0 := w) (Ps := []) (cC zeroC) (by kernel_rfl) rfl rfl ((Own.St.start w).later HB.out) ?_; intro b5 w2 hs2; have H2 := Lib.hid hs2; clear hs2)
        | (refine wpList_fill boxCn rfl (.tmp 5) (.tmp 12) rfl rfl H2.out 0 rfl rfl ci rfl rfl LI.out ONE.out ?_; intro w3 hs3; have H3 := Lib.hid hs3; clear hs3 H2))
      have RI : Hid (∀ wx, Below w3.heap.size w3 wx → wx.rangeAt b5 0 ci) := fun wx hwx => (H3.out.later hwx).boxRange 0 rfl
      have UP : Hid (∀ wx, Below w3.heap.size w3 wx → Below w.heap.size w wx) := fun wx hwx => (H3.out.later hwx).below
      go_simp
      rcases HST.out with ⟨rfl, ⟨hg, he⟩ | ⟨hg, he⟩⟩ | ⟨p, hpi, rfl, ⟨hg, he⟩ | ⟨hg, he⟩⟩
      · have GI := GI0
        rw [hg] at GI
        have HE := Lib.hid he
        clear he hg HST GI0 BI RI0
        refine wp_lax_list (by kernel_rfl) (by kernel_rfl) (by kernel_rfl) ?_
        refine wpL_move (.int .i64 (-1)) rfl (by kernel_rfl) (by kernel_rfl) (by kernel_rfl) (by kernel_rfl) ?_
        refine wpL_run1 (x := .tmp 13) (.int .i64 (-1)) (.bool true) (by kernel_rfl) (by kernel_rfl) (by kernel_rfl) (by kernel_rfl) (by kernel_rfl) (fun wx ρ hwx h0 hc => by simp [go_sem, h0, hc]) ?_
        refine wpL_move (.bool true) rfl (by kernel_rfl) (by kernel_rfl) (by kernel_rfl) (by kernel_rfl) ?_
        refine wpL_run1 (x := .tmp 5) (ptr b5) (.agg ci.toArray) (by kernel_rfl) (by kernel_rfl) (by kernel_rfl) (by kernel_rfl) (by kernel_rfl) (fun wx ρ hwx h0 hc => load_cn ci LI.out rfl ρ (RI.out wx hwx) h0) ?_
        refine wpL_fn (.bool true) [.agg ci.toArray] rfl (by kernel_rfl) (by kernel_rfl) (by kernel_rfl) (by kernel_rfl) (fun _ _ => by simp [go_sem]) (fun wx hwx => GI.out wx) ?_
        refine wpL_run2 (x := .tmp 15) (y := .tmp 17) (.bool true) (.bool true) (.bool true) (by kernel_rfl) (by kernel_rfl) (by kernel_rfl) (by kernel_rfl) (by kernel_rfl) (by kernel_rfl) (fun wx ρ hwx h0 h1 hc => by simp [go_sem, h0, h1, hc]) ?_
        refine wpL_move (.bool true) rfl (by kernel_rfl) (by kernel_rfl) (by kernel_rfl) (by kernel_rfl) ?_
        refine wpL_skip (by kernel_rfl) (by kernel_rfl) ?_
        refine wpL_skip (by kernel_rfl) (by kernel_rfl) ?_
        refine wpL_skip (by kernel_rfl) (by kernel_rfl) ?_
        refine wpL_skip (by kernel_rfl) (by kernel_rfl) ?_
        refine wpL_skip (by kernel_rfl) (by kernel_rfl) ?_
        refine wpL_skip (by kernel_rfl) (by kernel_rfl) ?_
        refine wpL_skip (by kernel_rfl) (by kernel_rfl) ?_
        refine wpL_skip (by kernel_rfl) (by kernel_rfl) ?_
        refine wpL_skip (by kernel_rfl) (by kernel_rfl) ?_
        refine wpL_skip (by kernel_rfl) (by kernel_rfl) ?_
        refine wpL_run2 (x := .tmp 19) (y := .tmp 29) (.bool true) (undef) (.bool true) (by kernel_rfl) (by kernel_rfl) (by kernel_rfl) (by kernel_rfl) (by kernel_rfl) (by kernel_rfl) (fun wx ρ hwx h0 h1 hc => by simp [go_sem, h0, h1, hc]) ?_
        refine wpL_end (by kernel_rfl) (fun w4 hw4 => ?_)
        simp only [FinL, setL, List.set_cons_zero, List.set_cons_succ]
        have HB4 := Lib.hid (UP.out w4 hw4)
        clear hw4 RI GI UP H3
        go_wp2_with (fail)
        go_roundw
        case rel => exact ⟨i + 1, by omega, by rw [HE.out], by go_num, HB4.out⟩
        case measure => simp [intOf]; omega
      · have GI := GI0
        rw [hg] at GI
        have HE := Lib.hid he
        clear he hg HST GI0 BI RI0
        refine wp_lax_list (by kernel_rfl) (by kernel_rfl) (by kernel_rfl) ?_
        refine wpL_move (.int .i64 (-1)) rfl (by kernel_rfl) (by kernel_rfl) (by kernel_rfl) (by kernel_rfl) ?_
        refine wpL_run1 (x := .tmp 13) (.int .i64 (-1)) (.bool true) (by kernel_rfl) (by kernel_rfl) (by kernel_rfl) (by kernel_rfl) (by kernel_rfl) (fun wx ρ hwx h0 hc => by simp [go_sem, h0, hc]) ?_
        refine wpL_move (.bool true) rfl (by kernel_rfl) (by kernel_rfl) (by kernel_rfl) (by kernel_rfl) ?_
        refine wpL_run1 (x := .tmp 5) (ptr b5) (.agg ci.toArray) (by kernel_rfl) (by kernel_rfl) (by kernel_rfl) (by kernel_rfl) (by kernel_rfl) (fun wx ρ hwx h0 hc => load_cn ci LI.out rfl ρ (RI.out wx hwx) h0) ?_
        refine wpL_fn (.bool false) [.agg ci.toArray] rfl (by kernel_rfl) (by kernel_rfl) (by kernel_rfl) (by kernel_rfl) (fun _ _ => by simp [go_sem]) (fun wx hwx => GI.out wx) ?_
        refine wpL_run2 (x := .tmp 15) (y := .tmp 17) (.bool true) (.bool false) (.bool false) (by kernel_rfl) (by kernel_rfl) (by kernel_rfl) (by kernel_rfl) (by kernel_rfl) (by kernel_rfl) (fun wx ρ hwx h0 h1 hc => by simp [go_sem, h0, h1, hc]) ?_
        refine wpL_move (.bool false) rfl (by kernel_rfl) (by kernel_rfl) (by kernel_rfl) (by kernel_rfl) ?_
        refine wpL_move (.int .i64 (-1)) rfl (by kernel_rfl) (by kernel_rfl) (by kernel_rfl) (by kernel_rfl) ?_
        refine wpL_run1 (x := .tmp 20) (.int .i64 (-1)) (.bool false) (by kernel_rfl) (by kernel_rfl) (by kernel_rfl) (by kernel_rfl) (by kernel_rfl) (fun wx ρ hwx h0 hc => by simp [go_sem, h0, hc]) ?_
        refine wpL_move (.bool false) rfl (by kernel_rfl) (by kernel_rfl) (by kernel_rfl) (by kernel_rfl) ?_
        refine wpL_skip (by kernel_rfl) (by kernel_rfl) ?_
        refine wpL_skip (by kernel_rfl) (by kernel_rfl) ?_
        refine wpL_skip (by kernel_rfl) (by kernel_rfl) ?_
        refine wpL_skip (by kernel_rfl) (by kernel_rfl) ?_
        refine wpL_skip (by kernel_rfl) (by kernel_rfl) ?_
        refine wpL_skip (by kernel_rfl) (by kernel_rfl) ?_
        refine wpL_run2 (x := .tmp 22) (y := .tmp 28) (.bool false) (undef) (.bool false) (by kernel_rfl) (by kernel_rfl) (by kernel_rfl) (by kernel_rfl) (by kernel_rfl) (by kernel_rfl) (fun wx ρ hwx h0 h1 hc => by simp [go_sem, h0, h1, hc]) ?_
        refine wpL_run2 (x := .tmp 19) (y := .tmp 29) (.bool false) (.bool false) (.bool false) (by kernel_rfl) (by kernel_rfl) (by kernel_rfl) (by kernel_rfl) (by kernel_rfl) (by kernel_rfl) (fun wx ρ hwx h0 h1 hc => by simp [go_sem, h0, h1, hc]) ?_
        refine wpL_end (by kernel_rfl) (fun w4 hw4 => ?_)
        simp only [FinL, setL, List.set_cons_zero, List.set_cons_succ]
        have HB4 := Lib.hid (UP.out w4 hw4)
        clear hw4 RI GI UP H3
        go_wp2_with (fail)
        go_roundw
        case rel => exact ⟨i + 1, by omega, by rw [HE.out], by go_num, HB4.out⟩
        case measure => simp [intOf]; omega
      · obtain ⟨cp, hcp⟩ : ∃ x, x = cC (at_ L p) := ⟨_, rfl⟩
        have hpn : p < n := by omega
        have LP : Hid (cp.length = 4) := by show _ = _; rw [hcp]; rfl
        have RP : Hid (∀ wx, Below w3.heap.size w3 wx → wx.rangeAt g (o + p * 4) cp) := by
          intro wx hwx
          rw [hcp]
          exact cn_range (fun j u hu => cellLater' (HC.out j u hu) (UP.out wx hwx)) (by rw [HL.out]; exact hpn)
        have BT := Lib.hid (BI.out p)
        rw [hg, ← hcp] at BT
        have HE := Lib.hid he
        clear he hg HST GI0 BI hcp RI0
        refine wp_lax_list (by kernel_rfl) (by kernel_rfl) (by kernel_rfl) ?_
        refine wpL_move (.int .i64 (p : Int)) rfl (by kernel_rfl) (by kernel_rfl) (by kernel_rfl) (by kernel_rfl) ?_
        refine wpL_run1 (x := .tmp 13) (.int .i64 (p : Int)) (.bool false) (by kernel_rfl) (by kernel_rfl) (by kernel_rfl) (by kernel_rfl) (by kernel_rfl) (fun wx ρ hwx h0 hc => by simp [go_sem, h0, hc]) ?_
        refine wpL_move (.bool false) rfl (by kernel_rfl) (by kernel_rfl) (by kernel_rfl) (by kernel_rfl) ?_
        refine wpL_skip (by kernel_rfl) (by kernel_rfl) ?_
        refine wpL_skip (by kernel_rfl) (by kernel_rfl) ?_
        refine wpL_run2 (x := .tmp 15) (y := .tmp 17) (.bool false) (undef) (.bool false) (by kernel_rfl) (by kernel_rfl) (by kernel_rfl) (by kernel_rfl) (by kernel_rfl) (by kernel_rfl) (fun wx ρ hwx h0 h1 hc => by simp [go_sem, h0, h1, hc]) ?_
        refine wpL_move (.bool false) rfl (by kernel_rfl) (by kernel_rfl) (by kernel_rfl) (by kernel_rfl) ?_
        refine wpL_move (.int .i64 (p : Int)) rfl (by kernel_rfl) (by kernel_rfl) (by kernel_rfl) (by kernel_rfl) ?_
        refine wpL_run1 (x := .tmp 20) (.int .i64 (p : Int)) (.bool true) (by kernel_rfl) (by kernel_rfl) (by kernel_rfl) (by kernel_rfl) (by kernel_rfl) (fun wx ρ hwx h0 hc => by simp [go_sem, h0, hc]) ?_
        refine wpL_move (.bool true) rfl (by kernel_rfl) (by kernel_rfl) (by kernel_rfl) (by kernel_rfl) ?_
        refine wpL_run1 (x := .tmp 5) (ptr b5) (.agg ci.toArray) (by kernel_rfl) (by kernel_rfl) (by kernel_rfl) (by kernel_rfl) (by kernel_rfl) (fun wx ρ hwx h0 hc => load_cn ci LI.out rfl ρ (RI.out wx hwx) h0) ?_
        refine wpL_move (.slice (some ⟨g, o, none⟩) n c) rfl (by kernel_rfl) (by kernel_rfl) (by kernel_rfl) (by kernel_rfl) ?_
        refine wpL_move (.int .i64 (p : Int)) rfl (by kernel_rfl) (by kernel_rfl) (by kernel_rfl) (by kernel_rfl) ?_
        refine wpL_run2 (x := .tmp 24) (y := .tmp 25) (.slice (some ⟨g, o, none⟩) n c) (.int .i64 (p : Int)) (.pointer (some ⟨g, o + p * 4, none⟩)) (by kernel_rfl) (by kernel_rfl) (by kernel_rfl) (by kernel_rfl) (by kernel_rfl) (by kernel_rfl) (fun wx ρ hwx h0 h1 hc => idx_cn rfl hpn ρ wx h0 h1) ?_
        refine wpL_run1 (x := .tmp 26) (.pointer (some ⟨g, o + p * 4, none⟩)) (.agg cp.toArray) (by kernel_rfl) (by kernel_rfl) (by kernel_rfl) (by kernel_rfl) (by kernel_rfl) (fun wx ρ hwx h0 hc => load_cn cp LP.out rfl ρ (RP.out wx hwx) h0) ?_
        refine wpL_fn (.bool true) [.agg ci.toArray, .agg cp.toArray] rfl (by kernel_rfl) (by kernel_rfl) (by kernel_rfl) (by kernel_rfl) (fun _ _ => by simp [go_sem]) (fun wx hwx => BT.out wx) ?_
        refine wpL_run2 (x := .tmp 22) (y := .tmp 28) (.bool true) (.bool true) (.bool true) (by kernel_rfl) (by kernel_rfl) (by kernel_rfl) (by kernel_rfl) (by kernel_rfl) (by kernel_rfl) (fun wx ρ hwx h0 h1 hc => by simp [go_sem, h0, h1, hc]) ?_
        refine wpL_run2 (x := .tmp 19) (y := .tmp 29) (.bool false) (.bool true) (.bool true) (by kernel_rfl) (by kernel_rfl) (by kernel_rfl) (by kernel_rfl) (by kernel_rfl) (by kernel_rfl) (fun wx ρ hwx h0 h1 hc => by simp [go_sem, h0, h1, hc]) ?_
        refine wpL_end (by kernel_rfl) (fun w4 hw4 => ?_)
        simp only [FinL, setL, List.set_cons_zero, List.set_cons_succ]
        have HB4 := Lib.hid (UP.out w4 hw4)
        clear hw4 RI RP BT UP H3
        go_wp2_with (fail)
        go_roundw
        case rel => exact ⟨i + 1, by omega, by rw [HE.out], by go_num, HB4.out⟩
        case measure => simp [intOf]; omega
      · obtain ⟨cp, hcp⟩ : ∃ x, x = cC (at_ L p) := ⟨_, rfl⟩
        have hpn : p < n := by omega
        have LP : Hid (cp.length = 4) := by show _ = _; rw [hcp]; rfl
        have RP : Hid (∀ wx, Below w3.heap.size w3 wx → wx.rangeAt g (o + p * 4) cp) := by
          intro wx hwx
          rw [hcp]
          exact cn_range (fun j u hu => cellLater' (HC.out j u hu) (UP.out wx hwx)) (by rw [HL.out]; exact hpn)
        have BT := Lib.hid (BI.out p)
        rw [hg, ← hcp] at BT
        have HE := Lib.hid he
        clear he hg HST GI0 BI hcp RI0
        refine wp_lax_list (by kernel_rfl) (by kernel_rfl) (by kernel_rfl) ?_
        refine wpL_move (.int .i64 (p : Int)) rfl (by kernel_rfl) (by kernel_rfl) (by kernel_rfl) (by kernel_rfl) ?_
        refine wpL_run1 (x := .tmp 13) (.int .i64 (p : Int)) (.bool false) (by kernel_rfl) (by kernel_rfl) (by kernel_rfl) (by kernel_rfl) (by kernel_rfl) (fun wx ρ hwx h0 hc => by simp [go_sem, h0, hc]) ?_
        refine wpL_move (.bool false) rfl (by kernel_rfl) (by kernel_rfl) (by kernel_rfl) (by kernel_rfl) ?_
        refine wpL_skip (by kernel_rfl) (by kernel_rfl) ?_
        refine wpL_skip (by kernel_rfl) (by kernel_rfl) ?_
        refine wpL_run2 (x := .tmp 15) (y := .tmp 17) (.bool false) (undef) (.bool false) (by kernel_rfl) (by kernel_rfl) (by kernel_rfl) (by kernel_rfl) (by kernel_rfl) (by kernel_rfl) (fun wx ρ hwx h0 h1 hc => by simp [go_sem, h0, h1, hc]) ?_
        refine wpL_move (.bool false) rfl (by kernel_rfl) (by kernel_rfl) (by kernel_rfl) (by kernel_rfl) ?_
        refine wpL_move (.int .i64 (p : Int)) rfl (by kernel_rfl) (by kernel_rfl) (by kernel_rfl) (by kernel_rfl) ?_
        refine wpL_run1 (x := .tmp 20) (.int .i64 (p : Int)) (.bool true) (by kernel_rfl) (by kernel_rfl) (by kernel_rfl) (by kernel_rfl) (by kernel_rfl) (fun wx ρ hwx h0 hc => by simp [go_sem, h0, hc]) ?_
        refine wpL_move (.bool true) rfl (by kernel_rfl) (by kernel_rfl) (by kernel_rfl) (by kernel_rfl) ?_
        refine wpL_run1 (x := .tmp 5) (ptr b5) (.agg ci.toArray) (by kernel_rfl) (by kernel_rfl) (by kernel_rfl) (by kernel_rfl) (by kernel_rfl) (fun wx ρ hwx h0 hc => load_cn ci LI.out rfl ρ (RI.out wx hwx) h0) ?_
        refine wpL_move (.slice (some ⟨g, o, none⟩) n c) rfl (by kernel_rfl) (by kernel_rfl) (by kernel_rfl) (by kernel_rfl) ?_
        refine wpL_move (.int .i64 (p : Int)) rfl (by kernel_rfl) (by kernel_rfl) (by kernel_rfl) (by kernel_rfl) ?_
        refine wpL_run2 (x := .tmp 24) (y := .tmp 25) (.slice (some ⟨g, o, none⟩) n c) (.int .i64 (p : Int)) (.pointer (some ⟨g, o + p * 4, none⟩)) (by kernel_rfl) (by kernel_rfl) (by kernel_rfl) (by kernel_rfl) (by kernel_rfl) (by kernel_rfl) (fun wx ρ hwx h0 h1 hc => idx_cn rfl hpn ρ wx h0 h1) ?_
        refine wpL_run1 (x := .tmp 26) (.pointer (some ⟨g, o + p * 4, none⟩)) (.agg cp.toArray) (by kernel_rfl) (by kernel_rfl) (by kernel_rfl) (by kernel_rfl) (by kernel_rfl) (fun wx ρ hwx h0 hc => load_cn cp LP.out rfl ρ (RP.out wx hwx) h0) ?_
        refine wpL_fn (.bool false) [.agg ci.toArray, .agg cp.toArray] rfl (by kernel_rfl) (by kernel_rfl) (by kernel_rfl) (by kernel_rfl) (fun _ _ => by simp [go_sem]) (fun wx hwx => BT.out wx) ?_
        refine wpL_run2 (x := .tmp 22) (y := .tmp 28) (.bool true) (.bool false) (.bool false) (by kernel_rfl) (by kernel_rfl) (by kernel_rfl) (by kernel_rfl) (by kernel_rfl) (by kernel_rfl) (fun wx ρ hwx h0 h1 hc => by simp [go_sem, h0, h1, hc]) ?_
        refine wpL_run2 (x := .tmp 19) (y := .tmp 29) (.bool false) (.bool false) (.bool false) (by kernel_rfl) (by kernel_rfl) (by kernel_rfl) (by kernel_rfl) (by kernel_rfl) (by kernel_rfl) (fun wx ρ hwx h0 h1 hc => by simp [go_sem, h0, h1, hc]) ?_
        refine wpL_end (by kernel_rfl) (fun w4 hw4 => ?_)
        simp only [FinL, setL, List.set_cons_zero, List.set_cons_succ]
        have HB4 := Lib.hid (UP.out w4 hw4)
        clear hw4 RI RP BT UP H3
        go_wp2_with (fail)
        go_roundw
        case rel => exact ⟨i + 1, by omega, by rw [HE.out], by go_num, HB4.out⟩
        case measure => simp [intOf]; omega
    · have HIN : Hid (i = n) := by show _ = _; omega
      go_wp2_with (fail)
      go_ret
      refine ⟨?_, HB.out⟩
      rw [HIN.out, ← HL.out, List.take_length]
      rfl
end
/-- what the landed pick keeps -/
theorem kept (W : World) : Kept W where
  right c _ _ := rightK_any c _
  gains c _ _ := gainsK_any c _
  better a b _ _ _ := betterK_any a b _
  best L n v _ _ hl hn hr := bestK_any L n v _ hl hn hr
end Pic
end Go.Proofs.Ytcbkhgjjbponhaa

end
