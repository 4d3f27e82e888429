/- Merged: StoS LaxV StoU StoT LawStoE -/
import Derived.Test.YtepbdjgfaljbgaaL1
import Derived.Test.YtepbdjgfaljbgaaL4
import Derived.Test.YtepbdjgfaljbgaaL5
set_option linter.unusedVariables false
section
namespace Go.Proofs.Ytepbdjgfaljbgaa
open Go.RowKit Go.Own
namespace Sto
open Go.StoM Byt
theorem fld_pgO {o : Oper} {X : Operand} (ho : o.op = .fieldAddr 72 X 1) {p i : Nat} (ρ : Operand → Value) (w : World) (h0 : ρ X = .pointer (some ⟨p, i, none⟩)) : (execOp ρ o).run Try.prog w = .ok (.value (.pointer (some ⟨p, i + 1, none⟩))) w := by
  simp [execOp, ho, h0, go_sem, add_of]
theorem ahead_le (pg : Int) : ∀ l : List Ch, aheadP pg l ≤ l.length
  | [] => Nat.le_refl _
  | c :: l => by
    unfold aheadP
    split
    · have := ahead_le pg l; simp only [List.length_cons]; omega
    · exact Nat.zero_le _
theorem ahead_yes (pg : Int) : ∀ (l : List Ch) (i : Nat) (c : Ch), l[i]? = some c → i < aheadP pg l → c.place.page ≤ pg
  | [], _, _, h, _ => by cases h
  | d :: l, 0, c, h, hi => by
    simp at h
    unfold aheadP at hi
    split at hi
    · rw [← h]; assumption
    · omega
  | d :: l, i + 1, c, h, hi => by
    unfold aheadP at hi
    split at hi
    · exact ahead_yes pg l i c (by simpa using h) (by omega)
    · omega
theorem ahead_no (pg : Int) : ∀ (l : List Ch) (c : Ch), l[aheadP pg l]? = some c → ¬ c.place.page ≤ pg
  | [], _, h => by cases h
  | d :: l, c, h => by
    unfold aheadP at h
    split at h
    · exact ahead_no pg l c (by simpa using h)
    · simp at h; rw [← h]; assumption
theorem wrap_two (n a b : Int) : IntKind.i64.wrap (IntKind.i64.wrap (n + a) + b) = IntKind.i64.wrap (IntKind.i64.wrap (n + b) + a) := by
  simp [IntKind.wrap, IntKind.bits, IntKind.signed]
  repeat' split
  all_goals omega
theorem pages_perm {l m : List Ch} (h : l.Perm m) : ∀ n, pagesN l n = pagesN m n := by
  induction h with
  | nil => exact fun _ => rfl
  | cons c _ ih => exact fun n => ih _
  | swap a b l => exact fun n => by show pagesN l _ = pagesN l _; rw [wrap_two]
  | trans _ _ h1 h2 => exact fun n => (h1 n).trans (h2 n)
theorem fit_putAt {l : List Ch} {c : Ch} (hf : ∀ d ∈ l, Fit d) (hc : Fit c) (i : Nat) : ∀ d ∈ putAt l i c, Fit d := by
  intro d hd
  unfold putAt at hd
  rcases List.mem_append.1 hd with h | h
  · exact hf d (List.mem_of_mem_take h)
  · rcases List.mem_cons.1 h with h | h
    · rw [h]; exact hc
    · exact hf d (List.mem_of_mem_drop h)
set_option maxRecDepth 10000 in
set_option maxHeartbeats 12800000 in
theorem liveR_any {w : World} {p : Nat} {v : Value} {l : List Ch} (R : Rd w p v l) (ok : Ok l) (hn : l.length ≤ 100000) (seg : Int) (hs : i64S seg) : Calls Try.prog 53 #[ptr p, iS seg] w fun e w' => ∃ ao c, e = .returned (.tuple #[.slice ao (live seg l).length c, iS (pagesN (live seg l) 0)]) ∧ Own.St w.heap.size w w' [ARow 74 37 (.slice ao (live seg l).length c) (live seg l).length ((live seg l).flatMap chC)] := by
  obtain ⟨hpl, hc, ao0, c, rfl, hrd⟩ := R
  obtain ⟨n, hnl⟩ : ∃ n, n = l.length := ⟨_, rfl⟩
  have HNL : Hid (l.length = n) := hnl.symm
  rw [← hnl] at hc hrd hn
  have CELL : Hid (∀ wx, Below w.heap.size w wx → wx.cell? ⟨p, 0, none⟩ = some (.slice ao0 n c)) := fun wx h => cellLater' hc h
  have RDW : Hid (∀ wx, Below w.heap.size w wx → n = 0 ∨ ∃ g o, ao0 = some ⟨g, o, none⟩ ∧ ∀ j u, (l.flatMap chC)[j]? = some u → wx.cell? ⟨g, o + j, none⟩ = some u) := fun wx h => by
    have z : RdWin w (.slice ao0 n c) n (l.flatMap chC) := ⟨ao0, c, rfl, hrd⟩
    obtain ⟨a, c', e, q⟩ := z.later h
    cases e
    exact q
  have HF := Lib.hid ok.fit
  have PG : Hid (pagesN (live seg l) 0 = pagesN (l.filter fun c => decide (c.place.seg = seg)) 0) := pages_perm (live_is seg ok.sorted).2 0
  have H1 := Lib.hid ((Own.St.start w).rowFresh (e := 74) (size := 37))
  obtain ⟨LV, hLV⟩ : ∃ x, x = live seg l := ⟨_, rfl⟩
  obtain ⟨PN, hPN⟩ : ∃ x, x = pagesN LV 0 := ⟨_, rfl⟩
  rw [← hLV, ← hPN]
  rw [← hLV, ← hPN] at PG
  have HLV := Lib.hid hLV
  clear hpl hc hrd ok hnl hLV hPN
  go_enter Try.func53, Try.ntmps53
  go_wp2
  go_loopw [6, 7, 8] (fun v6 v7 v8 wr => ∃ (i : Nat) (a : Option Addr) (ca : Nat) (acc : List Ch) (x : Int), i ≤ n ∧ v6 = .slice a acc.length ca ∧ v7 = .int .i64 x ∧ v8 = .int .i64 (i : Int) ∧ LV = liveF seg acc (l.drop i) ∧ acc.length ≤ i ∧ (∀ d ∈ acc, Fit d) ∧ PN = pagesN ((l.drop i).filter fun c => decide (c.place.seg = seg)) x ∧ Own.St w.heap.size w wr [ARow 74 37 (.slice a acc.length ca) acc.length (acc.flatMap chC)]) (fun _ _ v8 _ => n - (intOf v8).toNat)
  case atStart => exact ⟨0, none, 0, [], 0, Nat.zero_le _, rfl, rfl, rfl, HLV.out, Nat.le_refl _, (fun d hd => by cases hd), PG.out, H1.out⟩
  case round =>
    obtain ⟨i, a, ca, acc, x, hin, rfl, rfl, rfl, hlv, hai, hfa, hpn, hst⟩ := hrel
    have H := Lib.hid hst
    have LVI := Lib.hid hlv
    have FA := Lib.hid hfa
    have PNI := Lib.hid hpn
    have c0 := CELL.out wr hst.below
    clear hst hlv hfa hpn H1
    by_cases hi : (i : Int) < (n : Int)
    · have hin2 : i < n := by omega
      rcases RDW.out wr H.out.below with h0 | ⟨g, o, hg, hcells⟩
      · omega
      subst hg
      have hil : i < l.length := by rw [HNL.out]; exact hin2
      obtain ⟨e, hee⟩ : ∃ e, e = l[i] := ⟨_, rfl⟩
      have he : l[i]? = some e := by rw [hee]; exact List.getElem?_eq_getElem hil
      have hfe := HF.out e (List.mem_of_getElem? he)
      have FE := Lib.hid hfe
      obtain ⟨cs, hcs⟩ : ∃ x, x = chC e := ⟨_, rfl⟩
      have CL : Hid (cs.length = 37) := by show _ = _; rw [hcs]; exact chC_len hfe.key
      have CO : Hid (∀ u ∈ cs, u.oneCell' = true) := by show ∀ u ∈ cs, _; rw [hcs]; exact chC_one _
      have RG : Hid (wr.rangeAt g (o + i * 37) cs) := by rw [hcs]; exact rd_range hcells HF.out HNL.out he
      obtain ⟨sg, hsg⟩ : ∃ x, x = e.place.seg := ⟨_, rfl⟩
      obtain ⟨pg, hpg⟩ : ∃ x, x = e.place.page := ⟨_, rfl⟩
      obtain ⟨pn, hpn⟩ : ∃ x, x = e.place.pages := ⟨_, rfl⟩
      have C33 : Hid (cs[33]? = some (.int .i64 sg)) := by show _ = _; rw [hcs, hsg]; exact chC_rest hfe.key 0
      have C34 : Hid (cs[34]? = some (.int .i64 pg)) := by show _ = _; rw [hcs, hpg]; exact chC_rest hfe.key 1
      have C35 : Hid (cs[35]? = some (.int .i64 pn)) := by show _ = _; rw [hcs, hpn]; exact chC_rest hfe.key 2
      have DR : Hid (l.drop i = e :: l.drop (i + 1)) := by show _ = _; rw [hee]; exact List.drop_eq_getElem_cons hil
      have ECS := Lib.hid hcs
      have HSG := Lib.hid hsg
      have HPG := Lib.hid hpg
      have HPN := Lib.hid hpn
      obtain ⟨y, hy⟩ : ∃ y, y = IntKind.i64.wrap (x + pn) := ⟨_, rfl⟩
      have HY := hy.symm
      obtain ⟨m, hm⟩ : ∃ m, m = acc.length := ⟨_, rfl⟩
      have HM := Lib.hid hm
      rw [← hm] at H hai ⊢
      have hm5 : m ≤ 100000 := by omega
      have NO : Hid (¬ sg = seg → LV = liveF seg acc (l.drop (i + 1)) ∧ PN = pagesN ((l.drop (i + 1)).filter fun c => decide (c.place.seg = seg)) x) := by
        intro h
        rw [hsg] at h
        have h1 := LVI.out
        have h2 := PNI.out
        rw [DR.out] at h1 h2
        unfold liveF at h1
        rw [if_neg h] at h1
        rw [List.filter_cons_of_neg (by simp [h])] at h2
        exact ⟨h1, h2⟩
      have YES : Hid (sg = seg → LV = liveF seg (putAt acc (aheadP pg acc) e) (l.drop (i + 1)) ∧ PN = pagesN ((l.drop (i + 1)).filter fun c => decide (c.place.seg = seg)) y) := by
        intro h
        rw [hsg] at h
        have h1 := LVI.out
        have h2 := PNI.out
        rw [DR.out] at h1 h2
        unfold liveF at h1
        rw [if_pos h, ← hpg] at h1
        rw [List.filter_cons_of_pos (by simp [h])] at h2
        refine ⟨h1, ?_⟩
        rw [h2, hy, hpn]
        rfl
      clear hcells hee he hfe hcs hsg hpg hpn hil hy hm
      by_cases hseg : sg = seg
      · obtain ⟨hl2, hp2⟩ := YES.out hseg
        have L2 := Lib.hid hl2
        have P2 := Lib.hid hp2
        clear hl2 hp2 YES NO
        subst hseg
        obtain ⟨fc, hfc⟩ : ∃ x, x = acc.flatMap chC := ⟨_, rfl⟩
        have FL : Hid (fc.length = m * 37) := by show _ = _; rw [hfc, flat_length chC 37 acc (fun c hc => chC_len (FA.out c hc).key), HM.out]
        have FO : Hid (∀ u ∈ fc, u.oneCell' = true) := by show ∀ u ∈ fc, _; rw [hfc]; exact flat_one acc
        obtain ⟨ka, hka⟩ : ∃ k, k = aheadP pg acc := ⟨_, rfl⟩
        have HKA := Lib.hid hka
        have hkam : ka ≤ m := by rw [hka, HM.out]; exact ahead_le pg acc
        have RES : Hid (∀ a4 c4 wz k, k = ka → Own.St w.heap.size w wz [ARow 74 37 (.slice a4 (k + 1 + (m - k)) c4) (k + 1 + (m - k)) (fc.take (k * 37) ++ cs ++ fc.drop (k * 37))] → ∃ (i' : Nat) (a' : Option Addr) (ca' : Nat) (acc' : List Ch) (x' : Int), i' ≤ n ∧ Value.slice a4 (k + 1 + (m - k)) c4 = .slice a' acc'.length ca' ∧ Value.int .i64 y = .int .i64 x' ∧ Value.int .i64 ((i : Int) + 1) = .int .i64 (i' : Int) ∧ LV = liveF sg acc' (l.drop i') ∧ acc'.length ≤ i' ∧ (∀ d ∈ acc', Fit d) ∧ PN = pagesN ((l.drop i').filter fun c => decide (c.place.seg = sg)) x' ∧ Own.St w.heap.size w wz [ARow 74 37 (.slice a' acc'.length ca') acc'.length (acc'.flatMap chC)]) := by
          intro a4 c4 wz k hk h
          subst hk
          have e1 : (putAt acc k e).flatMap chC = fc.take (k * 37) ++ cs ++ fc.drop (k * 37) := by
            unfold putAt
            rw [List.flatMap_append, List.flatMap_cons, (flat_take acc FA.out k).1, (flat_take acc FA.out k).2, ← hfc, ECS.out, List.append_assoc]
          have e2 : (putAt acc k e).length = k + 1 + (m - k) := by
            unfold putAt
            rw [List.length_append, List.length_cons, List.length_take, List.length_drop, ← HM.out]
            omega
          refine ⟨i + 1, a4, c4, putAt acc k e, y, by omega, by rw [e2], rfl, by congr 1, ?_, by rw [e2]; omega, fit_putAt FA.out FE.out k, P2.out, ?_⟩
          · have := L2.out
            rw [hka]
            exact this
          · rw [e1, e2]
            exact h
        obtain ⟨_, hx2, hx3, hx4⟩ := H.out.rowLen 0 rfl
        have hx5 : ca ≤ 9223372036854775807 := by unfold maxLen at hx3; omega
        have HX3 := Lib.hid hx3
        have HX4 := Lib.hid hx4
        rw [← hfc] at H
        have HFC := Lib.hid hfc
        clear hfc hka hx3 hx4
        go_wp2_with (first
          | (refine wpList_val rfl (idx_chO rfl hin2 _ _ rfl rfl) ?_)
          | (refine wpList_val rfl (load_ch cs CL.out rfl _ (b := g) (k := o + i * 37) RG.out rfl) ?_)
          | (refine wpList_box2 boxy_ch rfl rfl rfl (.tmp 9) (.tmp 27) rfl rfl cs (fun _ => rfl) (fun _ => rfl) CL.out CO.out H.out ?_; intro b9 w3 h; have H3 := Lib.hid h; have q33 := (h.cellV 0 rfl 33 (v := .int .i64 sg) C33.out).1; have q35 := (h.cellV 0 rfl 35 (v := .int .i64 pn) C35.out).1; clear h))
        clear q33 q35 RG H c0
        go_loopw [10] (fun v10 wi => ∃ k : Nat, k ≤ ka ∧ v10 = .int .i64 (k : Int) ∧ Own.St w.heap.size w wi [AVals b9 74 cs, ARow 74 37 (.slice a m ca) m fc]) (fun v10 _ => m - (intOf v10).toNat)
        case atStart => exact ⟨0, Nat.zero_le _, rfl, H3.out⟩
        case round =>
          obtain ⟨k, hkk, rfl, hsi⟩ := hrel
          have HI := Lib.hid hsi
          clear hsi H3
          have HKM2 : k ≤ m := by omega
          by_cases hkm : k < m
          · obtain ⟨ga, hga, _⟩ := HI.out.rowAt 1 rfl (k * 37) (by omega)
            have AO := Lib.hid hga
            have HKM := Lib.hid hkm
            have hkl : k < acc.length := by rw [← HM.out]; exact hkm
            obtain ⟨d, hd⟩ : ∃ d, acc[k]? = some d := ⟨_, List.getElem?_eq_getElem hkl⟩
            have hfd := FA.out d (List.mem_of_getElem? hd)
            obtain ⟨dp, hdp⟩ : ∃ x, x = d.place.page := ⟨_, rfl⟩
            have HLT : Hid (((k : Int) < (m : Int)) = True) := by show _ = _; simp; omega
            have F : Hid (∀ wx, Below wr.heap.size wr wx → wx.cell? ⟨ga, k * 37 + 34, none⟩ = some (.int .i64 dp) ∧ wx.cell? ⟨b9, 34, none⟩ = some (.int .i64 pg)) := fun wx h => by
              have h2 := HI.out.later h
              refine ⟨?_, (h2.cellV 0 rfl 34 (v := .int .i64 pg) C34.out).1⟩
              rw [AO.out, HFC.out] at h2
              rw [hdp]
              exact row_range h2 1 rfl FA.out HM.out.symm hd 34 _ (chC_rest hfd.key 1)
            by_cases hle : dp ≤ pg
            · have hlt : k < ka := by
                rcases Nat.lt_or_ge k ka with h | h
                · exact h
                · have hkeq : k = ka := by omega
                  have := ahead_no pg acc d (by rw [← HKA.out, ← hkeq]; exact hd)
                  rw [← hdp] at this
                  exact absurd hle this
              have HLE : Hid ((dp ≤ pg) = True) := by show _ = _; simp [hle]
              clear hd hfd hdp hga hkl hle
              go_wp2_with (fail)
              refine wp_lax_list (by kernel_rfl) (by kernel_rfl) (by kernel_rfl) ?_
              refine wpL_move (.int .i64 (k : Int)) rfl (by kernel_rfl) (by kernel_rfl) (by kernel_rfl) (by kernel_rfl) ?_
              refine wpL_move (.slice a m ca) rfl (by kernel_rfl) (by kernel_rfl) (by kernel_rfl) (by kernel_rfl) ?_
              refine wpL_run1 (x := .tmp 39) (.slice a m ca) (.int .i64 (m : Int)) (by kernel_rfl) (by kernel_rfl) (by kernel_rfl) (by kernel_rfl) (by kernel_rfl) (fun wx ρ hwx h0 hc => by simp [go_sem, h0]) ?_
              refine wpL_run2 (x := .tmp 38) (y := .tmp 40) (.int .i64 (k : Int)) (.int .i64 (m : Int)) (.bool true) (by kernel_rfl) (by kernel_rfl) (by kernel_rfl) (by kernel_rfl) (by kernel_rfl) (by kernel_rfl) (fun wx ρ hwx h0 h1 hc => by simp [go_sem, h0, h1, HLT.out]) ?_
              refine wpL_move (.bool true) rfl (by kernel_rfl) (by kernel_rfl) (by kernel_rfl) (by kernel_rfl) ?_
              refine wpL_move (.slice a m ca) rfl (by kernel_rfl) (by kernel_rfl) (by kernel_rfl) (by kernel_rfl) ?_
              refine wpL_move (.int .i64 (k : Int)) rfl (by kernel_rfl) (by kernel_rfl) (by kernel_rfl) (by kernel_rfl) ?_
              refine wpL_run2 (x := .tmp 43) (y := .tmp 44) (.slice a m ca) (.int .i64 (k : Int)) (.pointer (some ⟨ga, k * 37, none⟩)) (by kernel_rfl) (by kernel_rfl) (by kernel_rfl) (by kernel_rfl) (by kernel_rfl) (by kernel_rfl) (fun wx ρ hwx h0 h1 hc => idx_ch rfl HKM.out ρ wx (by rw [h0, AO.out]) h1) ?_
              refine wpL_run1 (x := .tmp 45) (.pointer (some ⟨ga, k * 37, none⟩)) (.pointer (some ⟨ga, k * 37 + 33, none⟩)) (by kernel_rfl) (by kernel_rfl) (by kernel_rfl) (by kernel_rfl) (by kernel_rfl) (fun wx ρ hwx h0 hc => fld_plO rfl ρ wx h0) ?_
              refine wpL_run1 (x := .tmp 46) (.pointer (some ⟨ga, k * 37 + 33, none⟩)) (.pointer (some ⟨ga, k * 37 + 34, none⟩)) (by kernel_rfl) (by kernel_rfl) (by kernel_rfl) (by kernel_rfl) (by kernel_rfl) (fun wx ρ hwx h0 hc => fld_pgO rfl ρ wx h0) ?_
              refine wpL_run1 (x := .tmp 47) (.pointer (some ⟨ga, k * 37 + 34, none⟩)) (.int .i64 dp) (by kernel_rfl) (by kernel_rfl) (by kernel_rfl) (by kernel_rfl) (by kernel_rfl) (fun wx ρ hwx h0 hc => ld_i rfl ρ (F.out wx hwx).1 h0) ?_
              refine wpL_run1 (x := .tmp 9) (ptr b9) (.pointer (some ⟨b9, 33, none⟩)) (by kernel_rfl) (by kernel_rfl) (by kernel_rfl) (by kernel_rfl) (by kernel_rfl) (fun wx ρ hwx h0 hc => fld_pl rfl ρ wx h0) ?_
              refine wpL_run1 (x := .tmp 49) (.pointer (some ⟨b9, 33, none⟩)) (.pointer (some ⟨b9, 34, none⟩)) (by kernel_rfl) (by kernel_rfl) (by kernel_rfl) (by kernel_rfl) (by kernel_rfl) (fun wx ρ hwx h0 hc => fld_pg rfl ρ wx h0) ?_
              refine wpL_run1 (x := .tmp 50) (.pointer (some ⟨b9, 34, none⟩)) (.int .i64 pg) (by kernel_rfl) (by kernel_rfl) (by kernel_rfl) (by kernel_rfl) (by kernel_rfl) (fun wx ρ hwx h0 hc => ld_i rfl ρ (F.out wx hwx).2 h0) ?_
              refine wpL_run2 (x := .tmp 48) (y := .tmp 51) (.int .i64 dp) (.int .i64 pg) (.bool true) (by kernel_rfl) (by kernel_rfl) (by kernel_rfl) (by kernel_rfl) (by kernel_rfl) (by kernel_rfl) (fun wx ρ hwx h0 h1 hc => by simp [go_sem, h0, h1, HLE.out]) ?_
              refine wpL_run2 (x := .tmp 42) (y := .tmp 52) (.bool true) (.bool true) (.bool true) (by kernel_rfl) (by kernel_rfl) (by kernel_rfl) (by kernel_rfl) (by kernel_rfl) (by kernel_rfl) (fun wx ρ hwx h0 h1 hc => by simp [go_sem, h0, h1]) ?_
              refine wpL_end (by kernel_rfl) (fun w4 hw4 => ?_)
              simp only [FinL, setL, List.set_cons_zero, List.set_cons_succ]
              have H4 := Lib.hid (HI.out.later hw4)
              clear hw4 HI
              clear F HLE HLT
              go_wp2_with (fail)
              go_roundw
              case rel => exact ⟨k + 1, by omega, by go_num, H4.out⟩
              case measure => simp [intOf]; omega
            · have hke : k = ka := by
                rcases Nat.lt_or_ge k ka with h | h
                · have := ahead_yes pg acc k d hd (by rw [← HKA.out]; exact h)
                  rw [← hdp] at this
                  exact absurd this hle
                · omega
              have HLE : Hid ((dp ≤ pg) = False) := by show _ = _; simp; omega
              clear hd hfd hdp hga hkl hle
              go_wp2_with (fail)
              refine wp_lax_list (by kernel_rfl) (by kernel_rfl) (by kernel_rfl) ?_
              refine wpL_move (.int .i64 (k : Int)) rfl (by kernel_rfl) (by kernel_rfl) (by kernel_rfl) (by kernel_rfl) ?_
              refine wpL_move (.slice a m ca) rfl (by kernel_rfl) (by kernel_rfl) (by kernel_rfl) (by kernel_rfl) ?_
              refine wpL_run1 (x := .tmp 39) (.slice a m ca) (.int .i64 (m : Int)) (by kernel_rfl) (by kernel_rfl) (by kernel_rfl) (by kernel_rfl) (by kernel_rfl) (fun wx ρ hwx h0 hc => by simp [go_sem, h0]) ?_
              refine wpL_run2 (x := .tmp 38) (y := .tmp 40) (.int .i64 (k : Int)) (.int .i64 (m : Int)) (.bool true) (by kernel_rfl) (by kernel_rfl) (by kernel_rfl) (by kernel_rfl) (by kernel_rfl) (by kernel_rfl) (fun wx ρ hwx h0 h1 hc => by simp [go_sem, h0, h1, HLT.out]) ?_
              refine wpL_move (.bool true) rfl (by kernel_rfl) (by kernel_rfl) (by kernel_rfl) (by kernel_rfl) ?_
              refine wpL_move (.slice a m ca) rfl (by kernel_rfl) (by kernel_rfl) (by kernel_rfl) (by kernel_rfl) ?_
              refine wpL_move (.int .i64 (k : Int)) rfl (by kernel_rfl) (by kernel_rfl) (by kernel_rfl) (by kernel_rfl) ?_
              refine wpL_run2 (x := .tmp 43) (y := .tmp 44) (.slice a m ca) (.int .i64 (k : Int)) (.pointer (some ⟨ga, k * 37, none⟩)) (by kernel_rfl) (by kernel_rfl) (by kernel_rfl) (by kernel_rfl) (by kernel_rfl) (by kernel_rfl) (fun wx ρ hwx h0 h1 hc => idx_ch rfl HKM.out ρ wx (by rw [h0, AO.out]) h1) ?_
              refine wpL_run1 (x := .tmp 45) (.pointer (some ⟨ga, k * 37, none⟩)) (.pointer (some ⟨ga, k * 37 + 33, none⟩)) (by kernel_rfl) (by kernel_rfl) (by kernel_rfl) (by kernel_rfl) (by kernel_rfl) (fun wx ρ hwx h0 hc => fld_plO rfl ρ wx h0) ?_
              refine wpL_run1 (x := .tmp 46) (.pointer (some ⟨ga, k * 37 + 33, none⟩)) (.pointer (some ⟨ga, k * 37 + 34, none⟩)) (by kernel_rfl) (by kernel_rfl) (by kernel_rfl) (by kernel_rfl) (by kernel_rfl) (fun wx ρ hwx h0 hc => fld_pgO rfl ρ wx h0) ?_
              refine wpL_run1 (x := .tmp 47) (.pointer (some ⟨ga, k * 37 + 34, none⟩)) (.int .i64 dp) (by kernel_rfl) (by kernel_rfl) (by kernel_rfl) (by kernel_rfl) (by kernel_rfl) (fun wx ρ hwx h0 hc => ld_i rfl ρ (F.out wx hwx).1 h0) ?_
              refine wpL_run1 (x := .tmp 9) (ptr b9) (.pointer (some ⟨b9, 33, none⟩)) (by kernel_rfl) (by kernel_rfl) (by kernel_rfl) (by kernel_rfl) (by kernel_rfl) (fun wx ρ hwx h0 hc => fld_pl rfl ρ wx h0) ?_
              refine wpL_run1 (x := .tmp 49) (.pointer (some ⟨b9, 33, none⟩)) (.pointer (some ⟨b9, 34, none⟩)) (by kernel_rfl) (by kernel_rfl) (by kernel_rfl) (by kernel_rfl) (by kernel_rfl) (fun wx ρ hwx h0 hc => fld_pg rfl ρ wx h0) ?_
              refine wpL_run1 (x := .tmp 50) (.pointer (some ⟨b9, 34, none⟩)) (.int .i64 pg) (by kernel_rfl) (by kernel_rfl) (by kernel_rfl) (by kernel_rfl) (by kernel_rfl) (fun wx ρ hwx h0 hc => ld_i rfl ρ (F.out wx hwx).2 h0) ?_
              refine wpL_run2 (x := .tmp 48) (y := .tmp 51) (.int .i64 dp) (.int .i64 pg) (.bool false) (by kernel_rfl) (by kernel_rfl) (by kernel_rfl) (by kernel_rfl) (by kernel_rfl) (by kernel_rfl) (fun wx ρ hwx h0 h1 hc => by simp [go_sem, h0, h1, HLE.out]) ?_
              refine wpL_run2 (x := .tmp 42) (y := .tmp 52) (.bool true) (.bool false) (.bool false) (by kernel_rfl) (by kernel_rfl) (by kernel_rfl) (by kernel_rfl) (by kernel_rfl) (by kernel_rfl) (fun wx ρ hwx h0 h1 hc => by simp [go_sem, h0, h1]) ?_
              refine wpL_end (by kernel_rfl) (fun w4 hw4 => ?_)
              simp only [FinL, setL, List.set_cons_zero, List.set_cons_succ]
              have H4 := Lib.hid (HI.out.later hw4)
              clear hw4 HI
              clear F HLE HLT
              subst hke
              have he5 := H4.out.emptyRow 74 37
              have HEM := Lib.hid he5
              have CB5 : Hid ((w4.alloc (.cells #[] 74)).rangeAt b9 0 cs) := he5.boxRange 1 rfl
              have TC : Hid (∀ x, a = some x → ∀ j u, (fc.take (k * 37))[j]? = some u → (w4.alloc (.cells #[] 74)).cell? (x.add j) = some u) := by
                intro x ha j u hu
                rw [List.getElem?_take] at hu
                split at hu
                · exact HEM.out.rowNews 2 rfl x ha j u hu
                · cases hu
              obtain ⟨af, cf, hcut, hnf, hcell⟩ := cutFromC a m ca k HKM2 hx2 HX3.out HX4.out
              have HCUT := Lib.hid hcut
              have HNF := Lib.hid hnf
              have DCX : Hid (∀ {X1 X2 X3 : Asn} {Q : List Asn} (wx : World), Own.St w.heap.size w wx (X1 :: X2 :: X3 :: ARow 74 37 (.slice a m ca) m fc :: Q) → ∀ a', af = some a' → ∀ j u, (fc.drop (k * 37))[j]? = some u → wx.cell? (a'.add j) = some u) := by
                intro X1 X2 X3 Q wx h
                by_cases hz : m = 0
                · intro a' ha j u hu
                  rw [List.drop_eq_nil_of_le (by rw [FL.out]; omega)] at hu
                  simp at hu
                · exact hcell wx fc FL.out (row_src h 3 rfl).1 ((row_src h 3 rfl).2 hz)
              have TL : Hid ((fc.take (k * 37)).length = k * 37) := by show _ = _; rw [List.length_take, FL.out]; omega
              have DL : Hid ((fc.drop (k * 37)).length = (m - k) * 37) := by show _ = _; rw [List.length_drop, FL.out, Nat.sub_mul]
              have TO : Hid (∀ u ∈ fc.take (k * 37), u.oneCell' = true) := fun u hu => FO.out u (List.mem_of_mem_take hu)
              have DO : Hid (∀ u ∈ fc.drop (k * 37), u.oneCell' = true) := fun u hu => FO.out u (List.mem_of_mem_drop hu)
              clear he5 hcut hnf hcell
              go_wp2_with (first
                | (refine wpList_val rfl (cutToC a m ca k HKM2 hx2 HX3.out HX4.out _ _ _ rfl _ _ rfl rfl) ?_)
                | (refine wpList_val rfl (HCUT.out _ _ _ rfl _ _ rfl rfl) ?_)
                | (at_builtin; refine wpList_many_append many_ch rfl (.tmp 56) (.tmp 59) rfl HEM.out 0 rfl rfl a k ca (fc.take (k * 37)) rfl (by intro h; have := HX4.out h; omega) TL.out TC.out TO.out (by omega) (by decide) ?_; intro a2 c2 w5 h5; simp only [List.set_cons_zero, Nat.zero_add, List.nil_append] at h5 ⊢; have H5 := Lib.hid h5; have CB6 : Hid (w5.rangeAt b9 0 cs) := h5.boxRange 1 rfl; have hb2 := h5.boxV 74 cs; have HB2 := Lib.hid hb2; have NC : Hid (∀ x, some (⟨w5.heap.size, 0, none⟩ : Addr) = some x → ∀ j u, cs[j]? = some u → (w5.alloc (.cells cs.toArray 74)).cell? (x.add j) = some u) := (fun x ha j u hu => by cases ha; rw [add_of, Nat.zero_add]; exact (hb2.cellV 0 rfl j hu).1); clear h5 hb2)
                | (refine wpList_val rfl (load_ch cs CL.out rfl _ (b := b9) (k := 0) CB6.out rfl) ?_)
                | (refine wpList_slot_one rfl 64 (.tmp 62) rfl cs 74 rfl (slot_ch cs CL.out _) ?_)
                | (at_builtin; refine wpList_many_append many_ch rfl (.tmp 61) (.tmp 63) rfl HB2.out 1 rfl rfl (some ⟨w5.heap.size, 0, none⟩) 1 1 cs rfl (by intro h; cases h) (by rw [CL.out]) NC.out CO.out (by omega) (by decide) ?_; intro a3 c3 w6 h6; simp only [List.set_cons_zero, List.set_cons_succ] at h6 ⊢; have H6 := Lib.hid (h6.drop 1); have DC := Lib.hid (DCX.out w6 h6); clear h6)
                | (at_builtin; refine wpList_many_append many_ch rfl (.tmp 65) (.tmp 68) rfl H6.out 0 rfl rfl af (m - k) cf (fc.drop (k * 37)) rfl HNF.out DL.out DC.out DO.out (by omega) (by decide) ?_; intro a4 c4 w7 h7; simp only at h7 ⊢; have H7 := Lib.hid h7; clear h7))
              go_roundw
              case rel => exact RES.out a4 c4 _ k rfl H7.out.drop2.drop2
              case measure => simp [intOf]; omega
          · have hke : k = ka := by omega
            have HLT : Hid (((k : Int) < (m : Int)) = False) := by show _ = _; simp; omega
            go_wp2_with (fail)
            refine wp_lax_list (by kernel_rfl) (by kernel_rfl) (by kernel_rfl) ?_
            refine wpL_move (.int .i64 (k : Int)) rfl (by kernel_rfl) (by kernel_rfl) (by kernel_rfl) (by kernel_rfl) ?_
            refine wpL_move (.slice a m ca) rfl (by kernel_rfl) (by kernel_rfl) (by kernel_rfl) (by kernel_rfl) ?_
            refine wpL_run1 (x := .tmp 39) (.slice a m ca) (.int .i64 (m : Int)) (by kernel_rfl) (by kernel_rfl) (by kernel_rfl) (by kernel_rfl) (by kernel_rfl) (fun wx ρ hwx h0 hc => by simp [go_sem, h0]) ?_
            refine wpL_run2 (x := .tmp 38) (y := .tmp 40) (.int .i64 (k : Int)) (.int .i64 (m : Int)) (.bool false) (by kernel_rfl) (by kernel_rfl) (by kernel_rfl) (by kernel_rfl) (by kernel_rfl) (by kernel_rfl) (fun wx ρ hwx h0 h1 hc => by simp [go_sem, h0, h1, HLT.out]) ?_
            refine wpL_move (.bool false) rfl (by kernel_rfl) (by kernel_rfl) (by kernel_rfl) (by kernel_rfl) ?_
            refine wpL_skip (by kernel_rfl) (by kernel_rfl) ?_
            refine wpL_skip (by kernel_rfl) (by kernel_rfl) ?_
            refine wpL_skip (by kernel_rfl) (by kernel_rfl) ?_
            refine wpL_skip (by kernel_rfl) (by kernel_rfl) ?_
            refine wpL_skip (by kernel_rfl) (by kernel_rfl) ?_
            refine wpL_skip (by kernel_rfl) (by kernel_rfl) ?_
            refine wpL_skip (by kernel_rfl) (by kernel_rfl) ?_
            refine wpL_skip (by kernel_rfl) (by kernel_rfl) ?_
            refine wpL_skip (by kernel_rfl) (by kernel_rfl) ?_
            refine wpL_skip (by kernel_rfl) (by kernel_rfl) ?_
            refine wpL_run1 (x := .tmp 42) (.bool false) (.bool false) (by kernel_rfl) (by kernel_rfl) (by kernel_rfl) (by kernel_rfl) (by kernel_rfl) (fun wx ρ hwx h0 hc => by simp [go_sem, h0, hc]) ?_
            refine wpL_end (by kernel_rfl) (fun w4 hw4 => ?_)
            simp only [FinL, setL, List.set_cons_zero, List.set_cons_succ]
            have H4 := Lib.hid (HI.out.later hw4)
            clear hw4 HI
            clear HLT
            subst hke
            have he5 := H4.out.emptyRow 74 37
            have HEM := Lib.hid he5
            have CB5 : Hid ((w4.alloc (.cells #[] 74)).rangeAt b9 0 cs) := he5.boxRange 1 rfl
            have TC : Hid (∀ x, a = some x → ∀ j u, (fc.take (k * 37))[j]? = some u → (w4.alloc (.cells #[] 74)).cell? (x.add j) = some u) := by
              intro x ha j u hu
              rw [List.getElem?_take] at hu
              split at hu
              · exact HEM.out.rowNews 2 rfl x ha j u hu
              · cases hu
            obtain ⟨af, cf, hcut, hnf, hcell⟩ := cutFromC a m ca k HKM2 hx2 HX3.out HX4.out
            have HCUT := Lib.hid hcut
            have HNF := Lib.hid hnf
            have DCX : Hid (∀ {X1 X2 X3 : Asn} {Q : List Asn} (wx : World), Own.St w.heap.size w wx (X1 :: X2 :: X3 :: ARow 74 37 (.slice a m ca) m fc :: Q) → ∀ a', af = some a' → ∀ j u, (fc.drop (k * 37))[j]? = some u → wx.cell? (a'.add j) = some u) := by
              intro X1 X2 X3 Q wx h
              by_cases hz : m = 0
              · intro a' ha j u hu
                rw [List.drop_eq_nil_of_le (by rw [FL.out]; omega)] at hu
                simp at hu
              · exact hcell wx fc FL.out (row_src h 3 rfl).1 ((row_src h 3 rfl).2 hz)
            have TL : Hid ((fc.take (k * 37)).length = k * 37) := by show _ = _; rw [List.length_take, FL.out]; omega
            have DL : Hid ((fc.drop (k * 37)).length = (m - k) * 37) := by show _ = _; rw [List.length_drop, FL.out, Nat.sub_mul]
            have TO : Hid (∀ u ∈ fc.take (k * 37), u.oneCell' = true) := fun u hu => FO.out u (List.mem_of_mem_take hu)
            have DO : Hid (∀ u ∈ fc.drop (k * 37), u.oneCell' = true) := fun u hu => FO.out u (List.mem_of_mem_drop hu)
            clear he5 hcut hnf hcell
            go_wp2_with (first
              | (refine wpList_val rfl (cutToC a m ca k HKM2 hx2 HX3.out HX4.out _ _ _ rfl _ _ rfl rfl) ?_)
              | (refine wpList_val rfl (HCUT.out _ _ _ rfl _ _ rfl rfl) ?_)
              | (at_builtin; refine wpList_many_append many_ch rfl (.tmp 56) (.tmp 59) rfl HEM.out 0 rfl rfl a k ca (fc.take (k * 37)) rfl (by intro h; have := HX4.out h; omega) TL.out TC.out TO.out (by omega) (by decide) ?_; intro a2 c2 w5 h5; simp only [List.set_cons_zero, Nat.zero_add, List.nil_append] at h5 ⊢; have H5 := Lib.hid h5; have CB6 : Hid (w5.rangeAt b9 0 cs) := h5.boxRange 1 rfl; have hb2 := h5.boxV 74 cs; have HB2 := Lib.hid hb2; have NC : Hid (∀ x, some (⟨w5.heap.size, 0, none⟩ : Addr) = some x → ∀ j u, cs[j]? = some u → (w5.alloc (.cells cs.toArray 74)).cell? (x.add j) = some u) := (fun x ha j u hu => by cases ha; rw [add_of, Nat.zero_add]; exact (hb2.cellV 0 rfl j hu).1); clear h5 hb2)
              | (refine wpList_val rfl (load_ch cs CL.out rfl _ (b := b9) (k := 0) CB6.out rfl) ?_)
              | (refine wpList_slot_one rfl 64 (.tmp 62) rfl cs 74 rfl (slot_ch cs CL.out _) ?_)
              | (at_builtin; refine wpList_many_append many_ch rfl (.tmp 61) (.tmp 63) rfl HB2.out 1 rfl rfl (some ⟨w5.heap.size, 0, none⟩) 1 1 cs rfl (by intro h; cases h) (by rw [CL.out]) NC.out CO.out (by omega) (by decide) ?_; intro a3 c3 w6 h6; simp only [List.set_cons_zero, List.set_cons_succ] at h6 ⊢; have H6 := Lib.hid (h6.drop 1); have DC := Lib.hid (DCX.out w6 h6); clear h6)
              | (at_builtin; refine wpList_many_append many_ch rfl (.tmp 65) (.tmp 68) rfl H6.out 0 rfl rfl af (m - k) cf (fc.drop (k * 37)) rfl HNF.out DL.out DC.out DO.out (by omega) (by decide) ?_; intro a4 c4 w7 h7; simp only at h7 ⊢; have H7 := Lib.hid h7; clear h7))
            go_roundw
            case rel => exact RES.out a4 c4 _ k rfl H7.out.drop2.drop2
            case measure => simp [intOf]; omega
      · obtain ⟨hl2, hp2⟩ := NO.out hseg
        have L2 := Lib.hid hl2
        have P2 := Lib.hid hp2
        have hsn : ¬ sg = seg := hseg
        clear hl2 hp2 YES NO hseg
        go_wp2_with (first
          | (refine wpList_val rfl (idx_chO rfl hin2 _ _ rfl rfl) ?_)
          | (refine wpList_val rfl (load_ch cs CL.out rfl _ (b := g) (k := o + i * 37) RG.out rfl) ?_)
          | (refine wpList_box2 boxy_ch rfl rfl rfl (.tmp 9) (.tmp 27) rfl rfl cs (fun _ => rfl) (fun _ => rfl) CL.out CO.out H.out ?_; intro b9 w3 h; have H3 := Lib.hid h; have q33 := (h.cellV 0 rfl 33 (v := .int .i64 sg) C33.out).1; clear h))
        go_roundw
        case rel => exact ⟨i + 1, a, ca, acc, x, by omega, by rw [← HM.out], rfl, by go_num, L2.out, by rw [← HM.out]; omega, FA.out, P2.out, by rw [← HM.out]; exact H3.out.drop 1⟩
        case measure => simp [intOf]; omega
    · have hi2 : i = n := by omega
      subst hi2
      have EX : Hid (LV = acc) := by show _ = _; rw [LVI.out, List.drop_of_length_le (by rw [HNL.out]; exact Nat.le_refl _)]; rfl
      have EP : Hid (PN = x) := by show _ = _; rw [PNI.out, List.drop_of_length_le (by rw [HNL.out]; exact Nat.le_refl _)]; rfl
      go_wp2_with (fail)
      go_ret2
      rw [EX.out, EP.out]
      exact ⟨a, ca, rfl, H.out⟩
end Sto
end Go.Proofs.Ytepbdjgfaljbgaa

end
section
namespace Go.Own
open Go.RowKit
section
variable {P : Program} {ops : Array Oper} {C : World → Prop} {o : Oper} {I : Lx} {ds : List Deferred} {rest : List Oper} {Q : Act → World → Prop} {fs : List Value}
theorem gives_callU2 {a : Act} {t s : Tmp} {R S : Ty} (R' : Ty) {f : FuncId} {ts : Array TypeId} (ho : o.op = .call { callee := .value (.func f), args := #[.tmp t, .tmp s], argTypes := ts }) (hx : I.lookup t = some R) (hy : I.lookup s = some S)
    (hfn : ∀ (args : Array Value) w, (callFunc f args).run P w = .ok (.enter f args) w) (hc : ∀ (u v : Value) w, C w → R.holds u w → S.holds v w → Calls P f #[u, v] w fun e w' => ∃ r, e = .returned r ∧ R'.holds r w' ∧ Below w.heap.size w w') : Gives P ops C o I a R' := fun a1 w hC ht K Q' hK => by
  have h1 := ht t (looks_of_operand (x := .tmp t) (by rw [ho]; simp [Op.operands, Call.operands]) rfl)
  have h2 := ht s (looks_of_operand (x := .tmp s) (by rw [ho]; simp [Op.operands, Call.operands]) rfl)
  unfold slotIs at h1 h2
  rw [hx] at h1
  rw [hy] at h2
  unfold Oper.wp
  rw [enter_of (xs := [.tmp t, .tmp s]) ho a1.eval rfl hfn]
  exact (hc _ _ w hC h1 h2).mono fun e w' ⟨v, he, hv, hb⟩ => by subst he; exact hK _ _ hv hb
theorem gives_callUk {a : Act} {t : Tmp} {y : Operand} {R : Ty} (vy : Value) (R' : Ty) {f : FuncId} {ts : Array TypeId} (ho : o.op = .call { callee := .value (.func f), args := #[.tmp t, y], argTypes := ts }) (hx : I.lookup t = some R) (hk : known I y = true) (hy : a.eval y = vy)
    (hfn : ∀ (args : Array Value) w, (callFunc f args).run P w = .ok (.enter f args) w) (hc : ∀ (u : Value) w, C w → R.holds u w → Calls P f #[u, vy] w fun e w' => ∃ r, e = .returned r ∧ R'.holds r w' ∧ Below w.heap.size w w') : Gives P ops C o I a R' := fun a1 w hC ht K Q' hK => by
  have h1 := ht t (looks_of_operand (x := .tmp t) (by rw [ho]; simp [Op.operands, Call.operands]) rfl)
  unfold slotIs at h1
  rw [hx] at h1
  have h2 : a1.eval y = vy := (known_eval hk (by rw [ho]; simp [Op.operands, Call.operands]) ht).trans hy
  unfold Oper.wp
  rw [enter_of (xs := [.tmp t, y]) ho a1.eval rfl hfn]
  simp only [List.map_cons, List.map_nil, h2]
  exact (hc _ w hC h1).mono fun e w' ⟨v, he, hv, hb⟩ => by subst he; exact hK _ _ hv hb
/-- a call of two arguments that are not known -/
theorem wpL_fnU2V {t s : Tmp} {R S : Ty} (v : Value) {f : FuncId} {ts : Array TypeId} (ho : o.op = .call { callee := .value (.func f), args := #[.tmp t, .tmp s], argTypes := ts }) (hx : I.lookup t = some R) (hy : I.lookup s = some S) (hg : guardKnown ops o I = true) (hw : wantedL ops fs o = true)
    (hfn : ∀ (args : Array Value) w, (callFunc f args).run P w = .ok (.enter f args) w) (hc : ∀ (u u' : Value) w, C w → R.holds u w → S.holds u' w → Calls P f #[u, u'] w fun e w' => e = .returned v ∧ Below w.heap.size w w') (k : wpL P ops C Q ds rest I (setL fs o.dst v)) : wpL P ops C Q ds (o :: rest) I fs :=
  ⟨_, _, .val v hg (wantedL_eq.trans hw) (gives_callU2 (Ty.is v) ho hx hy hfn (fun u u' w h1 h2 h3 => (hc u u' w h1 h2 h3).mono fun _ _ h => ⟨v, h.1, rfl, h.2⟩)), by rw [mkA_put]; exact k⟩
/-- a call of one argument that is not known and one that is -/
theorem wpL_fnUkV {t : Tmp} {y : Operand} {R : Ty} (vy v : Value) {f : FuncId} {ts : Array TypeId} (ho : o.op = .call { callee := .value (.func f), args := #[.tmp t, y], argTypes := ts }) (hx : I.lookup t = some R) (hk : known I y = true) (hy : ev fs y = vy) (hg : guardKnown ops o I = true) (hw : wantedL ops fs o = true)
    (hfn : ∀ (args : Array Value) w, (callFunc f args).run P w = .ok (.enter f args) w) (hc : ∀ (u : Value) w, C w → R.holds u w → Calls P f #[u, vy] w fun e w' => e = .returned v ∧ Below w.heap.size w w') (k : wpL P ops C Q ds rest I (setL fs o.dst v)) : wpL P ops C Q ds (o :: rest) I fs :=
  ⟨_, _, .val v hg (wantedL_eq.trans hw) (gives_callUk vy (Ty.is v) ho hx hk ((mkA_eval y).trans hy) hfn (fun u w h1 h2 => (hc u w h1 h2).mono fun _ _ h => ⟨v, h.1, rfl, h.2⟩)), by rw [mkA_put]; exact k⟩
end
end Go.Own

end
section
namespace Go.Proofs.Ytepbdjgfaljbgaa
open Go.RowKit Go.Own Go.Maps
namespace Sto
open Go.StoM Byt
section
variable {B : Nat} {w0 w : World} {Ps : List Asn} {p q : Nat} {v : Value} {l : List Ch}
set_option maxRecDepth 10000 in
set_option maxHeartbeats 12800000 in
theorem alike_any (H : Own.St B w0 w (AS p l :: ARef q v l :: Ps)) (ok : Ok l) (hn : l.length ≤ 100000) {k : Ky} (hk : FitK k) (seg : Int) (hs : i64S seg) :
    Calls Try.prog 31 #[ptr p, ptr q, kV k, iS seg] w fun e w' => e = .returned (.bool true) ∧ Own.St B w0 w' (AS p l :: ARef q v l :: Ps) := by
  have hv := ref_open (H.front 1 rfl)
  obtain ⟨aq, cq, hvq⟩ := hv.rowForm 1 rfl
  subst hvq
  clear hv
  obtain ⟨kc, hkc⟩ : ∃ x, x = kC k := ⟨_, rfl⟩
  have KL : Hid (kc.length = 33) := by show _ = _; rw [hkc]; exact kC_len hk
  obtain ⟨F, hF⟩ : ∃ x, x = chC (getS l k) := ⟨_, rfl⟩
  have hfg := getS_fit ok k
  have FL : Hid (F.length = 37) := by show _ = _; rw [hF]; exact chC_len hfg.key
  have FO : Hid (∀ u ∈ F, u.oneCell' = true) := by show ∀ u ∈ F, _; rw [hF]; exact chC_one _
  obtain ⟨is, his⟩ : ∃ x, x = isAt l k := ⟨_, rfl⟩
  obtain ⟨ds, hds⟩ : ∃ x, x = k.sum.map byteV := ⟨_, rfl⟩
  have DL : Hid (ds.length = 32) := by show _ = _; rw [hds, List.length_map, hk.sum]
  obtain ⟨n, hnl⟩ : ∃ n, n = l.length := ⟨_, rfl⟩
  obtain ⟨xs, hxs⟩ : ∃ x, x = l.flatMap chC := ⟨_, rfl⟩
  obtain ⟨nt, hnt⟩ : ∃ x, x = (twins l k.sum).length := ⟨_, rfl⟩
  obtain ⟨xt, hxt⟩ : ∃ x, x = (twins l k.sum).flatMap chC := ⟨_, rfl⟩
  obtain ⟨nl, hnv⟩ : ∃ x, x = (live seg l).length := ⟨_, rfl⟩
  obtain ⟨pn, hpn⟩ : ∃ x, x = pagesN (live seg l) 0 := ⟨_, rfl⟩
  have hb0 := H.boxV 36 kc
  obtain ⟨b6, hb6⟩ : ∃ b, b = w.heap.size := ⟨_, rfl⟩
  obtain ⟨W1, hW1⟩ : ∃ W, W = w.alloc (.cells kc.toArray 36) := ⟨_, rfl⟩
  rw [← hW1, ← hb6] at hb0
  have H1 := Lib.hid hb0
  have E1 := hW1.symm
  have EB := hb6.symm
  have CG : Hid (∀ {Q : List Asn} wx, Own.St B w0 wx (AS p l :: Q) → Calls Try.prog 36 #[ptr p, .agg kc.toArray] wx fun e w' => e = .returned (.tuple #[.agg F.toArray, .bool is]) ∧ Below wx.heap.size wx w') := by
    rw [hkc, hF, his]
    exact fun {Q} wx h => get_any h ok hk
  have CGR : Hid (∀ {Q : List Asn} wx, Own.St B w0 wx (ARef q (.slice aq l.length cq) l :: Q) → Calls Try.prog 52 #[ptr q, .agg kc.toArray] wx fun e w' => e = .returned (.tuple #[.agg F.toArray, .bool is]) ∧ Below wx.heap.size wx w') := by
    rw [hkc, hF, his]
    exact fun {Q} wx h => getR_any h ok hn hk
  have CV : Hid (∀ {Q : List Asn} wx, Own.St B w0 wx (AS p l :: Q) → Calls Try.prog 35 #[ptr p, iS seg] wx fun e w' => ∃ ao c, e = .returned (.tuple #[.slice ao nl c, iS pn]) ∧ RdWin w' (.slice ao nl c) nl ((live seg l).flatMap chC) ∧ Own.St B w0 w' (AS p l :: Q)) := by
    intro Q wx h
    rw [hnv, hpn]
    refine (live_any h ok hn seg hs).mono ?_
    rintro e w' ⟨ao, c, rfl, h2⟩
    exact ⟨ao, c, rfl, rd_rowW h2 0 rfl, h2.drop 1⟩
  have CVR : Hid (∀ wx, Rd wx q (.slice aq l.length cq) l → Calls Try.prog 53 #[ptr q, iS seg] wx fun e w' => ∃ ao c, e = .returned (.tuple #[.slice ao nl c, iS pn]) ∧ RdWin w' (.slice ao nl c) nl ((live seg l).flatMap chC) ∧ Below wx.heap.size wx w') := by
    intro wx h
    rw [hnv, hpn]
    refine (liveR_any h ok hn seg hs).mono ?_
    rintro e w' ⟨ao, c, rfl, h2⟩
    exact ⟨ao, c, rfl, rd_rowW h2 0 rfl, h2.below⟩
  have lfit : ∀ c ∈ live seg l, Fit c := fun c hc => ok.fit c (List.mem_filter.1 ((live_is seg ok.sorted).2.mem_iff.1 hc)).1
  have llen : (live seg l).length ≤ 1000000 := by
    rw [(live_is seg ok.sorted).2.length_eq]
    exact Nat.le_trans (List.length_filter_le _ _) (by omega)
  have tfit : ∀ c ∈ twins l k.sum, Fit c := fun c hc => ok.fit c (List.mem_filter.1 hc).1
  have tlen : (twins l k.sum).length ≤ 1000000 := Nat.le_trans (List.length_filter_le _ _) (by omega)
  have SV : Hid (∀ v1 v2 wx, RdWin wx v1 nl ((live seg l).flatMap chC) → RdWin wx v2 nl ((live seg l).flatMap chC) → Calls Try.prog 54 #[v1, v2] wx fun e w' => e = .returned (.bool true) ∧ Below wx.heap.size wx w') := fun v1 v2 wx h1 h2 => same_any (live seg l) lfit v1 v2 nl hnv.symm (by omega) wx h1 h2
  have CI : Hid (∀ v1 v2 wx, (tyWin nt xt).holds v1 wx → (tyWin nt xt).holds v2 wx → Calls Try.prog 54 #[v1, v2] wx fun e w' => e = .returned (.bool true) ∧ Below wx.heap.size wx w') := fun v1 v2 wx h1 h2 => same_any (twins l k.sum) tfit v1 v2 nt hnt.symm (by omega) wx (by rw [← hxt]; exact h1) (by rw [← hxt]; exact h2)
  have SA : Hid (∀ v1 v2 wx, RdWin wx v1 n xs → RdWin wx v2 n xs → Calls Try.prog 54 #[v1, v2] wx fun e w' => e = .returned (.bool true) ∧ Below wx.heap.size wx w') := fun v1 v2 wx h1 h2 => same_any l ok.fit v1 v2 n hnl.symm (by omega) wx (by rw [← hxs]; exact h1) (by rw [← hxs]; exact h2)
  have TW1 : Hid (∀ {Q : List Asn} wx, Own.St B w0 wx (AS p l :: Q) → Calls Try.prog 38 #[ptr p, .agg ds.toArray] wx fun e w' => ∃ u, e = .returned u ∧ (tyWin nt xt).holds u w' ∧ Below wx.heap.size wx w') := by
    intro Q wx h
    rw [hds, hnt, hxt]
    refine (twins_below h ok hn k.sum hk.sum).mono ?_
    rintro e w' ⟨ao, c, rfl, h2, h3⟩
    exact ⟨_, rfl, h2, h3⟩
  have TW2 : Hid (∀ wx, Rd wx q (.slice aq l.length cq) l → Calls Try.prog 55 #[ptr q, .agg ds.toArray] wx fun e w' => ∃ u, e = .returned u ∧ (tyWin nt xt).holds u w' ∧ Below wx.heap.size wx w') := by
    intro wx h
    rw [hds, hnt, hxt]
    refine (twinsR_any h ok.fit hn k.sum hk.sum).mono ?_
    rintro e w' ⟨ao, c, rfl, h2⟩
    exact ⟨_, rfl, rd_rowW h2 0 rfl, h2.below⟩
  have AL : Hid (∀ {Q : List Asn} wx, Own.St B w0 wx (AS p l :: Q) → Calls Try.prog 37 #[ptr p] wx fun e w' => ∃ u, e = .returned u ∧ (tyWin n xs).holds u w' ∧ Below wx.heap.size wx w') := by
    intro Q wx h
    rw [hnl, hxs]
    refine (all_below h ok hn).mono ?_
    rintro e w' ⟨ao, c, rfl, h2, h3⟩
    exact ⟨_, rfl, h2, h3⟩
  have EQ : Hid (∀ (o : Oper) (x y : Operand), o.op = .binOp .eql 74 x y 74 → ∀ (ρ : Operand → Value) (w : World), ρ x = .agg F.toArray → ρ y = .agg F.toArray → (execOp ρ o).run Try.prog w = .ok (.value (.bool true)) w) := by
    intro o x y ho ρ w h0 h1
    rw [hF] at h0 h1
    exact bin_ch (.inl rfl) ho hfg.key hfg.key (by simp) ρ w h0 h1
  have SUMS : Hid (∀ wx : World, wx.rangeAt b6 0 kc → wx.rangeAt b6 0 ds) := fun wx h j u hu => by
    refine h j u ?_
    rw [hkc]
    show (k.sum.map byteV ++ _)[j]? = some u
    rw [hds] at hu
    rw [List.getElem?_append_left (List.getElem?_eq_some_iff.1 hu).1]
    exact hu
  have HNL : Hid (l.length = n) := hnl.symm
  have HXS := Lib.hid hxs
  show Calls Try.prog _ #[_, _, .agg (kC k).toArray, _] w _
  rw [← hkc]
  clear hb0 hW1 hb6 hkc hF hfg his hds hnl hxs hnt hxt hnv hpn lfit llen tfit tlen H ok hk hs
  go_enter Try.func31, Try.ntmps31
  go_wp2_with (refine wpList_val rfl (Rec.load_key kc KL.out rfl _ (b := b6) (k := 0) (H1.out.boxRange 0 rfl) rfl) ?_)
  refine (CG.out _ (H1.out.front 1 rfl)).mono ?_
  rintro e w1 ⟨rfl, h1⟩
  have H2 := Lib.hid (H1.out.later h1)
  clear h1 CG H1
  go_wp2_with (first
    | (refine wpList_box2 boxy_ch rfl rfl rfl (.tmp 9) (.tmp 21) rfl rfl F (fun _ => rfl) (fun _ => rfl) FL.out FO.out H2.out ?_; intro b9 w2 h; have H3 := Lib.hid h; have RK3 := Lib.hid (h.boxRange 1 rfl); clear h)
    | (refine wpList_val rfl (Rec.load_key kc KL.out rfl _ (b := b6) (k := 0) RK3.out rfl) ?_))
  refine (CGR.out _ (H3.out.front 3 rfl)).mono ?_
  rintro e w3 ⟨rfl, h3⟩
  have H4 := Lib.hid (H3.out.later h3)
  clear h3 CGR H3 H2 RK3
  go_wp2_with (refine wpList_box2 boxy_ch rfl rfl rfl (.tmp 11) (.tmp 27) rfl rfl F (fun _ => rfl) (fun _ => rfl) FL.out FO.out H4.out ?_; intro b11 w4 h; have H5 := Lib.hid (h.front 3 rfl); clear h)
  refine (CV.out _ H5.out).mono ?_
  rintro e w5 ⟨a1, c1, rfl, r1, h5⟩
  have R1 := Lib.hid r1
  have H6 := Lib.hid h5
  clear r1 h5 CV H5 H4
  go_wp2_with (fail)
  refine (CVR.out _ (rd_ref (H6.out.front 4 rfl))).mono ?_
  rintro e w6 ⟨a2, c2, rfl, r2, h6⟩
  have R2 := Lib.hid r2
  have R1' := Lib.hid (R1.out.later h6)
  have H7 := Lib.hid (H6.out.later h6)
  clear r2 h6 CVR H6 R1
  have RF : Hid (∀ wx, Below w6.heap.size w6 wx → wx.rangeAt b9 0 F ∧ wx.rangeAt b11 0 F ∧ wx.rangeAt b6 0 ds ∧ wx.cell? ⟨q, 0, none⟩ = some (.slice aq n cq)) := fun wx hwx => by
    have h := H7.out.later hwx
    exact ⟨h.boxRange 2 rfl, h.boxRange 1 rfl, SUMS.out wx (h.boxRange 3 rfl), by rw [← HNL.out]; exact (rd_ref (h.front 4 rfl)).2.1⟩
  have CL : Hid (∀ wx, Below w6.heap.size w6 wx → Calls Try.prog 54 #[.slice a1 nl c1, .slice a2 nl c2] wx fun e w' => e = .returned (.bool true) ∧ Below wx.heap.size wx w') := fun wx hwx => SV.out _ _ wx (R1'.out.later hwx) (R2.out.later hwx)
  have CT1 : Hid (∀ wx, Below w6.heap.size w6 wx → Calls Try.prog 38 #[ptr p, .agg ds.toArray] wx fun e w' => ∃ u, e = .returned u ∧ (tyWin nt xt).holds u w' ∧ Below wx.heap.size wx w') := fun wx hwx => TW1.out wx (H7.out.later hwx)
  have CT2 : Hid (∀ wx, Below w6.heap.size w6 wx → Calls Try.prog 55 #[ptr q, .agg ds.toArray] wx fun e w' => ∃ u, e = .returned u ∧ (tyWin nt xt).holds u w' ∧ Below wx.heap.size wx w') := fun wx hwx => TW2.out wx (rd_ref ((H7.out.later hwx).front 4 rfl))
  have CA : Hid (∀ wx, Below w6.heap.size w6 wx → Calls Try.prog 37 #[ptr p] wx fun e w' => ∃ u, e = .returned u ∧ (tyWin n xs).holds u w' ∧ Below wx.heap.size wx w') := fun wx hwx => AL.out wx (H7.out.later hwx)
  have CQ : Hid (∀ u wx, Below w6.heap.size w6 wx → (tyWin n xs).holds u wx → Calls Try.prog 54 #[u, .slice aq n cq] wx fun e w' => e = .returned (.bool true) ∧ Below wx.heap.size wx w') := fun u wx hwx hu => SA.out u _ wx hu (by
    have h := (rd_ref ((H7.out.later hwx).front 4 rfl)).2.2
    rw [HNL.out, ← HXS.out] at h
    exact h)
  clear SV SA TW1 TW2 AL SUMS R1' R2
  go_wp2_with (fail)
  refine wp_lax_list (by kernel_rfl) (by kernel_rfl) (by kernel_rfl) ?_
  refine wpL_run1 (x := .tmp 9) (ptr b9) (.agg F.toArray) (by kernel_rfl) (by kernel_rfl) (by kernel_rfl) (by kernel_rfl) (by kernel_rfl) (fun wx ρ hwx h0 hc => load_ch F FL.out rfl ρ (RF.out wx hwx).1 h0) ?_
  refine wpL_run1 (x := .tmp 11) (ptr b11) (.agg F.toArray) (by kernel_rfl) (by kernel_rfl) (by kernel_rfl) (by kernel_rfl) (by kernel_rfl) (fun wx ρ hwx h0 hc => load_ch F FL.out rfl ρ (RF.out wx hwx).2.1 h0) ?_
  refine wpL_run2 (x := .tmp 41) (y := .tmp 42) (.agg F.toArray) (.agg F.toArray) (.bool true) (by kernel_rfl) (by kernel_rfl) (by kernel_rfl) (by kernel_rfl) (by kernel_rfl) (by kernel_rfl) (fun wx ρ hwx h0 h1 hc => EQ.out _ _ _ rfl ρ wx h0 h1) ?_
  refine wpL_move (.bool true) rfl (by kernel_rfl) (by kernel_rfl) (by kernel_rfl) (by kernel_rfl) ?_
  refine wpL_move (.bool is) rfl (by kernel_rfl) (by kernel_rfl) (by kernel_rfl) (by kernel_rfl) ?_
  refine wpL_move (.bool is) rfl (by kernel_rfl) (by kernel_rfl) (by kernel_rfl) (by kernel_rfl) ?_
  refine wpL_run2 (x := .tmp 45) (y := .tmp 46) (.bool is) (.bool is) (.bool true) (by kernel_rfl) (by kernel_rfl) (by kernel_rfl) (by kernel_rfl) (by kernel_rfl) (by kernel_rfl) (fun wx ρ hwx h0 h1 hc => by simp [go_sem, h0, h1]) ?_
  refine wpL_run2 (x := .tmp 44) (y := .tmp 47) (.bool true) (.bool true) (.bool true) (by kernel_rfl) (by kernel_rfl) (by kernel_rfl) (by kernel_rfl) (by kernel_rfl) (by kernel_rfl) (fun wx ρ hwx h0 h1 hc => by simp [go_sem, h0, h1, hc]) ?_
  refine wpL_move (.bool true) rfl (by kernel_rfl) (by kernel_rfl) (by kernel_rfl) (by kernel_rfl) ?_
  refine wpL_move (.slice a1 nl c1) rfl (by kernel_rfl) (by kernel_rfl) (by kernel_rfl) (by kernel_rfl) ?_
  refine wpL_move (.slice a2 nl c2) rfl (by kernel_rfl) (by kernel_rfl) (by kernel_rfl) (by kernel_rfl) ?_
  refine wpL_fn (.bool true) [.slice a1 nl c1, .slice a2 nl c2] rfl (by kernel_rfl) (by kernel_rfl) (by kernel_rfl) (by kernel_rfl) (fun _ _ => by simp [go_sem]) (fun wx hwx => CL.out wx hwx) ?_
  refine wpL_run2 (x := .tmp 49) (y := .tmp 52) (.bool true) (.bool true) (.bool true) (by kernel_rfl) (by kernel_rfl) (by kernel_rfl) (by kernel_rfl) (by kernel_rfl) (by kernel_rfl) (fun wx ρ hwx h0 h1 hc => by simp [go_sem, h0, h1, hc]) ?_
  refine wpL_move (.bool true) rfl (by kernel_rfl) (by kernel_rfl) (by kernel_rfl) (by kernel_rfl) ?_
  refine wpL_move (iS pn) rfl (by kernel_rfl) (by kernel_rfl) (by kernel_rfl) (by kernel_rfl) ?_
  refine wpL_move (iS pn) rfl (by kernel_rfl) (by kernel_rfl) (by kernel_rfl) (by kernel_rfl) ?_
  refine wpL_run2 (x := .tmp 55) (y := .tmp 56) (iS pn) (iS pn) (.bool true) (by kernel_rfl) (by kernel_rfl) (by kernel_rfl) (by kernel_rfl) (by kernel_rfl) (by kernel_rfl) (fun wx ρ hwx h0 h1 hc => by simp [go_sem, h0, h1]) ?_
  refine wpL_run2 (x := .tmp 54) (y := .tmp 57) (.bool true) (.bool true) (.bool true) (by kernel_rfl) (by kernel_rfl) (by kernel_rfl) (by kernel_rfl) (by kernel_rfl) (by kernel_rfl) (fun wx ρ hwx h0 h1 hc => by simp [go_sem, h0, h1, hc]) ?_
  refine wpL_move (.bool true) rfl (by kernel_rfl) (by kernel_rfl) (by kernel_rfl) (by kernel_rfl) ?_
  refine wpL_move (ptr p) rfl (by kernel_rfl) (by kernel_rfl) (by kernel_rfl) (by kernel_rfl) ?_
  refine wpL_run1 (x := .tmp 6) (ptr b6) (ptr b6) (by kernel_rfl) (by kernel_rfl) (by kernel_rfl) (by kernel_rfl) (by kernel_rfl) (fun wx ρ hwx h0 hc => fld_ks rfl ρ wx h0) ?_
  refine wpL_run1 (x := .tmp 61) (ptr b6) (.agg ds.toArray) (by kernel_rfl) (by kernel_rfl) (by kernel_rfl) (by kernel_rfl) (by kernel_rfl) (fun wx ρ hwx h0 hc => load_sum ds DL.out rfl ρ (RF.out wx hwx).2.2.1 h0) ?_
  refine wpL_fnT (tyWin nt xt) [ptr p, .agg ds.toArray] rfl rfl (by kernel_rfl) (by kernel_rfl) (by kernel_rfl) (by kernel_rfl) (fun _ _ => by simp [go_sem]) (fun wx hwx => CT1.out wx hwx) ?_
  refine wpL_move (ptr q) rfl (by kernel_rfl) (by kernel_rfl) (by kernel_rfl) (by kernel_rfl) ?_
  refine wpL_run1 (x := .tmp 6) (ptr b6) (ptr b6) (by kernel_rfl) (by kernel_rfl) (by kernel_rfl) (by kernel_rfl) (by kernel_rfl) (fun wx ρ hwx h0 hc => fld_ks rfl ρ wx h0) ?_
  refine wpL_run1 (x := .tmp 65) (ptr b6) (.agg ds.toArray) (by kernel_rfl) (by kernel_rfl) (by kernel_rfl) (by kernel_rfl) (by kernel_rfl) (fun wx ρ hwx h0 hc => load_sum ds DL.out rfl ρ (RF.out wx hwx).2.2.1 h0) ?_
  refine wpL_fnT (tyWin nt xt) [ptr q, .agg ds.toArray] rfl rfl (by kernel_rfl) (by kernel_rfl) (by kernel_rfl) (by kernel_rfl) (fun _ _ => by simp [go_sem]) (fun wx hwx => CT2.out wx hwx) ?_
  refine wpL_fnU2V (.bool true) rfl (by kernel_rfl) (by kernel_rfl) (by kernel_rfl) (by kernel_rfl) (fun _ _ => by simp [go_sem]) (fun u u' wx hwx hu hu' => CI.out u u' wx hu hu') ?_
  refine wpL_run2 (x := .tmp 59) (y := .tmp 68) (.bool true) (.bool true) (.bool true) (by kernel_rfl) (by kernel_rfl) (by kernel_rfl) (by kernel_rfl) (by kernel_rfl) (by kernel_rfl) (fun wx ρ hwx h0 h1 hc => by simp [go_sem, h0, h1, hc]) ?_
  refine wpL_move (.bool true) rfl (by kernel_rfl) (by kernel_rfl) (by kernel_rfl) (by kernel_rfl) ?_
  refine wpL_move (ptr p) rfl (by kernel_rfl) (by kernel_rfl) (by kernel_rfl) (by kernel_rfl) ?_
  refine wpL_fnT (tyWin n xs) [ptr p] rfl rfl (by kernel_rfl) (by kernel_rfl) (by kernel_rfl) (by kernel_rfl) (fun _ _ => by simp [go_sem]) (fun wx hwx => CA.out wx hwx) ?_
  refine wpL_move (ptr q) rfl (by kernel_rfl) (by kernel_rfl) (by kernel_rfl) (by kernel_rfl) ?_
  refine wpL_run1 (x := .tmp 73) (ptr q) (ptr q) (by kernel_rfl) (by kernel_rfl) (by kernel_rfl) (by kernel_rfl) (by kernel_rfl) (fun wx ρ hwx h0 hc => by simp [go_sem, h0]) ?_
  refine wpL_run1 (x := .tmp 74) (ptr q) (ptr q) (by kernel_rfl) (by kernel_rfl) (by kernel_rfl) (by kernel_rfl) (by kernel_rfl) (fun wx ρ hwx h0 hc => fld_rL rfl ρ wx h0) ?_
  refine wpL_run1 (x := .tmp 75) (ptr q) (.slice aq n cq) (by kernel_rfl) (by kernel_rfl) (by kernel_rfl) (by kernel_rfl) (by kernel_rfl) (fun wx ρ hwx h0 hc => ld_rL rfl ρ (RF.out wx hwx).2.2.2 h0) ?_
  refine wpL_fnUkV (.slice aq n cq) (.bool true) rfl (by kernel_rfl) (by kernel_rfl) (by kernel_rfl) (by kernel_rfl) (by kernel_rfl) (fun _ _ => by simp [go_sem]) (fun u wx hwx hu => CQ.out u wx hwx hu) ?_
  refine wpL_run2 (x := .tmp 70) (y := .tmp 77) (.bool true) (.bool true) (.bool true) (by kernel_rfl) (by kernel_rfl) (by kernel_rfl) (by kernel_rfl) (by kernel_rfl) (by kernel_rfl) (fun wx ρ hwx h0 h1 hc => by simp [go_sem, h0, h1, hc]) ?_
  refine wpL_assign (.bool true) rfl (by kernel_rfl) (by kernel_rfl) (by kernel_rfl) (by kernel_rfl) ?_
  refine wpL_end (by kernel_rfl) (fun w9 hw9 => ?_)
  simp only [FinL, setL, List.set_cons_zero, List.set_cons_succ]
  intro u1 _ u2 _ u3 _
  have H9 := Lib.hid (H7.out.later hw9)
  clear hw9 RF CL CT1 CT2 CA CQ CI H7
  go_wp2
  go_ret
  exact ⟨rfl, H9.out.drop2.drop2.drop2⟩
end
end Sto
end Go.Proofs.Ytepbdjgfaljbgaa

end
section
namespace Go.Proofs.Ytepbdjgfaljbgaa
open Go.RowKit Go.Own
namespace Sto
open Go.StoM Byt
/-- what the document's Load leaves -/
def LoadDoneR (B : Nat) (w0 : World) (Ps : List Asn) (row : Asn) (X : Option (List Ch)) (e : Ending) (w' : World) : Prop := match X with
  | some l => ∃ p v, e = .returned (.tuple #[ptr p, errS 0]) ∧ Own.St B w0 w' (ARef p v l :: row :: Ps)
  | none => e = .returned (.tuple #[.pointer none, errS 1]) ∧ Own.St B w0 w' (row :: Ps)
section
variable {B : Nat} {w0 w : World} {Ps : List Asn}
set_option maxRecDepth 10000 in
set_option maxHeartbeats 6400000 in
theorem loadR_any (L : List Ch) (hf : ∀ c ∈ L, Fit c) (ao : Option Addr) (n cap : Nat) (hl : L.length = n) (hn : n ≤ 10000) (H : Own.St B w0 w (ARow 74 37 (.slice ao n cap) n (L.flatMap chC) :: Ps)) :
    Calls Try.prog 30 #[.slice ao n cap] w fun e w' => LoadDoneR B w0 Ps (ARow 74 37 (.slice ao n cap) n (L.flatMap chC)) (loadF [] L) e w' := by
  obtain ⟨X, hX⟩ : ∃ X, X = loadF [] L := ⟨_, rfl⟩
  rw [← hX]
  have HX := Lib.hid hX
  have h1 := H.rowFresh (e := 74) (size := 37)
  have h2 := h1.boxV 103 [.slice none 0 0]
  obtain ⟨p, hp⟩ : ∃ p, p = w.heap.size := ⟨_, rfl⟩
  rw [← hp] at h2
  have h3 : Own.St B w0 (w.alloc (.cells #[.slice none 0 0] 103)) (ARef p (.slice none 0 0) [] :: ARow 74 37 (.slice ao n cap) n (L.flatMap chC) :: Ps) := ref_close h2
  have H3 := Lib.hid h3
  have EP := hp.symm
  have HF := Lib.hid hf
  have HL := Lib.hid hl
  clear h1 h2 h3 hp H hf hl hX
  go_enter Try.func30, Try.ntmps30
  go_wp2
  go_loopw [5] (fun v5 wr => ∃ (i : Nat) (acc : List Ch) (v : Value), i ≤ n ∧ v5 = .int .i64 (i : Int) ∧ X = loadF acc (L.drop i) ∧ Ok acc ∧ acc.length ≤ i ∧ Own.St B w0 wr (ARef p v acc :: ARow 74 37 (.slice ao n cap) n (L.flatMap chC) :: Ps)) (fun v5 _ => n - (intOf v5).toNat)
  case atStart => exact ⟨0, [], _, Nat.zero_le _, rfl, HX.out, ok_nil, Nat.le_refl _, H3.out⟩
  case round =>
    obtain ⟨i, acc, v, hin, rfl, hx, hok, hai, hst⟩ := hrel
    have H := Lib.hid hst
    have XI := Lib.hid hx
    have OK := Lib.hid hok
    clear hst hx hok H3
    by_cases hi : (i : Int) < (n : Int)
    · have hin2 : i < n := by omega
      have hil : i < L.length := by rw [HL.out]; exact hin2
      obtain ⟨g, hg, _⟩ := H.out.rowAt 1 rfl (i * 37) (by omega)
      subst hg
      obtain ⟨d, hdd⟩ : ∃ d, d = L[i] := ⟨_, rfl⟩
      have hd : L[i]? = some d := by rw [hdd]; exact List.getElem?_eq_getElem hil
      have hfd := HF.out d (List.mem_of_getElem? hd)
      have FD := Lib.hid hfd
      obtain ⟨cs, hcs⟩ : ∃ x, x = chC d := ⟨_, rfl⟩
      have CL : Hid (cs.length = 37) := by show _ = _; rw [hcs]; exact chC_len hfd.key
      obtain ⟨kc, hkc⟩ : ∃ x, x = kC d.key := ⟨_, rfl⟩
      have KL : Hid (kc.length = 33) := by show _ = _; rw [hkc]; exact kC_len hfd.key
      obtain ⟨r, hr⟩ : ∃ r, r = d.refs := ⟨_, rfl⟩
      have RG : Hid (∀ wx, Own.St B w0 wx (ARef p v acc :: ARow 74 37 (.slice (some ⟨g, 0, none⟩) n cap) n (L.flatMap chC) :: Ps) → wx.rangeAt g (i * 37) cs ∧ wx.rangeAt g (i * 37) kc ∧ wx.cell? ⟨g, i * 37 + 36, none⟩ = some (.int .i64 r)) := fun wx h => by
        have q := row_range h 1 rfl HF.out HL.out hd
        refine ⟨by rw [hcs]; exact q, fun j u hu => q j u (chC_key hfd.key j u (by rw [← hkc]; exact hu)), by rw [hr]; exact q 36 _ (chC_rest hfd.key 3)⟩
      obtain ⟨ps, hps⟩ : ∃ x, x = posK d.key acc := ⟨_, rfl⟩
      have CA : Hid (Calls Try.prog 50 #[ptr p, .agg kc.toArray] wr fun e w' => e = .returned (.tuple #[.int .i64 (ps : Int), .bool (isAt acc d.key)]) ∧ Below wr.heap.size wr w') := by
        rw [hkc, hps]
        exact atR_any H.out OK.out (by omega) hfd.key
      have CP : Hid (∀ {Q : List Asn} (wx : World), Own.St B w0 wx (ARef p v acc :: Q) → Calls Try.prog 51 #[ptr p, .int .i64 (ps : Int), .agg cs.toArray] wx fun e w' => e = .returned (.tuple #[]) ∧ ∃ v', Own.St B w0 w' (ARef p v' (putAt acc ps d) :: Q)) := by
        rw [hcs]
        exact fun {Q} wx h => putR_any h OK.out.fit (by omega) (by rw [hps]; exact pos_le _ acc) hfd
      have DR : Hid (L.drop i = d :: L.drop (i + 1)) := by show _ = _; rw [hdd]; exact List.drop_eq_getElem_cons hil
      have RGA := RG.out wr H.out
      have RK := Lib.hid RGA.2.1
      have XN : Hid (isAt acc d.key = true ∨ r < 1 → X = none) := by
        intro h
        have h1 := XI.out
        rw [DR.out] at h1
        unfold loadF at h1
        have ht : (isAt acc d.key || decide (d.refs < 1)) = true := by
          rcases h with h | h
          · rw [h, Bool.true_or]
          · rw [← hr, decide_eq_true h, Bool.or_true]
        rw [if_pos ht] at h1
        exact h1
      have XS : Hid (isAt acc d.key = false → 1 ≤ r → X = loadF (putAt acc ps d) (L.drop (i + 1)) ∧ Ok (putAt acc ps d) ∧ (putAt acc ps d).length ≤ i + 1) := by
        intro h h2
        have h1 := XI.out
        rw [DR.out] at h1
        unfold loadF at h1
        rw [if_neg (by rw [h, ← hr]; simp; omega), putS_new h, ← hps] at h1
        have h3 := ok_put OK.out hfd
        rw [putS_new h, ← hps] at h3
        have h4 := putS_len acc d
        rw [h, putS_new h, ← hps] at h4
        exact ⟨h1, h3, by rw [h4]; simp; omega⟩
      clear hdd hd hfd hcs hkc hr hps hil RGA
      cases his : isAt acc d.key
      · rw [his] at CA
        go_wp2_with (first
          | (refine wpList_val rfl (idx_ch rfl hin2 _ _ rfl rfl) ?_)
          | (refine wpList_val rfl (Rec.load_key kc KL.out rfl _ (b := g) (k := i * 37) RK.out rfl) ?_))
        refine CA.out.mono ?_
        rintro e w2 ⟨rfl, h2⟩
        have H2 := Lib.hid (H.out.later h2)
        have R2 := RG.out w2 H2.out
        have RC := Lib.hid R2.1
        have q36 := R2.2.2
        clear h2 CA H RK R2
        by_cases hr1 : r < 1
        · have hxn := XN.out (.inr hr1)
          subst hxn
          clear his
          go_wp2_with (refine wpList_val rfl (idx_ch rfl hin2 _ _ rfl rfl) ?_)
          go_ret2
          exact ⟨rfl, H2.out.drop 1⟩
        · obtain ⟨hx2, hok2, hl2⟩ := XS.out his (by omega)
          have X2 := Lib.hid hx2
          have OK2 := Lib.hid hok2
          have L2 := Lib.hid hl2
          have hr2 : ¬ r < 1 := hr1
          clear hx2 hok2 hl2 his hr1
          go_wp2_with (first
            | (refine wpList_val rfl (idx_ch rfl hin2 _ _ rfl rfl) ?_)
            | (refine wpList_val rfl (load_ch cs CL.out rfl _ (b := g) (k := i * 37) RC.out rfl) ?_))
          refine (CP.out _ H2.out).mono ?_
          rintro e w4 ⟨rfl, v', h4⟩
          have H4 := Lib.hid h4
          clear h4 CP H2 RC
          go_wp2_with (fail)
          go_roundw
          case rel => exact ⟨i + 1, _, v', by omega, by go_num, X2.out, OK2.out, L2.out, H4.out⟩
          case measure => simp [intOf]; omega
      · rw [his] at CA
        have hxn := XN.out (.inl his)
        subst hxn
        clear his
        go_wp2_with (first
          | (refine wpList_val rfl (idx_ch rfl hin2 _ _ rfl rfl) ?_)
          | (refine wpList_val rfl (Rec.load_key kc KL.out rfl _ (b := g) (k := i * 37) RK.out rfl) ?_))
        refine CA.out.mono ?_
        rintro e w2 ⟨rfl, h2⟩
        have H2 := Lib.hid (H.out.later h2)
        clear h2 CA H RK
        go_wp2_with (fail)
        go_ret2
        exact ⟨rfl, H2.out.drop 1⟩
    · have hi2 : i = n := by omega
      subst hi2
      have EX : Hid (X = some acc) := by show _ = _; rw [XI.out, List.drop_of_length_le (by rw [HL.out]; exact Nat.le_refl _)]; rfl
      go_wp2_with (fail)
      go_ret2
      rw [EX.out]
      exact ⟨p, v, rfl, H.out⟩
end
end Sto
end Go.Proofs.Ytepbdjgfaljbgaa

end
section
namespace Go.Proofs.Ytepbdjgfaljbgaa
open Go.RowKit Go.Own Go.Maps
namespace Sto
open Go.StoM Byt
abbrev inCh : InT Ch := inE chC Fit
theorem opens_ch : Opens Try.prog 74 inCh := by
  intro H enc w fuel cs x h
  obtain ⟨hl, hf⟩ := opens_fields (P := Try.prog) Try.underlying74 h
  rw [show Try.prog.cellsOf 74 = 37 by kernel_rfl] at hl
  obtain ⟨n0, y0, h0⟩ := hf 0 _ rfl
  obtain ⟨n1, y1, h1⟩ := hf 1 _ rfl
  obtain ⟨n2, y2, h2⟩ := hf 2 _ rfl
  obtain ⟨k, e0, w0⟩ := opens_ky H enc w n0 _ y0 h0
  obtain ⟨p, e1, w1⟩ := opens_pl H enc w n1 _ y1 h1
  obtain ⟨r, e2, w2⟩ := opens_int (P := Try.prog) Try.underlying3 H enc w n2 _ y2 h2
  have k0 : Try.prog.cellsOf 36 = 33 := by kernel_rfl
  have k1 : Try.prog.cellsOf 72 = 3 := by kernel_rfl
  have k2 : Try.prog.cellsOf 3 = 1 := by kernel_rfl
  have e0' : cs.take 33 = kC k := by simpa [k0] using e0
  have e1' : (cs.drop 33).take 3 = pC p := by simpa [k1] using e1
  have e2' : (cs.drop 36).take 1 = [.int .i64 r] := by simpa [k2] using e2
  refine ⟨⟨k, p, r⟩, ?_, ⟨w0, w1, wfI w2⟩⟩
  show cs = kC k ++ [iS p.seg, iS p.page, iS p.pages, iS r]
  rw [List.take_of_length_le (by simp [hl])] at e2'
  have e3 : [iS p.seg, iS p.page, iS p.pages, iS r] = pC p ++ [.int .i64 r] := rfl
  rw [e3, ← e0', ← e1', ← e2', show cs.drop 36 = (cs.drop 33).drop 3 by rw [List.drop_drop], List.take_append_drop, List.take_append_drop]
theorem loadF_ok : ∀ (r acc S : List Ch), Ok acc → (∀ c ∈ r, Fit c) → loadF acc r = some S → Ok S ∧ S.length ≤ acc.length + r.length
  | [], acc, S, ok, _, h => by
    cases h
    exact ⟨ok, by simp⟩
  | c :: r, acc, S, ok, hf, h => by
    unfold loadF at h
    split at h
    · cases h
    · have h2 := loadF_ok r (putS acc c) S (ok_put ok (hf c (List.mem_cons_self ..))) (fun d hd => hf d (List.mem_cons_of_mem _ hd)) h
      refine ⟨h2.1, ?_⟩
      have h3 := putS_len acc c
      have h4 := h2.2
      rw [h3] at h4
      simp only [List.length_cons]
      split at h4 <;> omega
set_option maxRecDepth 10000 in
set_option maxHeartbeats 12800000 in
theorem walk_loads (a0 : Option Addr) (len0 cap0 : Nat) (l : List Ch) (k : Ky) (hk : FitK k) (seg : Int) (hs : i64S seg) {w : World} (w0 : inSlice 37 inCh l w.heap.size w [.slice a0 len0 cap0]) :
    Calls Try.prog 9 #[.slice a0 len0 cap0, kV k, iS seg] w (RetYes w) := by
  obtain ⟨hlen, hcap, hmax, hnil, hat⟩ := acts_inF (c := 37) (fun a fa => chC_len fa.key) w0
  obtain ⟨m, hm⟩ : ∃ m, m = min len0 200 := ⟨_, rfl⟩
  have hml : m ≤ len0 := by omega
  have hm2 : m ≤ 200 := by omega
  have hmin : ∀ wx, (Builtin.min_ #[3, 3] 3 #[.int .i64 (len0 : Int), .int .i64 200]).run Try.prog wx = .ok (.int .i64 (m : Int)) wx := by
    intro wx
    rw [show (m : Int) = min (len0 : Int) 200 by omega]
    simp [Builtin.min_, Builtin.min2, go_sem]
    try omega
  obtain ⟨L, hL⟩ : ∃ L, L = l.take m := ⟨_, rfl⟩
  have hLl : L.length = m := by rw [hL, List.length_take]; omega
  have LL := Lib.hid hLl
  have hfit : ∀ c ∈ L, Fit c := by
    intro c hc
    rw [hL] at hc
    obtain ⟨i, hi, rfl⟩ := List.mem_iff_getElem.1 (List.mem_of_mem_take hc)
    obtain ⟨b, o, _, _, q⟩ := hat (by intro e; rw [e] at hi; exact absurd hi (Nat.not_lt_zero _))
    exact (q w (fun _ _ => rfl) i hi).2
  have LF := Lib.hid hfit
  have HNO : Hid (a0 = none → len0 = 0 ∧ cap0 = 0) := fun h => ⟨by have := hnil h; omega, hnil h⟩
  have SRC : Hid (∀ wx, Below w.heap.size w wx → ∀ a, a0 = some a → ∀ j u, (L.flatMap chC)[j]? = some u → wx.cell? (a.add j) = some u) := by
    intro wx hwx a ha j u hu
    have hj := (List.getElem?_eq_some_iff.1 hu).1
    rw [flat_length chC 37 L (fun c hc => chC_len (hfit c hc).key)] at hj
    have hi : j / 37 < L.length := by omega
    have hil : j / 37 < l.length := by omega
    obtain ⟨b, o, hbo, hb, q⟩ := hat (by intro e; rw [e] at hil; exact absurd hil (Nat.not_lt_zero _))
    rw [ha] at hbo
    cases hbo
    have h1 := (q wx (fun k hk => hwx.block k hk) (j / 37) hil).1
    have e1 : L[j / 37]? = some l[j / 37] := by rw [hL, List.getElem?_take, if_pos (by omega)]; exact List.getElem?_eq_getElem hil
    have h2 := flat_at chC 37 L (fun c hc => chC_len (hfit c hc).key) (j / 37) _ e1 (j % 37) (by omega)
    rw [show j / 37 * 37 + j % 37 = j by omega, hu] at h2
    have h3 := h1 (j % 37) u h2.symm
    rw [add_of]
    rw [show o + j = o + j / 37 * 37 + j % 37 by omega]
    exact h3
  have HX3 := Lib.hid hmax
  obtain ⟨kc, hkc⟩ : ∃ x, x = kC k := ⟨_, rfl⟩
  have KL : Hid (kc.length = 33) := by show _ = _; rw [hkc]; exact kC_len hk
  have hb0 := (Own.St.start w).boxV 36 kc
  obtain ⟨b4, hb4⟩ : ∃ b, b = w.heap.size := ⟨_, rfl⟩
  obtain ⟨W1, hW1⟩ : ∃ W, W = w.alloc (.cells kc.toArray 36) := ⟨_, rfl⟩
  have hb1 : Own.St w.heap.size w W1 [AVals b4 36 kc] := by rw [hb4, hW1]; exact hb0
  have H1 := Lib.hid hb1
  have E1 := hW1.symm
  have EB : w.heap.size = b4 := hb4.symm
  have HBW := Lib.hid hb4
  have SH := Lib.hid (shown_any W1)
  have CK0 : Hid (∀ {p q : Nat} {v : Value} {S : List Ch} {Q : List Asn}, Ok S → S.length ≤ 100000 → ∀ (wx : World), Own.St w.heap.size w wx (AS p S :: ARef q v S :: Q) → Calls Try.prog 31 #[ptr p, ptr q, .agg kc.toArray, .int .i64 seg] wx fun e w' => e = .returned (.bool true) ∧ Own.St w.heap.size w w' (AS p S :: ARef q v S :: Q)) := by
    rw [hkc]
    exact fun {p q v S Q} h1 h2 wx h => alike_any h h1 h2 hk seg hs
  have CO : Hid (∀ u ∈ L.flatMap chC, u.oneCell' = true) := flat_one L
  have FLL : Hid ((L.flatMap chC).length = m * 37) := by show _ = _; rw [flat_length chC 37 L (fun c hc => chC_len (hfit c hc).key), hLl]
  show Calls Try.prog _ #[_, .agg (kC k).toArray, _] w _
  rw [← hkc]
  clear hlen hmax hnil hat hm hL hLl hfit hkc hb0 hb1 hb4 hW1 w0 hk hs EB
  go_enter Try.func9, Try.ntmps9
  go_wp2_with (fail)
  refine SH.out.mono ?_
  rintro e wa ⟨rfl, h1⟩
  have H2 := Lib.hid (H1.out.later h1)
  clear h1 SH H1
  have he := H2.out.emptyRow 74 37
  have HEM := Lib.hid he
  have SC := Lib.hid (SRC.out _ he.below)
  clear he SRC
  go_wp2_with (first
    | (refine wpList_val rfl (cutToC a0 len0 cap0 m hml hcap HX3.out HNO.out _ _ _ rfl _ _ rfl rfl) ?_)
    | (at_builtin; refine wpList_many_append many_ch rfl (.tmp 15) (.tmp 20) rfl HEM.out 0 rfl rfl a0 m cap0 (L.flatMap chC) rfl (by intro h; have := HNO.out h; omega) FLL.out SC.out CO.out (by omega) (by decide) ?_; intro ao2 ca w3 h3; simp only [List.set_cons_zero, Nat.zero_add, List.nil_append] at h3 ⊢; have H3 := Lib.hid h3; clear h3))
  refine (load_any L LF.out ao2 m ca LL.out (by omega) H3.out).mono ?_
  intro e w4 hd
  obtain ⟨X, hX⟩ : ∃ X, X = loadF [] L := ⟨_, rfl⟩
  have HX := Lib.hid hX
  rw [← hX] at hd
  clear hX hmin SC HEM H2
  cases X with
  | none =>
    obtain ⟨rfl, h4⟩ := hd
    have H4 := Lib.hid h4
    clear h4 H3
    go_wp2_with (fail)
    refine (loadR_any L LF.out ao2 m ca LL.out (by omega) H4.out).mono ?_
    intro e w5 hd
    rw [← HX.out] at hd
    obtain ⟨rfl, h5⟩ := hd
    have H8 := Lib.hid h5
    clear h5 H4
    go_wp2_with (fail)
    go_loopw [34] (fun v34 wr => ∃ (i : Nat) (L' : List Ch), i ≤ m ∧ v34 = .int .i64 (i : Int) ∧ L'.length = m ∧ (∀ c ∈ L', Fit c) ∧ Own.St w.heap.size w wr (ARow 74 37 (.slice ao2 m ca) m (L'.flatMap chC) :: [AVals b4 36 kc])) (fun v34 _ => m - (intOf v34).toNat)
    case atStart => exact ⟨0, L, Nat.zero_le _, rfl, LL.out, LF.out, H8.out⟩
    case round =>
      obtain ⟨i, L', him, rfl, hl', hf', hst⟩ := hrel
      have H := Lib.hid hst
      have HL' := Lib.hid hl'
      have HF' := Lib.hid hf'
      clear hst hl' hf' H8
      by_cases hi : (i : Int) < (m : Int)
      · have hin2 : i < m := by omega
        obtain ⟨g, hg, _⟩ := H.out.rowAt 0 rfl (i * 37) (by omega)
        subst hg
        obtain ⟨d, hd⟩ : ∃ d, L'[i]? = some d := ⟨_, List.getElem?_eq_getElem (by rw [HL'.out]; exact hin2)⟩
        have hw := row_refs H.out 0 rfl HF'.out HL'.out hd
        obtain ⟨q0, q1, hq⟩ := hw
        have H9 := Lib.hid (hq 99)
        have hfd := HF'.out d (List.mem_of_getElem? hd)
        have FN : Hid (∀ c ∈ L'.set i (wR d 99), Fit c) := fun c hc => by
          rcases List.mem_or_eq_of_mem_set hc with h | h
          · exact HF'.out c h
          · rw [h]; exact ⟨hfd.key, hfd.place, ⟨by show (-9223372036854775808 : Int) ≤ 99; decide, by show (99 : Int) ≤ 9223372036854775807; decide⟩⟩
        have LN : Hid ((L'.set i (wR d 99)).length = m) := by show _ = _; rw [List.length_set]; exact HL'.out
        clear hq hd hfd H
        go_wp2_with (refine wpList_val rfl (idx_ch rfl hin2 _ _ rfl rfl) ?_)
        go_roundw
        case rel => exact ⟨i + 1, _, by omega, by go_num, LN.out, FN.out, H9.out⟩
        case measure => simp [intOf]; omega
      · have hi2 : i = m := by omega
        subst hi2
        go_wp2_with (fail)
        go_ret
        exact ⟨rfl, H.out.below⟩
  | some S =>
    obtain ⟨p, rfl, h4⟩ := hd
    have H4 := Lib.hid (h4.front 1 rfl)
    clear h4 H3
    have hok := loadF_ok L [] S ok_nil LF.out HX.out.symm
    have hsl : S.length ≤ 100000 := by have := hok.2; rw [LL.out] at this; simp at this; omega
    have CK : Hid (∀ {q : Nat} {v : Value} {Q : List Asn} (wx : World), Own.St w.heap.size w wx (AS p S :: ARef q v S :: Q) → Calls Try.prog 31 #[ptr p, ptr q, .agg kc.toArray, .int .i64 seg] wx fun e w' => e = .returned (.bool true) ∧ Own.St w.heap.size w w' (AS p S :: ARef q v S :: Q)) := fun wx h => CK0.out hok.1 hsl wx h
    clear hsl
    clear hok CK0
    go_wp2_with (fail)
    refine (loadR_any L LF.out ao2 m ca LL.out (by omega) H4.out).mono ?_
    intro e w5 hd
    rw [← HX.out] at hd
    obtain ⟨q, v, rfl, h5⟩ := hd
    have h6 := (h5.front 2 rfl).front 2 rfl
    have H8 := Lib.hid h6
    clear h5 h6 H4
    go_wp2_with (fail)
    go_loopw [34] (fun v34 wr => ∃ (i : Nat) (L' : List Ch), i ≤ m ∧ v34 = .int .i64 (i : Int) ∧ L'.length = m ∧ (∀ c ∈ L', Fit c) ∧ Own.St w.heap.size w wr (ARow 74 37 (.slice ao2 m ca) m (L'.flatMap chC) :: AS p S :: ARef q v S :: [AVals b4 36 kc])) (fun v34 _ => m - (intOf v34).toNat)
    case atStart => exact ⟨0, L, Nat.zero_le _, rfl, LL.out, LF.out, H8.out⟩
    case round =>
      obtain ⟨i, L', him, rfl, hl', hf', hst⟩ := hrel
      have H := Lib.hid hst
      have HL' := Lib.hid hl'
      have HF' := Lib.hid hf'
      clear hst hl' hf' H8
      by_cases hi : (i : Int) < (m : Int)
      · have hin2 : i < m := by omega
        obtain ⟨g, hg, _⟩ := H.out.rowAt 0 rfl (i * 37) (by omega)
        subst hg
        obtain ⟨d, hd⟩ : ∃ d, L'[i]? = some d := ⟨_, List.getElem?_eq_getElem (by rw [HL'.out]; exact hin2)⟩
        have hw := row_refs H.out 0 rfl HF'.out HL'.out hd
        obtain ⟨q0, q1, hq⟩ := hw
        have H9 := Lib.hid (hq 99)
        have hfd := HF'.out d (List.mem_of_getElem? hd)
        have FN : Hid (∀ c ∈ L'.set i (wR d 99), Fit c) := fun c hc => by
          rcases List.mem_or_eq_of_mem_set hc with h | h
          · exact HF'.out c h
          · rw [h]; exact ⟨hfd.key, hfd.place, ⟨by show (-9223372036854775808 : Int) ≤ 99; decide, by show (99 : Int) ≤ 9223372036854775807; decide⟩⟩
        have LN : Hid ((L'.set i (wR d 99)).length = m) := by show _ = _; rw [List.length_set]; exact HL'.out
        clear hq hd hfd H
        go_wp2_with (refine wpList_val rfl (idx_ch rfl hin2 _ _ rfl rfl) ?_)
        go_roundw
        case rel => exact ⟨i + 1, _, by omega, by go_num, LN.out, FN.out, H9.out⟩
        case measure => simp [intOf]; omega
      · have hi2 : i = m := by omega
        subst hi2
        have H9 := Lib.hid (H.out.drop 1)
        have RK9 : Hid (wr.rangeAt w.heap.size 0 kc) := by have h := H9.out.boxRange 2 rfl; rw [HBW.out] at h; exact h
        clear H
        go_wp2_with (refine wpList_val rfl (Rec.load_key kc KL.out rfl _ (b := w.heap.size) (k := 0) RK9.out rfl) ?_)
        refine (CK.out _ H9.out).mono ?_
        rintro e w9 ⟨rfl, h⟩
        have HE := Lib.hid h.below
        clear h CK H9 RK9
        go_wp2_with (fail)
        go_ret
        exact ⟨rfl, HE.out⟩
theorem in_loads (a0 : Option Addr) (len0 cap0 : Nat) (l : List Ch) (vk : Array Value) (k : Ky) (seg : Int) (hs : (Lit.int .i64 seg).wf = true) {w : World} (w0 : inSlice 37 inCh l w.heap.size w [.slice a0 len0 cap0]) (hk : inKy k w.heap.size w vk.toList) : Calls Try.prog 9 #[.slice a0 len0 cap0, .agg vk, .int .i64 seg] w (RetYes w) := by
  have ek : vk = (kC k).toArray := by rw [← hk.1]
  rw [ek]
  exact walk_loads a0 len0 cap0 l k hk.2 seg (wfI hs) w0
end Sto
end Go.Proofs.Ytepbdjgfaljbgaa

end
