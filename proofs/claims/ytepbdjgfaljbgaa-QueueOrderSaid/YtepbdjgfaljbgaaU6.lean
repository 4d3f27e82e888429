/- Layer 14, the walks: QueueOrder. -/
import Derived.Test.YtepbdjgfaljbgaaU3
import Derived.Test.YtepbdjgfaljbgaaU4
set_option linter.unusedVariables false
namespace Go.Proofs.Ytepbdjgfaljbgaa
open Go.RowKit Go.Own
namespace Que
open Go.QueM Byt
theorem u32Keyed : Maps.Keyed Try.prog 32 := Maps.int_keyed Try.underlying32
theorem u32_key {a : Nat} (h : a < 4294967296) : keyOf Try.prog 32 (.int .u32 (a : Int)) = some (.int .u32 (a : Int)) :=
  Maps.keyOf_int_mk Try.underlying32 (by simp [Lit.wf, IntKind.min, IntKind.max, IntKind.signed, IntKind.bits]; omega)
/-- the map says of each address which the newest one is -/
def MapI (g : Lit → Value) (I : List Wr) : Prop := ∀ a : Nat, a < 4294967296 → g (.int .u32 (a : Int)) = .int .u64 (lastN I a : Int)
theorem mapI_put {g : Lit → Value} {I : List Wr} (h : MapI g I) (r : Wr) : MapI (putK g (.int .u32 (r.addr : Int)) (.int .u64 ((I.length + 1 : Nat) : Int))) (I ++ [r]) := by
  intro a ha
  rw [lastN_push]
  by_cases e : r.addr = a
  · rw [if_pos e, e, putK_same]
  · rw [if_neg e, putK_other (by intro h; cases h; omega)]
    exact h a ha
abbrev AMapQ (b n : Nat) (g : Lit → Value) : Asn := AMap Try.prog 32 (.int .u64 0) b n g
theorem new_cells (w : World) (F : List Value) (t : TypeId) : ∀ a, some (⟨w.heap.size, 0, none⟩ : Addr) = some a → ∀ j u, F[j]? = some u → (w.alloc (.cells F.toArray t)).cell? (a.add j) = some u := by
  intro a ha j u hu
  cases ha
  rw [add_of, Nat.zero_add]
  exact cell_of_block (heap_alloc_new w _) (by simpa using hu)
theorem row_nilW {B : Nat} {w0 w : World} {Ps : List Asn} (H : Own.St B w0 w Ps) : Own.St B w0 w (RowW (.slice none 0 0) [] 0 :: Ps) :=
  H.new (S' := fun _ => False) (ARow 38 36 (.slice none 0 0) 0 []) (Row.nil _ _ _) ((Step.refl (fun _ => False) w))
theorem add1_int {o : Oper} {t : Tmp} (ho : o.op = .binOp .add 3 (.tmp t) (.const (.int .i64 1)) 3) {k : Nat} (hk : k ≤ 1000000) (ρ : Operand → Value) (w : World) (h0 : ρ (.tmp t) = .int .i64 (k : Int)) (hc : ∀ c, ρ (.const c) = c) : (execOp ρ o).run Try.prog w = .ok (.value (.int .i64 ((k + 1 : Nat) : Int))) w := by
  have e : IntKind.i64.wrap ((k : Int) + 1) = ((k + 1 : Nat) : Int) := by rw [IntWalk.i64_in _ (by omega)]; rfl
  simp [execOp, ho, h0, hc, go_sem, e]
theorem conv_u64 {o : Oper} {t : Tmp} (ho : o.op = .convert 3 27 (.tmp t)) {k : Nat} (hk : k ≤ 1000000) (ρ : Operand → Value) (w : World) (h0 : ρ (.tmp t) = .int .i64 (k : Int)) : (execOp ρ o).run Try.prog w = .ok (.value (.int .u64 (k : Int))) w := by
  have e : IntKind.u64.wrap (k : Int) = (k : Int) := by
    have : IntKind.u64.wrap (k : Int) = (k : Int) % 18446744073709551616 := by simp [IntKind.wrap, IntKind.bits, IntKind.signed]
    rw [this]
    omega
  have h1 := Try.underlying3
  have h2 := Try.underlying27
  simp [execOp, ho, h0, go_sem, h1, h2, e]
/-- l[k:], whatever reads it -/
theorem cutD_wr {w : World} {ao : Option Addr} {m c k : Nat} {xs : List Value} (hk : k ≤ m) (hm : m ≤ c) (hc : c ≤ 9223372036854775807) (hno : ao = none → c = 0) :
    ∃ a' c', (∀ (op : Oper) (x y : Operand), op.op = .slice 28 x (some y) none none → ∀ (ρ : Operand → Value) w, ρ x = .slice ao m c → ρ y = .int .i64 (k : Int) → (execOp ρ op).run Try.prog w = .ok (.value (.slice a' (m - k) c')) w) ∧
      ∀ w, RdWin w (.slice ao m c) m xs → xs.length = m * 36 → RdWin w (.slice a' (m - k) c') (m - k) (xs.drop (k * 36)) := by
  obtain ⟨i, hi, hs⟩ := Option.map_eq_some_iff.1 size_wr
  have hu := Try.underlying28
  have e0 : (0 : Int) ≤ (k : Int) := by omega
  have e1 : (k : Int) ≤ (m : Int) := by omega
  have e2 : (m : Int) ≤ (c : Int) := by omega
  have e3 : ((m : Int) - (k : Int)).toNat = m - k := by omega
  cases ao with
  | none =>
    have := hno rfl
    subst this
    obtain rfl : m = 0 := by omega
    obtain rfl : k = 0 := by omega
    refine ⟨none, 0, fun op x y ho ρ w h0 h1 => by simp [execOp, ho, h0, h1, go_sem, hu], fun w h _ => ⟨none, 0, rfl, .inl rfl⟩⟩
  | some a =>
    by_cases hck : k = c
    · subst hck
      obtain rfl : m = k := by omega
      refine ⟨some a, 0, fun op x y ho ρ w h0 h1 => ?_, fun w h _ => ⟨some a, 0, rfl, .inl (Nat.sub_self _)⟩⟩
      simp [execOp, ho, h0, h1, go_sem, hu]
    · refine ⟨some (a.add (k * 36)), c - k, fun op x y ho ρ w h0 h1 => ?_, fun w h hl => ?_⟩
      · simp [execOp, ho, h0, h1, go_sem, hu, e1]
        omega
      · obtain ⟨ao', c', e, h⟩ := h
        simp only [Value.slice.injEq, true_and] at e
        obtain ⟨rfl, rfl⟩ := e
        refine ⟨_, _, rfl, ?_⟩
        rcases h with h | ⟨g, o, e, hcell⟩
        · exact .inl (by omega)
        · cases e
          refine .inr ⟨g, o + k * 36, by rw [add_of], fun j u hj => ?_⟩
          rw [List.getElem?_drop] at hj
          rw [Nat.add_assoc]
          exact hcell _ u hj
section
variable {W w : World} {Ps : List Asn} {p k : Nat} {v : Value} {q q' : Q} {N : Nat}
set_option maxRecDepth 10000 in
set_option maxHeartbeats 32000000 in
theorem walk_order (a0 : Option Addr) (len0 cap0 : Nat) (l : List ActD) {w : World} (w0 : inSlice 37 inAct l w.heap.size w [.slice a0 len0 cap0]) (K : Kept w) :
    Calls Try.prog 5 #[.slice a0 len0 cap0] w (RetYes w) := by
  obtain ⟨hlen, hcap, hmax, _, hat⟩ := acts_inF (fun a h => act_len h) w0
  have SH := Lib.hid (shown_any K (Below.refl _ _))
  have HF := Lib.hid (few_any a0 len0 cap0 hcap hmax)
  have HAT := Lib.hid hat
  have HLEN := Lib.hid hlen
  have hmax2 : cap0 ≤ 9223372036854775807 := by unfold maxLen at hmax; omega
  clear hat hlen w0 hmax
  go_enter Try.func5, Try.ntmps5
  go_wp2_with (fail)
  refine SH.out.mono ?_
  rintro e w1 ⟨rfl, h1⟩
  have H1 := Lib.hid ((Own.St.start w).later h1)
  clear h1 SH
  go_wp2_with (fail)
  refine (K.new H1.out.below H1.out).mono ?_
  rintro e w2 ⟨p, rfl, h2⟩
  obtain ⟨w3, bm, hmk, h3⟩ := h2.mapMake (P := Try.prog) (kt := 32) (mt := 53) (z := .int .u64 0)
  have h4 := row_nilW (row_nilW h3)
  have h5 := (h4.front 3 rfl)
  simp only [List.eraseIdx_cons_succ, List.eraseIdx_cons_zero] at h5
  have H3 := Lib.hid h5
  clear h2 h3 h4 h5 H1
  go_wp2_with (fail)
  clear hmk
  refine (HF.out w3).mono ?_
  rintro e w4 ⟨rfl, rfl⟩
  obtain ⟨k, hk⟩ : ∃ k, k = min len0 300 := ⟨_, rfl⟩
  rw [← hk]
  have hk1 : k ≤ len0 := by omega
  have hk2 : k ≤ 300 := by omega
  clear hk
  go_wp2_with (fail)
  go_loopw [5, 6, 27] (fun v5 v6 v27 wr => ∃ (i m o nm : Nat) (q : Q) (I : List Wr) (aI aO : Option Addr) (cI cO : Nat) (g : Lit → Value), i ≤ k ∧ m ≤ i ∧ o ≤ m ∧ nm ≤ i ∧ I.length = m ∧ v5 = .slice aI m cI ∧ v6 = .slice aO o cO ∧ v27 = .int .i64 (i : Int) ∧ Own.St w.heap.size w wr [K.A p q, RowW (.slice aI m cI) I m, RowW (.slice aO o cO) (I.take o) o, AMapQ bm nm g] ∧ Ok q i ∧ Hist q I o ∧ MapI g I ∧ ∀ r ∈ I, Fits r) (fun _ _ v27 _ => k - (intOf v27).toNat)
  case atStart => exact ⟨0, 0, 0, 0, newQ, [], none, none, 0, 0, _, Nat.zero_le _, Nat.zero_le _, Nat.zero_le _, Nat.zero_le _, rfl, rfl, rfl, rfl, H3.out, ok_new, hist_new, fun a _ => rfl, fun r h => by simp at h⟩
  case round =>
    obtain ⟨i, m, o, nm, q, I, aI, aO, cI, cO, g, hik, hmi, hom, hnm, hIl, rfl, rfl, rfl, hH, hok, hhi, hmp, hIf⟩ := hrel
    have H := Lib.hid hH
    have OK := Lib.hid hok
    have HH := Lib.hid hhi
    have MP := Lib.hid hmp
    have HIF := Lib.hid hIf
    have HIL := Lib.hid hIl
    clear hH hok hhi hmp hIf hIl H3
    by_cases hi : (i : Int) < (k : Int)
    · have hi300 : i ≤ 300 := by omega
      have hil : i < l.length := by rw [← HLEN.out]; omega
      obtain ⟨b, ob, rfl, hb, hact⟩ := HAT.out (by intro e; rw [e] at hil; simp at hil)
      obtain ⟨a, ha⟩ : ∃ a, a = l[i] := ⟨_, rfl⟩
      obtain ⟨hrng, hfit⟩ := hact wr (fun k hk => H.out.below.block k hk) i hil
      rw [← ha] at hrng hfit
      have HFIT := Lib.hid hfit
      obtain ⟨vs, hvs⟩ : ∃ vs, vs = actVs a := ⟨_, rfl⟩
      rw [← hvs] at hrng
      have HRNG := Lib.hid hrng
      have VL : Hid (vs.length = 37) := by show _ = 37; rw [hvs]; exact act_len hfit
      have VO : Hid (∀ u ∈ vs, u.oneCell' = true) := by rw [hvs]; exact act_one a
      have IA : Hid ((Try.prog.info? 40).map (·.size) = some vs.length) := by show _ = _; rw [VL.out]; exact boxy_act.size
      obtain ⟨ad, had⟩ : ∃ x, x = a.w.addr := ⟨_, rfl⟩
      have hadl : ad < 4294967296 := by rw [had]; exact hfit.addr
      obtain ⟨cw, hcw⟩ : ∃ c, c = wrC a.w := ⟨_, rfl⟩
      have CWL : Hid (cw.length = 36) := by show _ = 36; rw [hcw]; exact wrC_len _ hfit.sum
      have CWR : Hid (∀ (wx : World) (b7 : Nat), wx.rangeAt b7 0 vs → wx.rangeAt b7 1 cw) := by
        intro wx b7 h j u hu
        have := h (j + 1) u (by rw [hvs]; rw [hcw] at hu; exact hu)
        rw [Nat.zero_add, Nat.add_comm] at this
        exact this
      have HVS := Lib.hid hvs
      have V1 : Hid (vs[1]? = some (.int .u32 (ad : Int))) := by show _ = _; rw [hvs, had]; rfl
      have HCW := Lib.hid hcw
      rcases act_case a with hout | hout
      all_goals
        have V0 : Hid (vs[0]? = some (.bool a.out)) := by show _ = _; rw [hvs]; rfl
        rw [hout] at V0
        have hdo : doAct q a = if a.out then pop q else push q a.w := rfl
        rw [hout] at hdo
        have HDO := Lib.hid hdo
        have OK2 := Lib.hid (ok_act OK.out a hfit)
        clear hact hrng hfit ha hvs hil had hcw hout hdo
      · skip
        go_wp2_with (first
          | (refine wpList_load_mid rfl 40 (.tmp 29) rfl b (ob + i * 37) rfl vs _ HRNG.out Try.underlying40 rfl IA.out ?_)
          | (refine wpList_box2 boxy_act rfl rfl rfl (.tmp 9) (.tmp 30) rfl rfl vs (fun _ => rfl) (fun _ => rfl) VL.out VO.out H.out ?_; intro b7 w5 h; have H5 := Lib.hid h; have d0 := (h.cellV 0 rfl 0 V0.out).1; clear h)
          | (refine wpList_val rfl (load_wr cw CWL.out rfl _ (b := b7) (k := 1) (CWR.out _ _ (H5.out.boxRange 0 rfl)) rfl) ?_))
        clear H HRNG
        obtain ⟨F, hF⟩ : ∃ F, F = wrC (frontW q) := ⟨_, rfl⟩
        obtain ⟨is, his⟩ : ∃ b, b = isW q := ⟨_, rfl⟩
        have FL : Hid (F.length = 36) := by show _ = 36; rw [hF]; exact wrC_len _ (front_fits OK.out).sum
        have FL1 : Hid (F.length = 1 * 36) := FL.out
        have FO : Hid (∀ u ∈ F, u.oneCell' = true) := by rw [hF]; exact wrC_one _
        have BSF : Hid (∀ wx, (Instr.buildSlice 28 1 #[(0, .agg F.toArray)]).run Try.prog wx = .ok (.slice (some ⟨wx.heap.size, 0, none⟩) 1 1) (wx.alloc (.cells F.toArray 38))) := fun wx => run_slot_one Try.underlying28 slot_wr F FL.out wx
        have P1 := Lib.hid (pop_lit K (Below.refl _ _) (Nat.le_refl _) (H5.out.front 1 rfl) OK.out (by omega) (b := is) (q' := pop q) his.symm rfl hF)
        have HFF := Lib.hid hF
        have HIS := Lib.hid his
        clear hF his d0
        refine P1.out.mono ?_
        clear P1 H5
        rintro e w6 ⟨rfl, h⟩
        have H6 := Lib.hid h
        clear h
        have OKP : Hid (Ok (pop q) (i + 1)) := by have h := OK2.out; rw [HDO.out] at h; exact h
        by_cases ho : o < m
        · have hp := hist_pop HH.out (by rw [HIL.out]; exact ho)
          have his : is = true := by rw [HIS.out]; exact hp.2.2
          subst his
          have ho' : (o : Int) < (m : Int) := by omega
          have EF : Hid ((I.take o).flatMap wrC ++ F = (I.take (o + 1)).flatMap wrC) := by
            show _ = _
            rw [HFF.out, hp.2.1, List.take_add_one, at_get (show o < I.length by rw [HIL.out]; exact ho), List.flatMap_append]
            simp
          obtain ⟨q2, hq2⟩ : ∃ x, x = pop q := ⟨_, rfl⟩
          obtain ⟨o2, ho2⟩ : ∃ x, x = o + 1 := ⟨_, rfl⟩
          have HHT : Hid (Hist q2 I o2) := by rw [hq2, ho2]; exact hp.1
          have OKT : Hid (Ok q2 (i + 1)) := by rw [hq2]; exact OKP.out
          have hom2 : o2 ≤ m := by omega
          have HO2 := Lib.hid ho2
          have HQ2 := Lib.hid hq2
          clear hp hq2 ho2
          go_wp2_with (first
            | (refine wpList_box2 boxy_wr rfl rfl rfl (.tmp 10) (.tmp 36) rfl rfl F (fun _ => rfl) (fun _ => rfl) FL.out FO.out H6.out ?_; intro b10 w7 h; have H7 := Lib.hid h; clear h)
            | (refine wpList_val rfl (load_wr F FL.out rfl _ (b := b10) (k := 0) (H7.out.boxRange 0 rfl) rfl) ?_)
            | (refine wpList_slot_one rfl 28 (.tmp 47) rfl F 38 rfl (BSF.out _) ?_)
            | (at_builtin; refine wpList_many_append many_wr rfl (.tmp 46) (.tmp 48) rfl (H7.out.alloc (.cells F.toArray 38)) 4 rfl rfl (some ⟨_, 0, none⟩) 1 1 F rfl (by intro h; cases h) FL1.out (new_cells _ _ _) FO.out (by omega) (by decide) ?_; intro aO2 cO2 w9 h; simp only [List.set_cons_succ] at h; rw [EF.out] at h; rw [← HO2.out] at h; have H9 := Lib.hid (h.drop 1); have d1 := (h.cellV 2 rfl 1 V1.out).1; clear h))
          rw [← HO2.out]
          have HT : Hid (Own.St w.heap.size w w9 [K.A p q2, AVals b7 40 vs, RowW (.slice aI m cI) I m, RowW (.slice aO2 o2 cO2) (I.take o2) o2, AMapQ bm nm g]) := by rw [HQ2.out]; exact H9.out
          clear H6 H7 H9 ho ho' EF HFF HIS HQ2
          obtain ⟨cl, hcl⟩ : ∃ c, c = wrC (lastW q2 ad) := ⟨_, rfl⟩
          obtain ⟨lb, hlb⟩ : ∃ c, c = isLast q2 ad := ⟨_, rfl⟩
          obtain ⟨nl, hnl⟩ : ∃ c, c = lastN I ad := ⟨_, rfl⟩
          have hhl := hist_last HHT.out ad
          rw [← hnl, ← hlb] at hhl
          have CLL : Hid (cl.length = 36) := by show _ = 36; rw [hcl]; exact wrC_len _ (last_fits OKT.out ad).sum
          have CLO : Hid (∀ u ∈ cl, u.oneCell' = true) := by rw [hcl]; exact wrC_one _
          have LA := Lib.hid (last_lit K (Below.refl _ _) (Nat.le_refl _) HT.out OKT.out (by omega) ad hadl (b := lb) hlb.symm hcl)
          have hnl3 : nl ≤ m := by rw [hnl, ← HIL.out]; exact lastF_le I ad _
          have LK : Hid (∀ wx Qs, Own.St w.heap.size w wx Qs → Qs[5]? = some (AMapQ bm nm g) → (Instr.lookup 53 (.map (some bm)) (.int .u32 (ad : Int)) false).run Try.prog wx = .ok (.int .u64 (nl : Int)) wx) := by
            intro wx Qs h hi
            have h2 := h.mapLook 5 hi u32Keyed (mt := 53) Try.underlying53 (fun w => by kernel_rfl) (u32_key hadl)
            rw [MP.out ad hadl, ← hnl] at h2
            exact h2
          have SQ : Hid (lb = true → cl[1]? = some (.int .u64 (nl : Int))) := by
            intro h
            rw [hcl, ← hhl.2 h]
            rfl
          have hcase : (lb = true ∧ 0 < nl ∧ o2 < nl) ∨ (lb = false ∧ nl = 0) ∨ (lb = false ∧ 0 < nl ∧ ¬ o2 < nl) := by
            rw [hhl.1]
            by_cases h : o2 < nl
            · exact .inl ⟨decide_eq_true h, by omega, h⟩
            · by_cases h0 : nl = 0
              · exact .inr (.inl ⟨decide_eq_false h, h0⟩)
              · exact .inr (.inr ⟨decide_eq_false h, by omega, h⟩)
          clear hcl hlb hnl hhl
          have hol : o2 ≤ 300 := by omega
          refine LA.out.mono ?_
          clear LA d1
          rintro e wl ⟨rfl, h⟩
          have HU := Lib.hid h
          clear h HT
          have pp := trivial
          rcases hcase with ⟨rfl, hn1, hn2⟩ | ⟨rfl, rfl⟩ | ⟨rfl, hn1, hn2⟩
          · have sq := SQ.out rfl
            have hn1' : (nl : Int) > 0 := by omega
            have hn2' : (nl : Int) > (o2 : Int) := by omega
            go_wp2_with (first
              | (refine wpList_box2 boxy_wr rfl rfl rfl (.tmp 14) (.tmp 78) rfl rfl cl (fun _ => rfl) (fun _ => rfl) CLL.out CLO.out HU.out ?_; intro b14 wv h; have HV := Lib.hid h; have d1 := (h.cellV 2 rfl 1 V1.out).1; have e1 := (h.cellV 0 rfl 1 sq).1; clear h)
              | (refine wpList_val rfl (look_exec rfl (LK.out _ _ HV.out rfl) _ rfl rfl) ?_))
            go_roundw
            case rel =>
              have h := HV.out.front 2 rfl
              simp only [List.eraseIdx_cons_succ, List.eraseIdx_cons_zero] at h
              exact ⟨i + 1, m, o2, nm, q2, I, aI, aO2, cI, cO2, g, by omega, by omega, by omega, by omega, HIL.out, by first | rfl | rw [HM2.out], by first | rfl | rw [HO2.out], by go_num, h.drop 2, OKT.out, HHT.out, MP.out, HIF.out⟩
            case measure => simp [intOf]; omega
          · go_wp2_with (first
              | (refine wpList_box2 boxy_wr rfl rfl rfl (.tmp 14) (.tmp 78) rfl rfl cl (fun _ => rfl) (fun _ => rfl) CLL.out CLO.out HU.out ?_; intro b14 wv h; have HV := Lib.hid h; have d1 := (h.cellV 2 rfl 1 V1.out).1; clear h)
              | (refine wpList_val rfl (look_exec rfl (LK.out _ _ HV.out rfl) _ rfl rfl) ?_))
            go_roundw
            case rel =>
              have h := HV.out.front 2 rfl
              simp only [List.eraseIdx_cons_succ, List.eraseIdx_cons_zero] at h
              exact ⟨i + 1, m, o2, nm, q2, I, aI, aO2, cI, cO2, g, by omega, by omega, by omega, by omega, HIL.out, by first | rfl | rw [HM2.out], by first | rfl | rw [HO2.out], by go_num, h.drop 2, OKT.out, HHT.out, MP.out, HIF.out⟩
            case measure => simp [intOf]; omega
          · have hn1' : (nl : Int) > 0 := by omega
            have hn2' : ¬ (nl : Int) > (o2 : Int) := by omega
            go_wp2_with (first
              | (refine wpList_box2 boxy_wr rfl rfl rfl (.tmp 14) (.tmp 78) rfl rfl cl (fun _ => rfl) (fun _ => rfl) CLL.out CLO.out HU.out ?_; intro b14 wv h; have HV := Lib.hid h; have d1 := (h.cellV 2 rfl 1 V1.out).1; clear h)
              | (refine wpList_val rfl (look_exec rfl (LK.out _ _ HV.out rfl) _ rfl rfl) ?_))
            go_roundw
            case rel =>
              have h := HV.out.front 2 rfl
              simp only [List.eraseIdx_cons_succ, List.eraseIdx_cons_zero] at h
              exact ⟨i + 1, m, o2, nm, q2, I, aI, aO2, cI, cO2, g, by omega, by omega, by omega, by omega, HIL.out, by first | rfl | rw [HM2.out], by first | rfl | rw [HO2.out], by go_num, h.drop 2, OKT.out, HHT.out, MP.out, HIF.out⟩
            case measure => simp [intOf]; omega
        · have hp := hist_none HH.out (by rw [HIL.out]; exact ho)
          have his : is = false := by rw [HIS.out]; exact hp.2
          subst his
          have ho' : ¬ (o : Int) < (m : Int) := by omega
          have HQE := Lib.hid hp.1
          clear hp
          have OKT : Hid (Ok q (i + 1)) := by have h := OKP.out; rw [HQE.out] at h; exact h
          go_wp2_with (first
            | (refine wpList_box2 boxy_wr rfl rfl rfl (.tmp 10) (.tmp 36) rfl rfl F (fun _ => rfl) (fun _ => rfl) FL.out FO.out H6.out ?_; intro b10 w7 h; have H7 := Lib.hid h; have d1 := (h.cellV 2 rfl 1 V1.out).1; clear h))
          have HT : Hid (Own.St w.heap.size w w7 [K.A p q, AVals b7 40 vs, RowW (.slice aI m cI) I m, RowW (.slice aO o cO) (I.take o) o, AMapQ bm nm g]) := by
            have h := H7.out.drop 1
            rw [HQE.out] at h
            exact h
          clear H6 H7 ho ho' HFF HIS HQE
          obtain ⟨cl, hcl⟩ : ∃ c, c = wrC (lastW q ad) := ⟨_, rfl⟩
          obtain ⟨lb, hlb⟩ : ∃ c, c = isLast q ad := ⟨_, rfl⟩
          obtain ⟨nl, hnl⟩ : ∃ c, c = lastN I ad := ⟨_, rfl⟩
          have hhl := hist_last HH.out ad
          rw [← hnl, ← hlb] at hhl
          have CLL : Hid (cl.length = 36) := by show _ = 36; rw [hcl]; exact wrC_len _ (last_fits OKT.out ad).sum
          have CLO : Hid (∀ u ∈ cl, u.oneCell' = true) := by rw [hcl]; exact wrC_one _
          have LA := Lib.hid (last_lit K (Below.refl _ _) (Nat.le_refl _) HT.out OKT.out (by omega) ad hadl (b := lb) hlb.symm hcl)
          have hnl3 : nl ≤ m := by rw [hnl, ← HIL.out]; exact lastF_le I ad _
          have LK : Hid (∀ wx Qs, Own.St w.heap.size w wx Qs → Qs[5]? = some (AMapQ bm nm g) → (Instr.lookup 53 (.map (some bm)) (.int .u32 (ad : Int)) false).run Try.prog wx = .ok (.int .u64 (nl : Int)) wx) := by
            intro wx Qs h hi
            have h2 := h.mapLook 5 hi u32Keyed (mt := 53) Try.underlying53 (fun w => by kernel_rfl) (u32_key hadl)
            rw [MP.out ad hadl, ← hnl] at h2
            exact h2
          have SQ : Hid (lb = true → cl[1]? = some (.int .u64 (nl : Int))) := by
            intro h
            rw [hcl, ← hhl.2 h]
            rfl
          have hcase : (lb = true ∧ 0 < nl ∧ o < nl) ∨ (lb = false ∧ nl = 0) ∨ (lb = false ∧ 0 < nl ∧ ¬ o < nl) := by
            rw [hhl.1]
            by_cases h : o < nl
            · exact .inl ⟨decide_eq_true h, by omega, h⟩
            · by_cases h0 : nl = 0
              · exact .inr (.inl ⟨decide_eq_false h, h0⟩)
              · exact .inr (.inr ⟨decide_eq_false h, by omega, h⟩)
          clear hcl hlb hnl hhl
          have hol : o ≤ 300 := by omega
          refine LA.out.mono ?_
          clear LA d1
          rintro e wl ⟨rfl, h⟩
          have HU := Lib.hid h
          clear h HT
          have pp := trivial
          rcases hcase with ⟨rfl, hn1, hn2⟩ | ⟨rfl, rfl⟩ | ⟨rfl, hn1, hn2⟩
          · have sq := SQ.out rfl
            have hn1' : (nl : Int) > 0 := by omega
            have hn2' : (nl : Int) > (o : Int) := by omega
            go_wp2_with (first
              | (refine wpList_box2 boxy_wr rfl rfl rfl (.tmp 14) (.tmp 78) rfl rfl cl (fun _ => rfl) (fun _ => rfl) CLL.out CLO.out HU.out ?_; intro b14 wv h; have HV := Lib.hid h; have d1 := (h.cellV 2 rfl 1 V1.out).1; have e1 := (h.cellV 0 rfl 1 sq).1; clear h)
              | (refine wpList_val rfl (look_exec rfl (LK.out _ _ HV.out rfl) _ rfl rfl) ?_))
            go_roundw
            case rel =>
              have h := HV.out.front 2 rfl
              simp only [List.eraseIdx_cons_succ, List.eraseIdx_cons_zero] at h
              exact ⟨i + 1, m, o, nm, q, I, aI, aO, cI, cO, g, by omega, by omega, by omega, by omega, HIL.out, by first | rfl | rw [HM2.out], by first | rfl | rw [HO2.out], by go_num, h.drop 2, OKT.out, HH.out, MP.out, HIF.out⟩
            case measure => simp [intOf]; omega
          · go_wp2_with (first
              | (refine wpList_box2 boxy_wr rfl rfl rfl (.tmp 14) (.tmp 78) rfl rfl cl (fun _ => rfl) (fun _ => rfl) CLL.out CLO.out HU.out ?_; intro b14 wv h; have HV := Lib.hid h; have d1 := (h.cellV 2 rfl 1 V1.out).1; clear h)
              | (refine wpList_val rfl (look_exec rfl (LK.out _ _ HV.out rfl) _ rfl rfl) ?_))
            go_roundw
            case rel =>
              have h := HV.out.front 2 rfl
              simp only [List.eraseIdx_cons_succ, List.eraseIdx_cons_zero] at h
              exact ⟨i + 1, m, o, nm, q, I, aI, aO, cI, cO, g, by omega, by omega, by omega, by omega, HIL.out, by first | rfl | rw [HM2.out], by first | rfl | rw [HO2.out], by go_num, h.drop 2, OKT.out, HH.out, MP.out, HIF.out⟩
            case measure => simp [intOf]; omega
          · have hn1' : (nl : Int) > 0 := by omega
            have hn2' : ¬ (nl : Int) > (o : Int) := by omega
            go_wp2_with (first
              | (refine wpList_box2 boxy_wr rfl rfl rfl (.tmp 14) (.tmp 78) rfl rfl cl (fun _ => rfl) (fun _ => rfl) CLL.out CLO.out HU.out ?_; intro b14 wv h; have HV := Lib.hid h; have d1 := (h.cellV 2 rfl 1 V1.out).1; clear h)
              | (refine wpList_val rfl (look_exec rfl (LK.out _ _ HV.out rfl) _ rfl rfl) ?_))
            go_roundw
            case rel =>
              have h := HV.out.front 2 rfl
              simp only [List.eraseIdx_cons_succ, List.eraseIdx_cons_zero] at h
              exact ⟨i + 1, m, o, nm, q, I, aI, aO, cI, cO, g, by omega, by omega, by omega, by omega, HIL.out, by first | rfl | rw [HM2.out], by first | rfl | rw [HO2.out], by go_num, h.drop 2, OKT.out, HH.out, MP.out, HIF.out⟩
            case measure => simp [intOf]; omega
      · skip
        go_wp2_with (first
          | (refine wpList_load_mid rfl 40 (.tmp 29) rfl b (ob + i * 37) rfl vs _ HRNG.out Try.underlying40 rfl IA.out ?_)
          | (refine wpList_box2 boxy_act rfl rfl rfl (.tmp 9) (.tmp 30) rfl rfl vs (fun _ => rfl) (fun _ => rfl) VL.out VO.out H.out ?_; intro b7 w5 h; have H5 := Lib.hid h; have d0 := (h.cellV 0 rfl 0 V0.out).1; clear h)
          | (refine wpList_val rfl (load_wr cw CWL.out rfl _ (b := b7) (k := 1) (CWR.out _ _ (H5.out.boxRange 0 rfl)) rfl) ?_))
        clear H HRNG
        obtain ⟨n, hn⟩ : ∃ F, F = pushN q a.w := ⟨_, rfl⟩
        obtain ⟨er, her⟩ : ∃ b, b = pushE q a.w := ⟨_, rfl⟩
        have P1 := Lib.hid (push_lit K (Below.refl _ _) (Nat.le_refl _) (H5.out.front 1 rfl) OK.out (by omega) HFIT.out (n := n) (m := er) (q' := push q a.w) hn.symm her.symm rfl HCW.out)
        have OKP : Hid (Ok (push q a.w) (i + 1)) := by have h := OK2.out; rw [HDO.out] at h; exact h
        by_cases he : er = 0
        · have hpe : pushE q a.w = 0 := by rw [← her]; exact he
          subst he
          have hnm : n = m + 1 := by rw [hn]; unfold pushN; rw [if_pos hpe, HH.out.next, HIL.out]
          have hp := hist_push HH.out hpe
          have hqn : q.next = n := by rw [hn]; unfold pushN; rw [if_pos hpe]
          rw [hqn] at hp
          obtain ⟨q2, hq2⟩ : ∃ x, x = push q a.w := ⟨_, rfl⟩
          obtain ⟨I2, hI2⟩ : ∃ x, x = I ++ [put a.w n] := ⟨_, rfl⟩
          obtain ⟨m2, hm2⟩ : ∃ x, x = m + 1 := ⟨_, rfl⟩
          have HHT : Hid (Hist q2 I2 o) := by rw [hq2, hI2]; exact hp
          have OKT : Hid (Ok q2 (i + 1)) := by rw [hq2]; exact OKP.out
          have ILT : Hid (I2.length = m2) := by rw [hI2, hm2]; show (I ++ [_]).length = _; rw [List.length_append, HIL.out]; rfl
          have hn64 : n < 18446744073709551616 := by omega
          have IFT : Hid (∀ r ∈ I2, Fits r) := by
            rw [hI2]
            intro r hr
            rcases List.mem_append.1 hr with h | h
            · exact HIF.out r h
            · simp only [List.mem_singleton] at h
              rw [h]
              exact put_fits HFIT.out hn64
          obtain ⟨cp, hcp⟩ : ∃ c, c = wrC (put a.w n) := ⟨_, rfl⟩
          have CPL : Hid (cp.length = 36) := by show _ = 36; rw [hcp]; exact wrC_len _ (put_fits HFIT.out hn64).sum
          have CPL1 : Hid (cp.length = 1 * 36) := CPL.out
          have CPO : Hid (∀ u ∈ cp, u.oneCell' = true) := by rw [hcp]; exact wrC_one _
          have EI : Hid (I.flatMap wrC ++ cp = I2.flatMap wrC) := by show _ = _; rw [hI2, hcp, List.flatMap_append]; simp
          have ET : Hid (I.take o = I2.take o) := by show _ = _; rw [hI2, List.take_append_of_le_length (by rw [HIL.out]; omega)]
          have BSP : Hid (∀ wx, (Instr.buildSlice 28 1 #[(0, .agg cp.toArray)]).run Try.prog wx = .ok (.slice (some ⟨wx.heap.size, 0, none⟩) 1 1) (wx.alloc (.cells cp.toArray 38))) := fun wx => run_slot_one Try.underlying28 slot_wr cp CPL.out wx
          obtain ⟨vs9, hvs9⟩ : ∃ x, x = actVs { a with w := put a.w n } := ⟨_, rfl⟩
          have E9 : Hid (vs.set 2 (.int .u64 (n : Int)) = vs9) := by show _ = _; rw [HVS.out, hvs9]; rfl
          have V9 : Hid (vs9[1]? = some (.int .u32 (ad : Int))) := by rw [← E9.out]; show (vs.set 2 _)[1]? = _; rw [List.getElem?_set_ne (by decide)]; exact V1.out
          have R9 : Hid (∀ (wx : World) (b7 : Nat), wx.rangeAt b7 0 vs9 → wx.rangeAt b7 1 cp) := by
            intro wx b7 h j u hu
            have := h (j + 1) u (by rw [hvs9]; rw [hcp] at hu; exact hu)
            rw [Nat.zero_add, Nat.add_comm] at this
            exact this
          obtain ⟨sv, hsv⟩ : ∃ s, vs[2]? = some s := ⟨_, List.getElem?_eq_getElem (by rw [VL.out]; decide)⟩
          have HSV := Lib.hid hsv
          obtain ⟨g2, hg2⟩ : ∃ x, x = putK g (.int .u32 (ad : Int)) (.int .u64 (n : Int)) := ⟨_, rfl⟩
          have MPT : Hid (MapI g2 I2) := by
            rw [hg2, hI2, hnm]
            have h := mapI_put MP.out (put a.w n)
            rw [HIL.out] at h
            have e : (put a.w n).addr = ad := by
              have := V9.out
              rw [hvs9] at this
              have h2 : (Value.int .u32 ((put a.w n).addr : Int)) = .int .u32 (ad : Int) := Option.some.inj this
              simp only [Value.int.injEq, true_and] at h2
              omega
            rw [e, hnm] at h
            exact h
          have HG2 := Lib.hid hg2
          have HQ2 := Lib.hid hq2
          have HM2 := Lib.hid hm2
          have HNM := Lib.hid hnm
          clear hp hpe hn her hqn hq2 hI2 hm2 hcp hvs9 hsv hg2 d0
          refine P1.out.mono ?_
          clear P1 H5
          rintro e w6 ⟨rfl, h⟩
          have qs := h.cellV 1 rfl 2 HSV.out
          have h7 := h.storeV 1 rfl 2 (.int .u64 (n : Int))
          simp only [List.set_cons_succ] at h7
          rw [E9.out] at h7
          have H7 := Lib.hid h7
          have RC := Lib.hid (R9.out _ _ (h7.boxRange 1 rfl))
          have d1 := (h7.cellV 1 rfl 1 V9.out).1
          clear h h7 hnm
          go_wp2_with (first
            | (refine wpList_val rfl (load_wr cp CPL.out rfl _ (b := b7) (k := 1) RC.out rfl) ?_)
            | (refine wpList_slot_one rfl 28 (.tmp 64) rfl cp 38 rfl (BSP.out _) ?_)
            | (at_builtin; refine wpList_many_append many_wr rfl (.tmp 62) (.tmp 65) rfl (H7.out.alloc (.cells cp.toArray 38)) 2 rfl rfl (some ⟨_, 0, none⟩) 1 1 cp rfl (by intro h; cases h) CPL1.out (new_cells _ _ _) CPO.out (by omega) (by decide) ?_; intro aI2 cI2 w9 h; simp only [List.set_cons_succ] at h; rw [EI.out, ET.out] at h; rw [← HM2.out] at h; clear d1 qs; obtain ⟨w10, hpu, h10⟩ := h.mapPut 4 rfl u32Keyed (mt := 53) Try.underlying53 (by omega) (u32_key hadl) (.int .u64 (n : Int)); simp only [List.set_cons_succ] at h10; rw [← HG2.out] at h10; have d1 := (h.cellV 1 rfl 1 V9.out).1; have d2 := (h10.cellV 1 rfl 1 V9.out).1; have H10 := Lib.hid h10; clear h h10))
          clear hpu d1
          have d1 := d2
          clear d2
          obtain ⟨nm2, hnm2⟩ : ∃ x, x = nm + 1 := ⟨_, rfl⟩
          have HT : Hid (Own.St w.heap.size w w10 [K.A p q2, AVals b7 40 vs9, RowW (.slice aI2 m2 cI2) I2 m2, RowW (.slice aO o cO) (I2.take o) o, AMapQ bm nm2 g2]) := by rw [HQ2.out, hnm2]; exact H10.out
          have hmb := HM2.out
          have hnb := HNM.out
          clear H7 H10 RC R9 BSP E9 HSV EI ET HG2 HQ2 HNM
          obtain ⟨cl, hcl⟩ : ∃ c, c = wrC (lastW q2 ad) := ⟨_, rfl⟩
          obtain ⟨lb, hlb⟩ : ∃ c, c = isLast q2 ad := ⟨_, rfl⟩
          obtain ⟨nl, hnl⟩ : ∃ c, c = lastN I2 ad := ⟨_, rfl⟩
          have hhl := hist_last HHT.out ad
          rw [← hnl, ← hlb] at hhl
          have CLL : Hid (cl.length = 36) := by show _ = 36; rw [hcl]; exact wrC_len _ (last_fits OKT.out ad).sum
          have CLO : Hid (∀ u ∈ cl, u.oneCell' = true) := by rw [hcl]; exact wrC_one _
          have LA := Lib.hid (last_lit K (Below.refl _ _) (Nat.le_refl _) HT.out OKT.out (by omega) ad hadl (b := lb) hlb.symm hcl)
          have hnl3 : nl ≤ m2 := by rw [hnl, ← ILT.out]; exact lastF_le I2 ad _
          have LK : Hid (∀ wx Qs, Own.St w.heap.size w wx Qs → Qs[5]? = some (AMapQ bm nm2 g2) → (Instr.lookup 53 (.map (some bm)) (.int .u32 (ad : Int)) false).run Try.prog wx = .ok (.int .u64 (nl : Int)) wx) := by
            intro wx Qs h hi
            have h2 := h.mapLook 5 hi u32Keyed (mt := 53) Try.underlying53 (fun w => by kernel_rfl) (u32_key hadl)
            rw [MPT.out ad hadl, ← hnl] at h2
            exact h2
          have SQ : Hid (lb = true → cl[1]? = some (.int .u64 (nl : Int))) := by
            intro h
            rw [hcl, ← hhl.2 h]
            rfl
          have hcase : (lb = true ∧ 0 < nl ∧ o < nl) ∨ (lb = false ∧ nl = 0) ∨ (lb = false ∧ 0 < nl ∧ ¬ o < nl) := by
            rw [hhl.1]
            by_cases h : o < nl
            · exact .inl ⟨decide_eq_true h, by omega, h⟩
            · by_cases h0 : nl = 0
              · exact .inr (.inl ⟨decide_eq_false h, h0⟩)
              · exact .inr (.inr ⟨decide_eq_false h, by omega, h⟩)
          clear hcl hlb hnl hhl
          have hol : o ≤ 300 := by omega
          refine LA.out.mono ?_
          clear LA d1
          rintro e wl ⟨rfl, h⟩
          have HU := Lib.hid h
          clear h HT
          have pp := trivial
          rcases hcase with ⟨rfl, hn1, hn2⟩ | ⟨rfl, rfl⟩ | ⟨rfl, hn1, hn2⟩
          · have sq := SQ.out rfl
            have hn1' : (nl : Int) > 0 := by omega
            have hn2' : (nl : Int) > (o : Int) := by omega
            go_wp2_with (first
              | (refine wpList_box2 boxy_wr rfl rfl rfl (.tmp 14) (.tmp 78) rfl rfl cl (fun _ => rfl) (fun _ => rfl) CLL.out CLO.out HU.out ?_; intro b14 wv h; have HV := Lib.hid h; have d1 := (h.cellV 2 rfl 1 V9.out).1; have e1 := (h.cellV 0 rfl 1 sq).1; clear h)
              | (refine wpList_val rfl (look_exec rfl (LK.out _ _ HV.out rfl) _ rfl rfl) ?_))
            go_roundw
            case rel =>
              have h := HV.out.front 2 rfl
              simp only [List.eraseIdx_cons_succ, List.eraseIdx_cons_zero] at h
              exact ⟨i + 1, m2, o, nm2, q2, I2, aI2, aO, cI2, cO, g2, by omega, by omega, by omega, by omega, ILT.out, by first | rfl | rw [HM2.out], by first | rfl | rw [HO2.out], by go_num, h.drop 2, OKT.out, HHT.out, MPT.out, IFT.out⟩
            case measure => simp [intOf]; omega
          · go_wp2_with (first
              | (refine wpList_box2 boxy_wr rfl rfl rfl (.tmp 14) (.tmp 78) rfl rfl cl (fun _ => rfl) (fun _ => rfl) CLL.out CLO.out HU.out ?_; intro b14 wv h; have HV := Lib.hid h; have d1 := (h.cellV 2 rfl 1 V9.out).1; clear h)
              | (refine wpList_val rfl (look_exec rfl (LK.out _ _ HV.out rfl) _ rfl rfl) ?_))
            go_roundw
            case rel =>
              have h := HV.out.front 2 rfl
              simp only [List.eraseIdx_cons_succ, List.eraseIdx_cons_zero] at h
              exact ⟨i + 1, m2, o, nm2, q2, I2, aI2, aO, cI2, cO, g2, by omega, by omega, by omega, by omega, ILT.out, by first | rfl | rw [HM2.out], by first | rfl | rw [HO2.out], by go_num, h.drop 2, OKT.out, HHT.out, MPT.out, IFT.out⟩
            case measure => simp [intOf]; omega
          · have hn1' : (nl : Int) > 0 := by omega
            have hn2' : ¬ (nl : Int) > (o : Int) := by omega
            go_wp2_with (first
              | (refine wpList_box2 boxy_wr rfl rfl rfl (.tmp 14) (.tmp 78) rfl rfl cl (fun _ => rfl) (fun _ => rfl) CLL.out CLO.out HU.out ?_; intro b14 wv h; have HV := Lib.hid h; have d1 := (h.cellV 2 rfl 1 V9.out).1; clear h)
              | (refine wpList_val rfl (look_exec rfl (LK.out _ _ HV.out rfl) _ rfl rfl) ?_))
            go_roundw
            case rel =>
              have h := HV.out.front 2 rfl
              simp only [List.eraseIdx_cons_succ, List.eraseIdx_cons_zero] at h
              exact ⟨i + 1, m2, o, nm2, q2, I2, aI2, aO, cI2, cO, g2, by omega, by omega, by omega, by omega, ILT.out, by first | rfl | rw [HM2.out], by first | rfl | rw [HO2.out], by go_num, h.drop 2, OKT.out, HHT.out, MPT.out, IFT.out⟩
            case measure => simp [intOf]; omega
        · have hpe : ¬ pushE q a.w = 0 := by rw [← her]; exact he
          have HQE : Hid (push q a.w = q) := hist_same HH.out hpe
          have OKT : Hid (Ok q (i + 1)) := by have h := OKP.out; rw [HQE.out] at h; exact h
          have heb : ((er : Int) == 0) = false := by simp; omega
          clear hpe hn her he d0
          refine P1.out.mono ?_
          clear P1 H5
          rintro e w6 ⟨rfl, h⟩
          have d1 := (h.cellV 1 rfl 1 V1.out).1
          have HT : Hid (Own.St w.heap.size w w6 [K.A p q, AVals b7 40 vs, RowW (.slice aI m cI) I m, RowW (.slice aO o cO) (I.take o) o, AMapQ bm nm g]) := by
            rw [HQE.out] at h
            exact h
          clear h HQE
          go_wp2_with (fail)
          obtain ⟨cl, hcl⟩ : ∃ c, c = wrC (lastW q ad) := ⟨_, rfl⟩
          obtain ⟨lb, hlb⟩ : ∃ c, c = isLast q ad := ⟨_, rfl⟩
          obtain ⟨nl, hnl⟩ : ∃ c, c = lastN I ad := ⟨_, rfl⟩
          have hhl := hist_last HH.out ad
          rw [← hnl, ← hlb] at hhl
          have CLL : Hid (cl.length = 36) := by show _ = 36; rw [hcl]; exact wrC_len _ (last_fits OKT.out ad).sum
          have CLO : Hid (∀ u ∈ cl, u.oneCell' = true) := by rw [hcl]; exact wrC_one _
          have LA := Lib.hid (last_lit K (Below.refl _ _) (Nat.le_refl _) HT.out OKT.out (by omega) ad hadl (b := lb) hlb.symm hcl)
          have hnl3 : nl ≤ m := by rw [hnl, ← HIL.out]; exact lastF_le I ad _
          have LK : Hid (∀ wx Qs, Own.St w.heap.size w wx Qs → Qs[5]? = some (AMapQ bm nm g) → (Instr.lookup 53 (.map (some bm)) (.int .u32 (ad : Int)) false).run Try.prog wx = .ok (.int .u64 (nl : Int)) wx) := by
            intro wx Qs h hi
            have h2 := h.mapLook 5 hi u32Keyed (mt := 53) Try.underlying53 (fun w => by kernel_rfl) (u32_key hadl)
            rw [MP.out ad hadl, ← hnl] at h2
            exact h2
          have SQ : Hid (lb = true → cl[1]? = some (.int .u64 (nl : Int))) := by
            intro h
            rw [hcl, ← hhl.2 h]
            rfl
          have hcase : (lb = true ∧ 0 < nl ∧ o < nl) ∨ (lb = false ∧ nl = 0) ∨ (lb = false ∧ 0 < nl ∧ ¬ o < nl) := by
            rw [hhl.1]
            by_cases h : o < nl
            · exact .inl ⟨decide_eq_true h, by omega, h⟩
            · by_cases h0 : nl = 0
              · exact .inr (.inl ⟨decide_eq_false h, h0⟩)
              · exact .inr (.inr ⟨decide_eq_false h, by omega, h⟩)
          clear hcl hlb hnl hhl
          have hol : o ≤ 300 := by omega
          refine LA.out.mono ?_
          clear LA d1
          rintro e wl ⟨rfl, h⟩
          have HU := Lib.hid h
          clear h HT
          have pp := trivial
          rcases hcase with ⟨rfl, hn1, hn2⟩ | ⟨rfl, rfl⟩ | ⟨rfl, hn1, hn2⟩
          · have sq := SQ.out rfl
            have hn1' : (nl : Int) > 0 := by omega
            have hn2' : (nl : Int) > (o : Int) := by omega
            go_wp2_with (first
              | (refine wpList_box2 boxy_wr rfl rfl rfl (.tmp 14) (.tmp 78) rfl rfl cl (fun _ => rfl) (fun _ => rfl) CLL.out CLO.out HU.out ?_; intro b14 wv h; have HV := Lib.hid h; have d1 := (h.cellV 2 rfl 1 V1.out).1; have e1 := (h.cellV 0 rfl 1 sq).1; clear h)
              | (refine wpList_val rfl (look_exec rfl (LK.out _ _ HV.out rfl) _ rfl rfl) ?_))
            go_roundw
            case rel =>
              have h := HV.out.front 2 rfl
              simp only [List.eraseIdx_cons_succ, List.eraseIdx_cons_zero] at h
              exact ⟨i + 1, m, o, nm, q, I, aI, aO, cI, cO, g, by omega, by omega, by omega, by omega, HIL.out, by first | rfl | rw [HM2.out], by first | rfl | rw [HO2.out], by go_num, h.drop 2, OKT.out, HH.out, MP.out, HIF.out⟩
            case measure => simp [intOf]; omega
          · go_wp2_with (first
              | (refine wpList_box2 boxy_wr rfl rfl rfl (.tmp 14) (.tmp 78) rfl rfl cl (fun _ => rfl) (fun _ => rfl) CLL.out CLO.out HU.out ?_; intro b14 wv h; have HV := Lib.hid h; have d1 := (h.cellV 2 rfl 1 V1.out).1; clear h)
              | (refine wpList_val rfl (look_exec rfl (LK.out _ _ HV.out rfl) _ rfl rfl) ?_))
            go_roundw
            case rel =>
              have h := HV.out.front 2 rfl
              simp only [List.eraseIdx_cons_succ, List.eraseIdx_cons_zero] at h
              exact ⟨i + 1, m, o, nm, q, I, aI, aO, cI, cO, g, by omega, by omega, by omega, by omega, HIL.out, by first | rfl | rw [HM2.out], by first | rfl | rw [HO2.out], by go_num, h.drop 2, OKT.out, HH.out, MP.out, HIF.out⟩
            case measure => simp [intOf]; omega
          · have hn1' : (nl : Int) > 0 := by omega
            have hn2' : ¬ (nl : Int) > (o : Int) := by omega
            go_wp2_with (first
              | (refine wpList_box2 boxy_wr rfl rfl rfl (.tmp 14) (.tmp 78) rfl rfl cl (fun _ => rfl) (fun _ => rfl) CLL.out CLO.out HU.out ?_; intro b14 wv h; have HV := Lib.hid h; have d1 := (h.cellV 2 rfl 1 V1.out).1; clear h)
              | (refine wpList_val rfl (look_exec rfl (LK.out _ _ HV.out rfl) _ rfl rfl) ?_))
            go_roundw
            case rel =>
              have h := HV.out.front 2 rfl
              simp only [List.eraseIdx_cons_succ, List.eraseIdx_cons_zero] at h
              exact ⟨i + 1, m, o, nm, q, I, aI, aO, cI, cO, g, by omega, by omega, by omega, by omega, HIL.out, by first | rfl | rw [HM2.out], by first | rfl | rw [HO2.out], by go_num, h.drop 2, OKT.out, HH.out, MP.out, HIF.out⟩
            case measure => simp [intOf]; omega
    · have hom2 : o ≤ 300 := by omega
      have hm3 : m ≤ 300 := by omega
      have HSQ : Hid (∀ j, j < m → (at_ I j).seq = j + 1) := fun j hj => HH.out.seqs j (by rw [HIL.out]; exact hj)
      have HQL : Hid (q.L = I.drop o) := HH.out.rest
      clear hnm hmi
      go_wp2_with (fail)
      go_loopw [109] (fun v109 wr => ∃ j : Nat, j ≤ o ∧ v109 = .int .i64 (j : Int) ∧ Own.St w.heap.size w wr [K.A p q, RowW (.slice aI m cI) I m, RowW (.slice aO o cO) (I.take o) o, AMapQ bm nm g]) (fun v109 _ => o - (intOf v109).toNat)
      case atStart => exact ⟨0, Nat.zero_le _, rfl, H.out⟩
      case round =>
        obtain ⟨j, hjo, rfl, hh⟩ := hrel
        have HJ := Lib.hid hh
        clear hh H
        by_cases hj : (j : Int) < (o : Int)
        · have hjo : j < o := by omega
          have hjm : j < m := by omega
          have hj3 : j ≤ 1000000 := by omega
          obtain ⟨j1, hj1⟩ : ∃ x, x = j + 1 := ⟨_, rfl⟩
          have hj13 : j1 ≤ 1000000 := by omega
          have HJ1 := Lib.hid hj1
          clear hj1
          obtain ⟨gO, hgO, _, _⟩ := HJ.out.rowAt 2 rfl (j * 36) (by omega)
          obtain ⟨gI, hgI, _, _⟩ := HJ.out.rowAt 1 rfl (j * 36) (by omega)
          subst hgO hgI
          have hjl : j < I.length := by rw [HIL.out]; exact hjm
          obtain ⟨F, hF⟩ : ∃ F, F = at_ I j := ⟨_, rfl⟩
          have hFS : F.sum.length = 32 := by rw [hF]; exact (HIF.out _ (at_mem hjl)).sum
          obtain ⟨cs, hcs⟩ : ∃ cs, cs = wrC F := ⟨_, rfl⟩
          have CL : Hid (cs.length = 36) := by show _ = 36; rw [hcs]; exact wrC_len _ hFS
          have HFS := Lib.hid hFS
          have hx : ∀ t u, cs[t]? = some u → (I.flatMap wrC)[j * 36 + t]? = some u := fun t u hu => by
            rw [flat_at wrC 36 I (wrs_len I HIF.out) j _ (at_get hjl) t (by rw [← CL.out]; exact (List.getElem?_eq_some_iff.1 hu).1), ← hF, ← hcs, hu]
          have hIt : (I.take o)[j]? = some (at_ I j) := by rw [List.getElem?_take_of_lt hjo]; exact at_get hjl
          have hy : ∀ t u, cs[t]? = some u → ((I.take o).flatMap wrC)[j * 36 + t]? = some u := fun t u hu => by
            rw [flat_at wrC 36 (I.take o) (wrs_len _ (fun r h => HIF.out r (List.mem_of_mem_take h))) j _ hIt t (by rw [← CL.out]; exact (List.getElem?_eq_some_iff.1 hu).1), ← hF, ← hcs, hu]
          have RI : Hid (∀ wx, Below wr.heap.size wr wx → wx.rangeAt gI (0 + j * 36) cs) := by
            intro wx hwx t u hu
            have ht : t < 36 := by rw [← CL.out]; exact (List.getElem?_eq_some_iff.1 hu).1
            obtain ⟨g', hg', ⟨u', h1, h2⟩, _⟩ := (HJ.out.later hwx).rowAt 1 rfl (j * 36 + t) (by omega)
            cases hg'
            rw [hx t u hu] at h1
            cases h1
            rw [Nat.zero_add]
            exact h2
          have RO : Hid (∀ wx, Below wr.heap.size wr wx → wx.rangeAt gO (0 + j * 36) cs) := by
            intro wx hwx t u hu
            have ht : t < 36 := by rw [← CL.out]; exact (List.getElem?_eq_some_iff.1 hu).1
            obtain ⟨g', hg', ⟨u', h1, h2⟩, _⟩ := (HJ.out.later hwx).rowAt 2 rfl (j * 36 + t) (by omega)
            cases hg'
            rw [hy t u hu] at h1
            cases h1
            rw [Nat.zero_add]
            exact h2
          have SQ : Hid (∀ wx, Below wr.heap.size wr wx → wx.cell? ⟨gO, j * 36 + 1, none⟩ = some (.int .u64 (j1 : Int))) := fun wx hwx => by
            have h := RO.out wx hwx 1 (.int .u64 (j1 : Int)) (by rw [hcs, hF, HJ1.out, ← HSQ.out j hjm]; rfl)
            rw [Nat.zero_add] at h
            exact h
          have HCS := Lib.hid hcs
          clear hx hy hIt hjl hF hFS hcs
          go_wp2_with (fail)
          refine wp_lax_list (by kernel_rfl) (by kernel_rfl) (by kernel_rfl) ?_
          refine wpL_move (.slice (some ⟨gO, 0, none⟩) o cO) rfl (by kernel_rfl) (by kernel_rfl) (by kernel_rfl) (by kernel_rfl) ?_
          refine wpL_move (.int .i64 (j : Int)) rfl (by kernel_rfl) (by kernel_rfl) (by kernel_rfl) (by kernel_rfl) ?_
          refine wpL_run2 (x := .tmp 112) (y := .tmp 113) (.slice (some ⟨gO, 0, none⟩) o cO) (.int .i64 (j : Int)) (.pointer (some ⟨gO, 0 + j * 36, none⟩)) (by kernel_rfl) (by kernel_rfl) (by kernel_rfl) (by kernel_rfl) (by kernel_rfl) (by kernel_rfl) (fun wx ρ hwx h0 h1 hc => idx_wr rfl hjo ρ wx h0 h1) ?_
          refine wpL_run1 (x := .tmp 114) (.pointer (some ⟨gO, 0 + j * 36, none⟩)) (.agg cs.toArray) (by kernel_rfl) (by kernel_rfl) (by kernel_rfl) (by kernel_rfl) (by kernel_rfl) (fun wx ρ hwx h0 hc => load_wr cs CL.out rfl ρ (RO.out wx hwx) h0) ?_
          refine wpL_move (.slice (some ⟨gI, 0, none⟩) m cI) rfl (by kernel_rfl) (by kernel_rfl) (by kernel_rfl) (by kernel_rfl) ?_
          refine wpL_move (.int .i64 (j : Int)) rfl (by kernel_rfl) (by kernel_rfl) (by kernel_rfl) (by kernel_rfl) ?_
          refine wpL_run2 (x := .tmp 116) (y := .tmp 117) (.slice (some ⟨gI, 0, none⟩) m cI) (.int .i64 (j : Int)) (.pointer (some ⟨gI, 0 + j * 36, none⟩)) (by kernel_rfl) (by kernel_rfl) (by kernel_rfl) (by kernel_rfl) (by kernel_rfl) (by kernel_rfl) (fun wx ρ hwx h0 h1 hc => idx_wr rfl hjm ρ wx h0 h1) ?_
          refine wpL_run1 (x := .tmp 118) (.pointer (some ⟨gI, 0 + j * 36, none⟩)) (.agg cs.toArray) (by kernel_rfl) (by kernel_rfl) (by kernel_rfl) (by kernel_rfl) (by kernel_rfl) (fun wx ρ hwx h0 hc => load_wr cs CL.out rfl ρ (RI.out wx hwx) h0) ?_
          refine wpL_run2 (x := .tmp 115) (y := .tmp 119) (.agg cs.toArray) (.agg cs.toArray) (.bool false) (by kernel_rfl) (by kernel_rfl) (by kernel_rfl) (by kernel_rfl) (by kernel_rfl) (by kernel_rfl) (fun wx ρ hwx h0 h1 hc => neq_wr rfl F HCS.out HFS.out ρ wx h0 h1) ?_
          refine wpL_move (.bool false) rfl (by kernel_rfl) (by kernel_rfl) (by kernel_rfl) (by kernel_rfl) ?_
          refine wpL_move (.slice (some ⟨gO, 0, none⟩) o cO) rfl (by kernel_rfl) (by kernel_rfl) (by kernel_rfl) (by kernel_rfl) ?_
          refine wpL_move (.int .i64 (j : Int)) rfl (by kernel_rfl) (by kernel_rfl) (by kernel_rfl) (by kernel_rfl) ?_
          refine wpL_run2 (x := .tmp 122) (y := .tmp 123) (.slice (some ⟨gO, 0, none⟩) o cO) (.int .i64 (j : Int)) (.pointer (some ⟨gO, 0 + j * 36, none⟩)) (by kernel_rfl) (by kernel_rfl) (by kernel_rfl) (by kernel_rfl) (by kernel_rfl) (by kernel_rfl) (fun wx ρ hwx h0 h1 hc => idx_wr rfl hjo ρ wx h0 h1) ?_
          refine wpL_run1 (x := .tmp 124) (.pointer (some ⟨gO, 0 + j * 36, none⟩)) (.pointer (some ⟨gO, 0 + j * 36 + 1, none⟩)) (by kernel_rfl) (by kernel_rfl) (by kernel_rfl) (by kernel_rfl) (by kernel_rfl) (fun wx ρ hwx h0 hc => by simp [go_sem, h0]) ?_
          refine wpL_run1 (x := .tmp 125) (.pointer (some ⟨gO, 0 + j * 36 + 1, none⟩)) (.int .u64 (j1 : Int)) (by kernel_rfl) (by kernel_rfl) (by kernel_rfl) (by kernel_rfl) (by kernel_rfl) (fun wx ρ hwx h0 hc => by simp [h0, go_sem, SQ.out wx hwx]) ?_
          refine wpL_move (.int .i64 (j : Int)) rfl (by kernel_rfl) (by kernel_rfl) (by kernel_rfl) (by kernel_rfl) ?_
          refine wpL_run1 (x := .tmp 127) (.int .i64 (j : Int)) (.int .i64 (j1 : Int)) (by kernel_rfl) (by kernel_rfl) (by kernel_rfl) (by kernel_rfl) (by kernel_rfl) (fun wx ρ hwx h0 hc => by rw [HJ1.out]; exact add1_int rfl hj3 ρ wx h0 hc) ?_
          refine wpL_run1 (x := .tmp 128) (.int .i64 (j1 : Int)) (.int .u64 (j1 : Int)) (by kernel_rfl) (by kernel_rfl) (by kernel_rfl) (by kernel_rfl) (by kernel_rfl) (fun wx ρ hwx h0 hc => conv_u64 rfl (by omega) ρ wx h0) ?_
          refine wpL_run2 (x := .tmp 126) (y := .tmp 129) (.int .u64 (j1 : Int)) (.int .u64 (j1 : Int)) (.bool false) (by kernel_rfl) (by kernel_rfl) (by kernel_rfl) (by kernel_rfl) (by kernel_rfl) (by kernel_rfl) (fun wx ρ hwx h0 h1 hc => by simp [go_sem, h0, h1]) ?_
          refine wpL_run2 (x := .tmp 121) (y := .tmp 130) (.bool false) (.bool false) (.bool false) (by kernel_rfl) (by kernel_rfl) (by kernel_rfl) (by kernel_rfl) (by kernel_rfl) (by kernel_rfl) (fun wx ρ hwx h0 h1 hc => by simp [go_sem, h0, h1, hc]) ?_
          refine wpL_end (by kernel_rfl) (fun w5 hw5 => ?_)
          simp only [FinL, setL, List.set_cons_zero, List.set_cons_succ]
          have HJ5 := Lib.hid (HJ.out.later hw5)
          clear hw5 RI RO SQ HJ
          go_wp2_with (fail)
          go_roundw
          case rel => exact ⟨j + 1, by omega, by go_num, HJ5.out⟩
          case measure => simp [intOf]; omega
        · have hrm := (HJ.out.rowLen 1 rfl).2
          have hIL := (HJ.out.rowLen 1 rfl).1
          obtain ⟨aD, cD, hcut, hrd⟩ := cutD_wr (w := wr) (k := o) (xs := I.flatMap wrC) hom hrm.1 (by have := hrm.2.1; unfold maxLen at this; omega) (fun h => (hrm.2.2 h).2)
          have CUT := Lib.hid hcut
          have hql : q.L.length = m - o := by rw [HQL.out, List.length_drop, HIL.out]
          have hqx : q.L.flatMap wrC = (I.flatMap wrC).drop (o * 36) := by
            rw [HQL.out]
            conv => rhs; rw [← List.take_append_drop o I, List.flatMap_append]
            rw [List.drop_left' (by rw [flat_length wrC 36 _ (wrs_len _ (fun r h => HIF.out r (List.mem_of_mem_take h))), List.length_take, HIL.out, Nat.min_eq_left hom])]
          obtain ⟨xs, hxs⟩ : ∃ x, x = q.L.flatMap wrC := ⟨_, rfl⟩
          have CA : Hid (∀ wx, Below wr.heap.size wr wx → Calls Try.prog 23 #[ptr p] wx fun e w' => ∃ u, e = .returned u ∧ (tyWin (m - o) xs).holds u w' ∧ Below wx.heap.size wx w') := by
            rw [hxs, ← hql]
            exact fun wx hwx => (K.all (HJ.out.later hwx).below (HJ.out.later hwx) OK.out (by omega)).mono fun e w' ⟨ao, c, he, h1, h2⟩ => ⟨_, he, rd_rowW h1 0 rfl, h2⟩
          have CS : Hid (∀ u wx, Below wr.heap.size wr wx → (tyWin (m - o) xs).holds u wx → Calls Try.prog 22 #[u, .slice aD (m - o) cD] wx fun e w' => e = .returned (.bool true) ∧ Below wx.heap.size wx w') := by
            intro u wx hwx hu
            have hu' : RdWin wx u (m - o) (q.L.flatMap wrC) := by rw [← hxs]; exact hu
            refine sameW_any q.L OK.out.fits (m - o) u _ wx hu' ?_ hql (by omega)
            rw [hqx]
            exact hrd wx (rd_rowW (HJ.out.later hwx) 1 rfl) hIL
          clear hcut hrd hql hqx hxs hrm hIL
          go_wp2_with (fail)
          refine wp_lax_list (by kernel_rfl) (by kernel_rfl) (by kernel_rfl) ?_
          refine wpL_move (.bool true) rfl (by kernel_rfl) (by kernel_rfl) (by kernel_rfl) (by kernel_rfl) ?_
          refine wpL_move (.bool true) rfl (by kernel_rfl) (by kernel_rfl) (by kernel_rfl) (by kernel_rfl) ?_
          refine wpL_move (ptr p) rfl (by kernel_rfl) (by kernel_rfl) (by kernel_rfl) (by kernel_rfl) ?_
          refine wpL_fnT (tyWin (m - o) xs) [ptr p] rfl rfl (by kernel_rfl) (by kernel_rfl) (by kernel_rfl) (by kernel_rfl) (fun _ _ => by simp [go_sem]) (fun wx hwx => CA.out wx hwx) ?_
          refine wpL_move (.slice aI m cI) rfl (by kernel_rfl) (by kernel_rfl) (by kernel_rfl) (by kernel_rfl) ?_
          refine wpL_move (.slice aO o cO) rfl (by kernel_rfl) (by kernel_rfl) (by kernel_rfl) (by kernel_rfl) ?_
          refine wpL_run1 (x := .tmp 138) (.slice aO o cO) (.int .i64 (o : Int)) (by kernel_rfl) (by kernel_rfl) (by kernel_rfl) (by kernel_rfl) (by kernel_rfl) (fun wx ρ hwx h0 hc => by simp [go_sem, h0]) ?_
          refine wpL_run2 (x := .tmp 137) (y := .tmp 139) (.slice aI m cI) (.int .i64 (o : Int)) (.slice aD (m - o) cD) (by kernel_rfl) (by kernel_rfl) (by kernel_rfl) (by kernel_rfl) (by kernel_rfl) (by kernel_rfl) (fun wx ρ hwx h0 h1 hc => CUT.out _ _ _ rfl ρ wx h0 h1) ?_
          refine wpL_fnUkV (.slice aD (m - o) cD) (.bool true) rfl (by kernel_rfl) (by kernel_rfl) (by kernel_rfl) (by kernel_rfl) (by kernel_rfl) (fun _ _ => by simp [go_sem]) (fun u wx hwx hu => CS.out u wx hwx hu) ?_
          refine wpL_run2 (x := .tmp 134) (y := .tmp 141) (.bool true) (.bool true) (.bool true) (by kernel_rfl) (by kernel_rfl) (by kernel_rfl) (by kernel_rfl) (by kernel_rfl) (by kernel_rfl) (fun wx ρ hwx h0 h1 hc => by simp [go_sem, h0, h1, hc]) ?_
          refine wpL_assign (.bool true) rfl (by kernel_rfl) (by kernel_rfl) (by kernel_rfl) (by kernel_rfl) ?_
          refine wpL_end (by kernel_rfl) (fun w9 hw9 => ?_)
          simp only [FinL, setL, List.set_cons_zero, List.set_cons_succ]
          intro u1 _
          have H9 := Lib.hid (HJ.out.later hw9)
          clear hw9 CA CS CUT HJ
          go_wp2
          go_ret
          exact ⟨rfl, H9.out.below⟩
end
end Que
end Go.Proofs.Ytepbdjgfaljbgaa
