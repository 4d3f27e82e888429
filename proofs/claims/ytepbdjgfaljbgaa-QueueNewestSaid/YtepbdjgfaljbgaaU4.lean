/- Merged: LawQueD LawQueF QueI MapV QuaA QuaB QuaC -/
import Derived.Maps.Own
import Derived.Maps.Views
import Derived.WideKeyArr
import Derived.Carry
import Derived.Maps.RangeWalk
import Derived.Test.YtepbdjgfaljbgaaU1
import Derived.Test.YtepbdjgfaljbgaaU3
set_option linter.unusedVariables false
section
namespace Go.Proofs.Ytepbdjgfaljbgaa
open Go.RowKit Go.Own
namespace Que
open Go.QueM Byt
/-- the newest one of the first j, the oldest one of them -/
def newW (L : List Wr) (a j : Nat) : Wr := if lastF L a j = 0 then zeroW else at_ L (lastF L a j - 1)
def oldW (L : List Wr) (j : Nat) : Wr := if j = 0 then zeroW else at_ L 0
theorem newW_step (L : List Wr) (a j : Nat) : newW L a (j + 1) = if (at_ L j).addr = a then at_ L j else newW L a j := by
  unfold newW
  rw [lastF]
  by_cases h : (at_ L j).addr = a
  · rw [if_pos h, if_pos h, if_neg (by omega)]
    rfl
  · rw [if_neg h, if_neg h]
theorem newB_step (L : List Wr) (a j : Nat) : decide (lastF L a (j + 1) ≠ 0) = if (at_ L j).addr = a then true else decide (lastF L a j ≠ 0) := by
  rw [lastF]
  by_cases h : (at_ L j).addr = a
  · rw [if_pos h, if_pos h]; simp
  · rw [if_neg h, if_neg h]
theorem new_fits {L : List Wr} (hf : ∀ r ∈ L, Fits r) (a j : Nat) (hj : j ≤ L.length) : Fits (newW L a j) := by
  unfold newW
  have := lastF_le L a j
  split
  · exact zero_fits
  · exact hf _ (at_mem (by omega))
theorem old_fits {L : List Wr} (hf : ∀ r ∈ L, Fits r) (j : Nat) (hj : j ≤ L.length) : Fits (oldW L j) := by
  unfold oldW
  split
  · exact zero_fits
  · exact hf _ (at_mem (by omega))
theorem new_all (q : Q) (a : Nat) : newW q.L a q.L.length = lastW q a ∧ decide (lastF q.L a q.L.length ≠ 0) = isLast q a := ⟨rfl, rfl⟩
theorem old_all (q : Q) : oldW q.L q.L.length = frontW q := by
  unfold oldW frontW
  split
  · rename_i h
    unfold at_
    rw [List.getD_eq_getElem?_getD, List.getElem?_eq_none (by omega)]
    rfl
  · rfl
section
variable {W w : World} {Ps : List Asn} {p k : Nat} {v : Value} {q q' : Q} {N : Nat}
set_option maxRecDepth 10000 in
set_option maxHeartbeats 16000000 in
theorem walk_newest (a0 : Option Addr) (len0 cap0 : Nat) (l : List ActD) (a : Nat) (ha : a < 4294967296) {w : World} (w0 : inSlice 37 inAct l w.heap.size w [.slice a0 len0 cap0]) (K : Kept w) :
    Calls Try.prog 8 #[.slice a0 len0 cap0, .int .u32 (a : Int)] w (RetYes w) := by
  have hal := ha
  obtain ⟨addr, haddr⟩ : ∃ x, x = a := ⟨_, rfl⟩
  rw [← haddr] at hal ⊢
  clear ha haddr a
  obtain ⟨hlen, hcap, hmax, _, hat⟩ := acts_inF (fun a h => act_len h) w0
  have SH := Lib.hid (shown_any K (Below.refl _ _))
  have HF := Lib.hid (few_any a0 len0 cap0 hcap hmax)
  have HAT := Lib.hid hat
  have HLEN := Lib.hid hlen
  have hmax2 : cap0 ≤ 9223372036854775807 := by unfold maxLen at hmax; omega
  obtain ⟨z, hz⟩ : ∃ c, c = wrC zeroW := ⟨_, rfl⟩
  have ZL : Hid (z.length = 36) := by show _ = 36; rw [hz]; exact zW_len
  have ZP : Hid ((Try.prog.info? 38).bind (·.zero) = some (.agg z.toArray)) := by rw [hz]; exact zero_wr
  have HZ := Lib.hid hz
  clear hat hlen w0 hmax hz
  go_enter Try.func8, Try.ntmps8
  go_wp2_with (fail)
  refine SH.out.mono ?_
  rintro e w1 ⟨rfl, h1⟩
  have H1 := Lib.hid ((Own.St.start w).later h1)
  clear h1 SH
  go_wp2_with (fail)
  refine (K.new H1.out.below H1.out).mono ?_
  rintro e w2 ⟨p, rfl, h2⟩
  have H3 := Lib.hid h2
  clear h2 H1
  go_wp2_with (fail)
  refine (HF.out w2).mono ?_
  rintro e w4 ⟨rfl, rfl⟩
  obtain ⟨k, hk⟩ : ∃ k, k = min len0 300 := ⟨_, rfl⟩
  rw [← hk]
  have hk1 : k ≤ len0 := by omega
  have hk2 : k ≤ 300 := by omega
  clear hk
  go_wp2_with (fail)
  go_loopw [26] (fun v26 wr => ∃ (i : Nat) (q : Q), i ≤ k ∧ v26 = .int .i64 (i : Int) ∧ Own.St w.heap.size w wr [K.A p q] ∧ Ok q i) (fun v26 _ => k - (intOf v26).toNat)
  case atStart => exact ⟨0, newQ, Nat.zero_le _, rfl, H3.out, ok_new⟩
  case round =>
    obtain ⟨i, q, hik, rfl, hH, hok⟩ := hrel
    have H := Lib.hid hH
    have OK := Lib.hid hok
    clear hH hok H3
    by_cases hi : (i : Int) < (k : Int)
    · have hi300 : i ≤ 300 := by omega
      have hil : i < l.length := by rw [← HLEN.out]; omega
      obtain ⟨b, o, rfl, hb, hact⟩ := HAT.out (by intro e; rw [e] at hil; simp at hil)
      obtain ⟨a, ha⟩ : ∃ a, a = l[i] := ⟨_, rfl⟩
      obtain ⟨hrng, hfit⟩ := hact wr (fun k hk => H.out.below.block k hk) i hil
      rw [← ha] at hrng hfit
      have HFIT := Lib.hid hfit
      obtain ⟨vs, hvs⟩ : ∃ vs, vs = actVs a := ⟨_, rfl⟩
      rw [← hvs] at hrng
      have HRNG := Lib.hid hrng
      have VL : Hid (vs.length = 37) := by show _ = 37; rw [hvs]; exact act_len hfit
      have VO : Hid (∀ u ∈ vs, u.oneCell' = true) := by rw [hvs]; exact act_one a
      have IA : Hid ((Try.prog.info? 40).map (·.size) = some vs.length) := by show _ = _; rw [VL.out]; exact boxy_act.size
      obtain ⟨ad, had⟩ : ∃ x, x = a.w.addr := ⟨_, rfl⟩
      have hadl : ad < 4294967296 := by rw [had]; exact hfit.addr
      obtain ⟨cw, hcw⟩ : ∃ c, c = wrC a.w := ⟨_, rfl⟩
      have CWL : Hid (cw.length = 36) := by show _ = 36; rw [hcw]; exact wrC_len _ hfit.sum
      have CWR : Hid (∀ (wx : World) (b7 : Nat), wx.rangeAt b7 0 vs → wx.rangeAt b7 1 cw) := by
        intro wx b7 h j u hu
        have := h (j + 1) u (by rw [hvs]; rw [hcw] at hu; exact hu)
        rw [Nat.zero_add, Nat.add_comm] at this
        exact this
      have V1 : Hid (vs[1]? = some (.int .u32 (ad : Int))) := by show _ = _; rw [hvs, had]; rfl
      have HCW := Lib.hid hcw
      rcases act_case a with hout | hout
      all_goals
        have V0 : Hid (vs[0]? = some (.bool a.out)) := by show _ = _; rw [hvs]; rfl
        rw [hout] at V0
        have hdo : doAct q a = if a.out then pop q else push q a.w := rfl
        rw [hout] at hdo
        have HDO := Lib.hid hdo
        have OK2 := Lib.hid (ok_act OK.out a hfit)
        clear hact hrng hfit ha hvs hil had hcw hout hdo hadl V1
      · skip
        go_wp2_with (first
          | (refine wpList_load_mid rfl 40 (.tmp 28) rfl b (o + i * 37) rfl vs _ HRNG.out Try.underlying40 rfl IA.out ?_)
          | (refine wpList_box2 boxy_act rfl rfl rfl (.tmp 8) (.tmp 29) rfl rfl vs (fun _ => rfl) (fun _ => rfl) VL.out VO.out H.out ?_; intro b7 w5 h; have H5 := Lib.hid h; have d0 := (h.cellV 0 rfl 0 V0.out).1; clear h)
          | (refine wpList_val rfl (load_wr cw CWL.out rfl _ (b := b7) (k := 1) (CWR.out _ _ (H5.out.boxRange 0 rfl)) rfl) ?_))
        clear H HRNG
        have P1 := Lib.hid (pop_lit K (Below.refl _ _) (Nat.le_refl _) (H5.out.front 1 rfl) OK.out (by omega) (b := isW q) (q' := pop q) rfl rfl rfl)
        clear d0
        refine P1.out.mono ?_
        clear P1 H5
        rintro e w6 ⟨rfl, h⟩
        have OKN := Lib.hid OK2.out
        rw [HDO.out] at OKN
        obtain ⟨qn, hqn⟩ : ∃ x, x = pop q := ⟨_, rfl⟩
        rw [← hqn] at h OKN
        have H6 := Lib.hid (Own.St.firsts (As := [K.A p qn]) h)
        clear h hqn OK2 HDO OK
        have AL := Lib.hid (K.all H6.out.below H6.out OKN.out (by omega))
        have HQF := Lib.hid OKN.out.fits
        have hnl : qn.L.length ≤ 10000 := Nat.le_trans OKN.out.len (by omega)
        obtain ⟨n, hn⟩ : ∃ n, n = qn.L.length := ⟨_, rfl⟩
        have NW := Lib.hid (new_all qn addr)
        have OW := Lib.hid (old_all qn)
        rw [← hn] at AL hnl NW OW
        have HNN := Lib.hid hn
        clear hn
        go_wp2_with (fail)
        refine AL.out.mono ?_
        clear AL H6
        rintro e w7 ⟨ar, cr, rfl, h, _⟩
        have H7 := Lib.hid h
        clear h
        go_wp2_with (first
          | (refine wpList_newZ z ZP.out rfl rfl H7.out ?_; intro b10 w8 h; have H8 := Lib.hid h; clear h)
          | (refine wpList_newZ z ZP.out rfl rfl H8.out ?_; intro b11 w9 h; have H9 := Lib.hid h; clear h))
        clear H7 H8
        go_loopw [12, 42] (fun v12 v42 wr => ∃ j : Nat, j ≤ n ∧ v12 = .bool (decide (lastF qn.L addr j ≠ 0)) ∧ v42 = .int .i64 (j : Int) ∧ Own.St w.heap.size w wr [AVals b11 38 (wrC (oldW qn.L j)), AVals b10 38 (wrC (newW qn.L addr j)), RowW (.slice ar n cr) qn.L n, K.A p qn]) (fun _ v42 _ => n - (intOf v42).toNat)
        case atStart =>
          refine ⟨0, Nat.zero_le _, rfl, rfl, ?_⟩
          have h := H9.out
          rw [HZ.out] at h
          exact h
        case round =>
          obtain ⟨j, hjn, rfl, rfl, hh⟩ := hrel
          have HI := Lib.hid hh
          clear hh H9
          obtain ⟨co, hco⟩ : ∃ c, c = wrC (oldW qn.L j) := ⟨_, rfl⟩
          obtain ⟨cn, hcn⟩ : ∃ c, c = wrC (newW qn.L addr j) := ⟨_, rfl⟩
          obtain ⟨bn, hbn⟩ : ∃ c, c = decide (lastF qn.L addr j ≠ 0) := ⟨_, rfl⟩
          have hjl : j ≤ qn.L.length := by rw [← HNN.out]; exact hjn
          have COL : Hid (co.length = 36) := by show _ = 36; rw [hco]; exact wrC_len _ (old_fits HQF.out j hjl).sum
          have CNL : Hid (cn.length = 36) := by show _ = 36; rw [hcn]; exact wrC_len _ (new_fits HQF.out addr j hjl).sum
          rw [← hco, ← hcn] at HI
          rw [← hbn]
          have HCO := Lib.hid hco
          have HCN := Lib.hid hcn
          have HBN := Lib.hid hbn
          clear hco hcn hbn
          by_cases hj : (j : Int) < (n : Int)
          · have hj2 : j < n := by omega
            have hjl2 : j < qn.L.length := by rw [← HNN.out]; exact hj2
            obtain ⟨g, hg, _, _⟩ := HI.out.rowAt 2 rfl (j * 36) (by omega)
            subst hg
            obtain ⟨F, hF⟩ : ∃ F, F = at_ qn.L j := ⟨_, rfl⟩
            have hFf : Fits F := by rw [hF]; exact HQF.out _ (at_mem hjl2)
            obtain ⟨cs, hcs⟩ : ∃ cs, cs = wrC F := ⟨_, rfl⟩
            have CL : Hid (cs.length = 36) := by show _ = 36; rw [hcs]; exact wrC_len _ hFf.sum
            have CO : Hid (∀ u ∈ cs, u.oneCell' = true) := by rw [hcs]; exact wrC_one _
            have R0 : Hid (World.rangeAt wr g (j * 36) cs) := by
              intro t u hu
              have ht : t < 36 := by rw [← CL.out]; exact (List.getElem?_eq_some_iff.1 hu).1
              obtain ⟨g', hg', ⟨u', h1, h2⟩, _⟩ := HI.out.rowAt 2 rfl (j * 36 + t) (by omega)
              cases hg'
              rw [flat_at wrC 36 qn.L (wrs_len qn.L HQF.out) j _ (at_get hjl2) t ht, ← hF, ← hcs, hu] at h1
              cases h1
              exact h2
            have hns := newW_step qn.L addr j
            have hnb := newB_step qn.L addr j
            rw [← hF] at hns hnb
            obtain ⟨fa, hfa⟩ : ∃ x, x = F.addr := ⟨_, rfl⟩
            have C0 : Hid (cs[0]? = some (.int .u32 (fa : Int))) := by show _ = _; rw [hcs, hfa]; rfl
            rw [← hfa] at hns hnb
            have HNS := Lib.hid hns
            have HNB := Lib.hid hnb
            have hos : j ≠ 0 → wrC (oldW qn.L (j + 1)) = co := fun h => by rw [HCO.out]; unfold oldW; rw [if_neg (by omega), if_neg h]
            have HOS := Lib.hid hos
            have hoz : j = 0 → wrC (oldW qn.L (j + 1)) = cs := fun h => by subst h; rw [hcs, hF]; rfl
            have HOZ := Lib.hid hoz
            have HCS := Lib.hid hcs
            clear hF hFf hcs hns hnb hfa hos hoz hjl hjl2
            by_cases hj0 : j = 0
            · subst hj0
              by_cases he : fa = addr
              · skip
                have E1 : Hid (wrC (newW qn.L addr (0 + 1)) = cs) := by show _ = _; rw [HNS.out, if_pos he, HCS.out]
                have E2 : Hid (decide (lastF qn.L addr (0 + 1) ≠ 0) = true) := by show _ = _; rw [HNB.out, if_pos he]
                have E3 : Hid (wrC (oldW qn.L (0 + 1)) = cs) := HOZ.out rfl
                have heb : ((fa : Int) == (addr : Int)) = true := by simp [he]
                subst he
                clear HNS HNB HOZ HOS HCS HCN HCO HBN
                go_wp2_with (first
                  | (refine wpList_val rfl (load_wr cs CL.out rfl _ (b := g) (k := 0 * 36) R0.out rfl) ?_)
                  | (refine wpList_val rfl (load_wr cs CL.out rfl _ (b := g) (k := 0) (by simpa using R0.out) rfl) ?_)
                  | (refine wpList_newZ z ZP.out rfl rfl HI.out ?_; intro b14 wx h; have HJ := Lib.hid h; clear h)
                  | (refine wpList_fill boxy_wr rfl (.tmp 14) (.tmp 46) rfl rfl HJ.out 0 rfl ZL.out cs rfl rfl CL.out CO.out ?_; intro wy h; simp only [List.set_cons_zero] at h; have HK := Lib.hid h; have e0 := (h.cellV 0 rfl 0 C0.out).1; clear h)
                  | (refine wpList_val rfl (load_wr cs CL.out rfl _ (b := b14) (k := 0) (HK.out.boxRange 0 rfl) rfl) ?_; refine wpList_fill boxy_wr rfl (.tmp 11) (.tmp 49) rfl rfl HK.out 1 rfl COL.out cs rfl rfl CL.out CO.out ?_; intro wz h; simp only [List.set_cons_zero, List.set_cons_succ] at h; have HL := Lib.hid h; have e0 := (h.cellV 0 rfl 0 C0.out).1; clear h)
                  | (refine wpList_val rfl (load_wr cs CL.out rfl _ (b := b14) (k := 0) (HL.out.boxRange 0 rfl) rfl) ?_; refine wpList_fill boxy_wr rfl (.tmp 10) (.tmp 54) rfl rfl HL.out 2 rfl CNL.out cs rfl rfl CL.out CO.out ?_; intro wu h; simp only [List.set_cons_zero, List.set_cons_succ] at h; have HM := Lib.hid h; clear h))
                go_roundw
                case rel =>
                  refine ⟨0 + 1, by omega, by rw [E2.out], by go_num, ?_⟩
                  rw [E1.out, E3.out]
                  exact HM.out.drop 1
                case measure => simp [intOf]; omega
              · skip
                have E1 : Hid (wrC (newW qn.L addr (0 + 1)) = cn) := by show _ = _; rw [HNS.out, if_neg he, HCN.out]
                have E2 : Hid (decide (lastF qn.L addr (0 + 1) ≠ 0) = bn) := by show _ = _; rw [HNB.out, if_neg he, HBN.out]
                have E3 : Hid (wrC (oldW qn.L (0 + 1)) = cs) := HOZ.out rfl
                have heb : ((fa : Int) == (addr : Int)) = false := by simp; omega
                clear he
                clear HNS HNB HOZ HOS HCS HCN HCO HBN
                go_wp2_with (first
                  | (refine wpList_val rfl (load_wr cs CL.out rfl _ (b := g) (k := 0 * 36) R0.out rfl) ?_)
                  | (refine wpList_val rfl (load_wr cs CL.out rfl _ (b := g) (k := 0) (by simpa using R0.out) rfl) ?_)
                  | (refine wpList_newZ z ZP.out rfl rfl HI.out ?_; intro b14 wx h; have HJ := Lib.hid h; clear h)
                  | (refine wpList_fill boxy_wr rfl (.tmp 14) (.tmp 46) rfl rfl HJ.out 0 rfl ZL.out cs rfl rfl CL.out CO.out ?_; intro wy h; simp only [List.set_cons_zero] at h; have HK := Lib.hid h; have e0 := (h.cellV 0 rfl 0 C0.out).1; clear h)
                  | (refine wpList_val rfl (load_wr cs CL.out rfl _ (b := b14) (k := 0) (HK.out.boxRange 0 rfl) rfl) ?_; refine wpList_fill boxy_wr rfl (.tmp 11) (.tmp 49) rfl rfl HK.out 1 rfl COL.out cs rfl rfl CL.out CO.out ?_; intro wz h; simp only [List.set_cons_zero, List.set_cons_succ] at h; have HL := Lib.hid h; have e0 := (h.cellV 0 rfl 0 C0.out).1; clear h))
                go_roundw
                case rel =>
                  refine ⟨0 + 1, by omega, by rw [E2.out], by go_num, ?_⟩
                  rw [E1.out, E3.out]
                  exact HL.out.drop 1
                case measure => simp [intOf]; omega
            · have hjb : ((j : Int) == 0) = false := by simp; omega
              by_cases he : fa = addr
              · skip
                have E1 : Hid (wrC (newW qn.L addr (j + 1)) = cs) := by show _ = _; rw [HNS.out, if_pos he, HCS.out]
                have E2 : Hid (decide (lastF qn.L addr (j + 1) ≠ 0) = true) := by show _ = _; rw [HNB.out, if_pos he]
                have E3 : Hid (wrC (oldW qn.L (j + 1)) = co) := HOS.out hj0
                have heb : ((fa : Int) == (addr : Int)) = true := by simp [he]
                subst he
                clear HNS HNB HOZ HOS HCS HCN HCO HBN
                clear hj0
                go_wp2_with (first
                  | (refine wpList_val rfl (load_wr cs CL.out rfl _ (b := g) (k := j * 36) R0.out rfl) ?_)
                  | (refine wpList_newZ z ZP.out rfl rfl HI.out ?_; intro b14 wx h; have HJ := Lib.hid h; clear h)
                  | (refine wpList_fill boxy_wr rfl (.tmp 14) (.tmp 46) rfl rfl HJ.out 0 rfl ZL.out cs rfl rfl CL.out CO.out ?_; intro wy h; simp only [List.set_cons_zero] at h; have HK := Lib.hid h; have e0 := (h.cellV 0 rfl 0 C0.out).1; clear h)
                  | (refine wpList_val rfl (load_wr cs CL.out rfl _ (b := b14) (k := 0) (HK.out.boxRange 0 rfl) rfl) ?_; refine wpList_fill boxy_wr rfl (.tmp 10) (.tmp 54) rfl rfl HK.out 2 rfl CNL.out cs rfl rfl CL.out CO.out ?_; intro wu h; simp only [List.set_cons_zero, List.set_cons_succ] at h; have HM := Lib.hid h; clear h))
                go_roundw
                case rel =>
                  refine ⟨j + 1, by omega, by rw [E2.out], by go_num, ?_⟩
                  rw [E1.out, E3.out]
                  exact HM.out.drop 1
                case measure => simp [intOf]; omega
              · skip
                have E1 : Hid (wrC (newW qn.L addr (j + 1)) = cn) := by show _ = _; rw [HNS.out, if_neg he, HCN.out]
                have E2 : Hid (decide (lastF qn.L addr (j + 1) ≠ 0) = bn) := by show _ = _; rw [HNB.out, if_neg he, HBN.out]
                have E3 : Hid (wrC (oldW qn.L (j + 1)) = co) := HOS.out hj0
                have heb : ((fa : Int) == (addr : Int)) = false := by simp; omega
                clear he
                clear HNS HNB HOZ HOS HCS HCN HCO HBN
                clear hj0
                go_wp2_with (first
                  | (refine wpList_val rfl (load_wr cs CL.out rfl _ (b := g) (k := j * 36) R0.out rfl) ?_)
                  | (refine wpList_newZ z ZP.out rfl rfl HI.out ?_; intro b14 wx h; have HJ := Lib.hid h; clear h)
                  | (refine wpList_fill boxy_wr rfl (.tmp 14) (.tmp 46) rfl rfl HJ.out 0 rfl ZL.out cs rfl rfl CL.out CO.out ?_; intro wy h; simp only [List.set_cons_zero] at h; have HK := Lib.hid h; have e0 := (h.cellV 0 rfl 0 C0.out).1; clear h))
                go_roundw
                case rel =>
                  refine ⟨j + 1, by omega, by rw [E2.out], by go_num, ?_⟩
                  rw [E1.out, E3.out]
                  exact HK.out.drop 1
                case measure => simp [intOf]; omega
          · obtain rfl : j = n := by omega
            have hcl : cn = wrC (lastW qn addr) := by rw [HCN.out, NW.out.1]
            have hbl : isLast qn addr = bn := by rw [HBN.out, NW.out.2]
            have hcf : co = wrC (frontW qn) := by rw [HCO.out, OW.out]
            have HCL := Lib.hid hcl
            have HCF := Lib.hid hcf
            have HBL := Lib.hid hbl
            have LS : Hid ((lastW qn addr).sum.length = 32) := (last_fits OKN.out addr).sum
            have FS : Hid ((frontW qn).sum.length = 32) := (front_fits OKN.out).sum
            have CNO : Hid (∀ u ∈ cn, u.oneCell' = true) := by rw [hcl]; exact wrC_one _
            have COO : Hid (∀ u ∈ co, u.oneCell' = true) := by rw [hcf]; exact wrC_one _
            obtain ⟨fi, hfi⟩ : ∃ b, b = isW qn := ⟨_, rfl⟩
            have hfi2 : fi = decide (0 < j) := by rw [hfi, HNN.out]; rfl
            have FR : Hid (∀ wx Qs, Own.St w.heap.size w wx (K.A p qn :: Qs) → Calls Try.prog 26 #[ptr p] wx fun e w' => e = .returned (.tuple #[.agg co.toArray, .bool fi]) ∧ Own.St w.heap.size w w' (K.A p qn :: Qs)) := by
              rw [hcf, hfi]
              exact fun wx Qs h => (K.front h.below h OKN.out (by omega)).mono fun e w' ⟨h1, h2⟩ => ⟨h1, h.later h2⟩
            have LN : Hid (∀ wx Qs, Own.St w.heap.size w wx (K.A p qn :: Qs) → Calls Try.prog 27 #[ptr p] wx fun e w' => e = .returned (.int .i64 (j : Int)) ∧ Below wx.heap.size wx w') := by
              rw [HNN.out]
              exact fun wx Qs h => K.len h.below h OKN.out (by omega)
            have LA := Lib.hid (last_lit K (Below.refl _ _) (Nat.le_refl _) (HI.out.front 3 rfl) OKN.out (by omega) addr hal (b := bn) hbl hcl)
            clear hcl hbl hcf hfi HCN HCO HBN hjl
            have hgt : fi = true ∧ (j : Int) > 0 ∨ fi = false ∧ ¬ (j : Int) > 0 := by
              rw [hfi2]
              by_cases h : 0 < j
              · exact .inl ⟨decide_eq_true h, by omega⟩
              · exact .inr ⟨decide_eq_false h, by omega⟩
            clear hfi2 hj
            go_wp2_with (fail)
            refine LA.out.mono ?_
            clear LA
            rintro e wa ⟨rfl, h⟩
            have HJ := Lib.hid h
            clear h HI
            go_wp2_with (refine wpList_box2 boxy_wr rfl rfl rfl (.tmp 15) (.tmp 60) rfl rfl cn (fun _ => rfl) (fun _ => rfl) CNL.out CNO.out HJ.out ?_; intro b15 wb h; have HK := Lib.hid h; clear h)
            refine (FR.out _ _ (HK.out.front 1 rfl)).mono ?_
            clear FR
            rintro e wc ⟨rfl, h⟩
            have HL := Lib.hid h
            clear h HJ HK
            have HP := trivial
            rcases hgt with ⟨rfl, hg⟩ | ⟨rfl, hg⟩
            all_goals
              go_wp2_with (first
                | (refine wpList_box2 boxy_wr rfl rfl rfl (.tmp 17) (.tmp 65) rfl rfl co (fun _ => rfl) (fun _ => rfl) COL.out COO.out HL.out ?_; intro b17 wd h; have HM := Lib.hid h; clear h)
                | (refine wpList_val rfl (load_wr cn CNL.out rfl _ (b := b15) (k := 0) (HM.out.boxRange 2 rfl) rfl) ?_)
                | (refine wpList_val rfl (load_wr cn CNL.out rfl _ (b := b10) (k := 0) (HM.out.boxRange 4 rfl) rfl) ?_)
                | (refine wpList_val rfl (load_wr co COL.out rfl _ (b := b17) (k := 0) (HM.out.boxRange 0 rfl) rfl) ?_)
                | (refine wpList_val rfl (load_wr co COL.out rfl _ (b := b11) (k := 0) (HM.out.boxRange 3 rfl) rfl) ?_)
                | (refine wpList_val rfl (neq_wr rfl (lastW qn addr) HCL.out LS.out _ _ rfl rfl) ?_)
                | (refine wpList_val rfl (neq_wr rfl (frontW qn) HCF.out FS.out _ _ rfl rfl) ?_))
              refine (LN.out _ _ (HM.out.front 1 rfl)).mono ?_
              rintro e we ⟨rfl, h⟩
              have HN := Lib.hid (Own.St.firsts (As := [K.A p qn]) ((HM.out.later h).front 1 rfl))
              clear h
              go_wp2_with (fail)
              go_roundw
              case rel => exact ⟨i + 1, qn, by omega, by go_num, HN.out, OKN.out⟩
              case measure => simp [intOf]; omega
      · skip
        go_wp2_with (first
          | (refine wpList_load_mid rfl 40 (.tmp 28) rfl b (o + i * 37) rfl vs _ HRNG.out Try.underlying40 rfl IA.out ?_)
          | (refine wpList_box2 boxy_act rfl rfl rfl (.tmp 8) (.tmp 29) rfl rfl vs (fun _ => rfl) (fun _ => rfl) VL.out VO.out H.out ?_; intro b7 w5 h; have H5 := Lib.hid h; have d0 := (h.cellV 0 rfl 0 V0.out).1; clear h)
          | (refine wpList_val rfl (load_wr cw CWL.out rfl _ (b := b7) (k := 1) (CWR.out _ _ (H5.out.boxRange 0 rfl)) rfl) ?_))
        clear H HRNG
        have P1 := Lib.hid (push_lit K (Below.refl _ _) (Nat.le_refl _) (H5.out.front 1 rfl) OK.out (by omega) HFIT.out (n := pushN q a.w) (m := pushE q a.w) (q' := push q a.w) rfl rfl rfl HCW.out)
        clear d0
        refine P1.out.mono ?_
        clear P1 H5
        rintro e w6 ⟨rfl, h⟩
        have OKN := Lib.hid OK2.out
        rw [HDO.out] at OKN
        obtain ⟨qn, hqn⟩ : ∃ x, x = push q a.w := ⟨_, rfl⟩
        rw [← hqn] at h OKN
        have H6 := Lib.hid (Own.St.firsts (As := [K.A p qn]) h)
        clear h hqn OK2 HDO OK
        have AL := Lib.hid (K.all H6.out.below H6.out OKN.out (by omega))
        have HQF := Lib.hid OKN.out.fits
        have hnl : qn.L.length ≤ 10000 := Nat.le_trans OKN.out.len (by omega)
        obtain ⟨n, hn⟩ : ∃ n, n = qn.L.length := ⟨_, rfl⟩
        have NW := Lib.hid (new_all qn addr)
        have OW := Lib.hid (old_all qn)
        rw [← hn] at AL hnl NW OW
        have HNN := Lib.hid hn
        clear hn
        go_wp2_with (fail)
        refine AL.out.mono ?_
        clear AL H6
        rintro e w7 ⟨ar, cr, rfl, h, _⟩
        have H7 := Lib.hid h
        clear h
        go_wp2_with (first
          | (refine wpList_newZ z ZP.out rfl rfl H7.out ?_; intro b10 w8 h; have H8 := Lib.hid h; clear h)
          | (refine wpList_newZ z ZP.out rfl rfl H8.out ?_; intro b11 w9 h; have H9 := Lib.hid h; clear h))
        clear H7 H8
        go_loopw [12, 42] (fun v12 v42 wr => ∃ j : Nat, j ≤ n ∧ v12 = .bool (decide (lastF qn.L addr j ≠ 0)) ∧ v42 = .int .i64 (j : Int) ∧ Own.St w.heap.size w wr [AVals b11 38 (wrC (oldW qn.L j)), AVals b10 38 (wrC (newW qn.L addr j)), RowW (.slice ar n cr) qn.L n, K.A p qn]) (fun _ v42 _ => n - (intOf v42).toNat)
        case atStart =>
          refine ⟨0, Nat.zero_le _, rfl, rfl, ?_⟩
          have h := H9.out
          rw [HZ.out] at h
          exact h
        case round =>
          obtain ⟨j, hjn, rfl, rfl, hh⟩ := hrel
          have HI := Lib.hid hh
          clear hh H9
          obtain ⟨co, hco⟩ : ∃ c, c = wrC (oldW qn.L j) := ⟨_, rfl⟩
          obtain ⟨cn, hcn⟩ : ∃ c, c = wrC (newW qn.L addr j) := ⟨_, rfl⟩
          obtain ⟨bn, hbn⟩ : ∃ c, c = decide (lastF qn.L addr j ≠ 0) := ⟨_, rfl⟩
          have hjl : j ≤ qn.L.length := by rw [← HNN.out]; exact hjn
          have COL : Hid (co.length = 36) := by show _ = 36; rw [hco]; exact wrC_len _ (old_fits HQF.out j hjl).sum
          have CNL : Hid (cn.length = 36) := by show _ = 36; rw [hcn]; exact wrC_len _ (new_fits HQF.out addr j hjl).sum
          rw [← hco, ← hcn] at HI
          rw [← hbn]
          have HCO := Lib.hid hco
          have HCN := Lib.hid hcn
          have HBN := Lib.hid hbn
          clear hco hcn hbn
          by_cases hj : (j : Int) < (n : Int)
          · have hj2 : j < n := by omega
            have hjl2 : j < qn.L.length := by rw [← HNN.out]; exact hj2
            obtain ⟨g, hg, _, _⟩ := HI.out.rowAt 2 rfl (j * 36) (by omega)
            subst hg
            obtain ⟨F, hF⟩ : ∃ F, F = at_ qn.L j := ⟨_, rfl⟩
            have hFf : Fits F := by rw [hF]; exact HQF.out _ (at_mem hjl2)
            obtain ⟨cs, hcs⟩ : ∃ cs, cs = wrC F := ⟨_, rfl⟩
            have CL : Hid (cs.length = 36) := by show _ = 36; rw [hcs]; exact wrC_len _ hFf.sum
            have CO : Hid (∀ u ∈ cs, u.oneCell' = true) := by rw [hcs]; exact wrC_one _
            have R0 : Hid (World.rangeAt wr g (j * 36) cs) := by
              intro t u hu
              have ht : t < 36 := by rw [← CL.out]; exact (List.getElem?_eq_some_iff.1 hu).1
              obtain ⟨g', hg', ⟨u', h1, h2⟩, _⟩ := HI.out.rowAt 2 rfl (j * 36 + t) (by omega)
              cases hg'
              rw [flat_at wrC 36 qn.L (wrs_len qn.L HQF.out) j _ (at_get hjl2) t ht, ← hF, ← hcs, hu] at h1
              cases h1
              exact h2
            have hns := newW_step qn.L addr j
            have hnb := newB_step qn.L addr j
            rw [← hF] at hns hnb
            obtain ⟨fa, hfa⟩ : ∃ x, x = F.addr := ⟨_, rfl⟩
            have C0 : Hid (cs[0]? = some (.int .u32 (fa : Int))) := by show _ = _; rw [hcs, hfa]; rfl
            rw [← hfa] at hns hnb
            have HNS := Lib.hid hns
            have HNB := Lib.hid hnb
            have hos : j ≠ 0 → wrC (oldW qn.L (j + 1)) = co := fun h => by rw [HCO.out]; unfold oldW; rw [if_neg (by omega), if_neg h]
            have HOS := Lib.hid hos
            have hoz : j = 0 → wrC (oldW qn.L (j + 1)) = cs := fun h => by subst h; rw [hcs, hF]; rfl
            have HOZ := Lib.hid hoz
            have HCS := Lib.hid hcs
            clear hF hFf hcs hns hnb hfa hos hoz hjl hjl2
            by_cases hj0 : j = 0
            · subst hj0
              by_cases he : fa = addr
              · skip
                have E1 : Hid (wrC (newW qn.L addr (0 + 1)) = cs) := by show _ = _; rw [HNS.out, if_pos he, HCS.out]
                have E2 : Hid (decide (lastF qn.L addr (0 + 1) ≠ 0) = true) := by show _ = _; rw [HNB.out, if_pos he]
                have E3 : Hid (wrC (oldW qn.L (0 + 1)) = cs) := HOZ.out rfl
                have heb : ((fa : Int) == (addr : Int)) = true := by simp [he]
                subst he
                clear HNS HNB HOZ HOS HCS HCN HCO HBN
                go_wp2_with (first
                  | (refine wpList_val rfl (load_wr cs CL.out rfl _ (b := g) (k := 0 * 36) R0.out rfl) ?_)
                  | (refine wpList_val rfl (load_wr cs CL.out rfl _ (b := g) (k := 0) (by simpa using R0.out) rfl) ?_)
                  | (refine wpList_newZ z ZP.out rfl rfl HI.out ?_; intro b14 wx h; have HJ := Lib.hid h; clear h)
                  | (refine wpList_fill boxy_wr rfl (.tmp 14) (.tmp 46) rfl rfl HJ.out 0 rfl ZL.out cs rfl rfl CL.out CO.out ?_; intro wy h; simp only [List.set_cons_zero] at h; have HK := Lib.hid h; have e0 := (h.cellV 0 rfl 0 C0.out).1; clear h)
                  | (refine wpList_val rfl (load_wr cs CL.out rfl _ (b := b14) (k := 0) (HK.out.boxRange 0 rfl) rfl) ?_; refine wpList_fill boxy_wr rfl (.tmp 11) (.tmp 49) rfl rfl HK.out 1 rfl COL.out cs rfl rfl CL.out CO.out ?_; intro wz h; simp only [List.set_cons_zero, List.set_cons_succ] at h; have HL := Lib.hid h; have e0 := (h.cellV 0 rfl 0 C0.out).1; clear h)
                  | (refine wpList_val rfl (load_wr cs CL.out rfl _ (b := b14) (k := 0) (HL.out.boxRange 0 rfl) rfl) ?_; refine wpList_fill boxy_wr rfl (.tmp 10) (.tmp 54) rfl rfl HL.out 2 rfl CNL.out cs rfl rfl CL.out CO.out ?_; intro wu h; simp only [List.set_cons_zero, List.set_cons_succ] at h; have HM := Lib.hid h; clear h))
                go_roundw
                case rel =>
                  refine ⟨0 + 1, by omega, by rw [E2.out], by go_num, ?_⟩
                  rw [E1.out, E3.out]
                  exact HM.out.drop 1
                case measure => simp [intOf]; omega
              · skip
                have E1 : Hid (wrC (newW qn.L addr (0 + 1)) = cn) := by show _ = _; rw [HNS.out, if_neg he, HCN.out]
                have E2 : Hid (decide (lastF qn.L addr (0 + 1) ≠ 0) = bn) := by show _ = _; rw [HNB.out, if_neg he, HBN.out]
                have E3 : Hid (wrC (oldW qn.L (0 + 1)) = cs) := HOZ.out rfl
                have heb : ((fa : Int) == (addr : Int)) = false := by simp; omega
                clear he
                clear HNS HNB HOZ HOS HCS HCN HCO HBN
                go_wp2_with (first
                  | (refine wpList_val rfl (load_wr cs CL.out rfl _ (b := g) (k := 0 * 36) R0.out rfl) ?_)
                  | (refine wpList_val rfl (load_wr cs CL.out rfl _ (b := g) (k := 0) (by simpa using R0.out) rfl) ?_)
                  | (refine wpList_newZ z ZP.out rfl rfl HI.out ?_; intro b14 wx h; have HJ := Lib.hid h; clear h)
                  | (refine wpList_fill boxy_wr rfl (.tmp 14) (.tmp 46) rfl rfl HJ.out 0 rfl ZL.out cs rfl rfl CL.out CO.out ?_; intro wy h; simp only [List.set_cons_zero] at h; have HK := Lib.hid h; have e0 := (h.cellV 0 rfl 0 C0.out).1; clear h)
                  | (refine wpList_val rfl (load_wr cs CL.out rfl _ (b := b14) (k := 0) (HK.out.boxRange 0 rfl) rfl) ?_; refine wpList_fill boxy_wr rfl (.tmp 11) (.tmp 49) rfl rfl HK.out 1 rfl COL.out cs rfl rfl CL.out CO.out ?_; intro wz h; simp only [List.set_cons_zero, List.set_cons_succ] at h; have HL := Lib.hid h; have e0 := (h.cellV 0 rfl 0 C0.out).1; clear h))
                go_roundw
                case rel =>
                  refine ⟨0 + 1, by omega, by rw [E2.out], by go_num, ?_⟩
                  rw [E1.out, E3.out]
                  exact HL.out.drop 1
                case measure => simp [intOf]; omega
            · have hjb : ((j : Int) == 0) = false := by simp; omega
              by_cases he : fa = addr
              · skip
                have E1 : Hid (wrC (newW qn.L addr (j + 1)) = cs) := by show _ = _; rw [HNS.out, if_pos he, HCS.out]
                have E2 : Hid (decide (lastF qn.L addr (j + 1) ≠ 0) = true) := by show _ = _; rw [HNB.out, if_pos he]
                have E3 : Hid (wrC (oldW qn.L (j + 1)) = co) := HOS.out hj0
                have heb : ((fa : Int) == (addr : Int)) = true := by simp [he]
                subst he
                clear HNS HNB HOZ HOS HCS HCN HCO HBN
                clear hj0
                go_wp2_with (first
                  | (refine wpList_val rfl (load_wr cs CL.out rfl _ (b := g) (k := j * 36) R0.out rfl) ?_)
                  | (refine wpList_newZ z ZP.out rfl rfl HI.out ?_; intro b14 wx h; have HJ := Lib.hid h; clear h)
                  | (refine wpList_fill boxy_wr rfl (.tmp 14) (.tmp 46) rfl rfl HJ.out 0 rfl ZL.out cs rfl rfl CL.out CO.out ?_; intro wy h; simp only [List.set_cons_zero] at h; have HK := Lib.hid h; have e0 := (h.cellV 0 rfl 0 C0.out).1; clear h)
                  | (refine wpList_val rfl (load_wr cs CL.out rfl _ (b := b14) (k := 0) (HK.out.boxRange 0 rfl) rfl) ?_; refine wpList_fill boxy_wr rfl (.tmp 10) (.tmp 54) rfl rfl HK.out 2 rfl CNL.out cs rfl rfl CL.out CO.out ?_; intro wu h; simp only [List.set_cons_zero, List.set_cons_succ] at h; have HM := Lib.hid h; clear h))
                go_roundw
                case rel =>
                  refine ⟨j + 1, by omega, by rw [E2.out], by go_num, ?_⟩
                  rw [E1.out, E3.out]
                  exact HM.out.drop 1
                case measure => simp [intOf]; omega
              · skip
                have E1 : Hid (wrC (newW qn.L addr (j + 1)) = cn) := by show _ = _; rw [HNS.out, if_neg he, HCN.out]
                have E2 : Hid (decide (lastF qn.L addr (j + 1) ≠ 0) = bn) := by show _ = _; rw [HNB.out, if_neg he, HBN.out]
                have E3 : Hid (wrC (oldW qn.L (j + 1)) = co) := HOS.out hj0
                have heb : ((fa : Int) == (addr : Int)) = false := by simp; omega
                clear he
                clear HNS HNB HOZ HOS HCS HCN HCO HBN
                clear hj0
                go_wp2_with (first
                  | (refine wpList_val rfl (load_wr cs CL.out rfl _ (b := g) (k := j * 36) R0.out rfl) ?_)
                  | (refine wpList_newZ z ZP.out rfl rfl HI.out ?_; intro b14 wx h; have HJ := Lib.hid h; clear h)
                  | (refine wpList_fill boxy_wr rfl (.tmp 14) (.tmp 46) rfl rfl HJ.out 0 rfl ZL.out cs rfl rfl CL.out CO.out ?_; intro wy h; simp only [List.set_cons_zero] at h; have HK := Lib.hid h; have e0 := (h.cellV 0 rfl 0 C0.out).1; clear h))
                go_roundw
                case rel =>
                  refine ⟨j + 1, by omega, by rw [E2.out], by go_num, ?_⟩
                  rw [E1.out, E3.out]
                  exact HK.out.drop 1
                case measure => simp [intOf]; omega
          · obtain rfl : j = n := by omega
            have hcl : cn = wrC (lastW qn addr) := by rw [HCN.out, NW.out.1]
            have hbl : isLast qn addr = bn := by rw [HBN.out, NW.out.2]
            have hcf : co = wrC (frontW qn) := by rw [HCO.out, OW.out]
            have HCL := Lib.hid hcl
            have HCF := Lib.hid hcf
            have HBL := Lib.hid hbl
            have LS : Hid ((lastW qn addr).sum.length = 32) := (last_fits OKN.out addr).sum
            have FS : Hid ((frontW qn).sum.length = 32) := (front_fits OKN.out).sum
            have CNO : Hid (∀ u ∈ cn, u.oneCell' = true) := by rw [hcl]; exact wrC_one _
            have COO : Hid (∀ u ∈ co, u.oneCell' = true) := by rw [hcf]; exact wrC_one _
            obtain ⟨fi, hfi⟩ : ∃ b, b = isW qn := ⟨_, rfl⟩
            have hfi2 : fi = decide (0 < j) := by rw [hfi, HNN.out]; rfl
            have FR : Hid (∀ wx Qs, Own.St w.heap.size w wx (K.A p qn :: Qs) → Calls Try.prog 26 #[ptr p] wx fun e w' => e = .returned (.tuple #[.agg co.toArray, .bool fi]) ∧ Own.St w.heap.size w w' (K.A p qn :: Qs)) := by
              rw [hcf, hfi]
              exact fun wx Qs h => (K.front h.below h OKN.out (by omega)).mono fun e w' ⟨h1, h2⟩ => ⟨h1, h.later h2⟩
            have LN : Hid (∀ wx Qs, Own.St w.heap.size w wx (K.A p qn :: Qs) → Calls Try.prog 27 #[ptr p] wx fun e w' => e = .returned (.int .i64 (j : Int)) ∧ Below wx.heap.size wx w') := by
              rw [HNN.out]
              exact fun wx Qs h => K.len h.below h OKN.out (by omega)
            have LA := Lib.hid (last_lit K (Below.refl _ _) (Nat.le_refl _) (HI.out.front 3 rfl) OKN.out (by omega) addr hal (b := bn) hbl hcl)
            clear hcl hbl hcf hfi HCN HCO HBN hjl
            have hgt : fi = true ∧ (j : Int) > 0 ∨ fi = false ∧ ¬ (j : Int) > 0 := by
              rw [hfi2]
              by_cases h : 0 < j
              · exact .inl ⟨decide_eq_true h, by omega⟩
              · exact .inr ⟨decide_eq_false h, by omega⟩
            clear hfi2 hj
            go_wp2_with (fail)
            refine LA.out.mono ?_
            clear LA
            rintro e wa ⟨rfl, h⟩
            have HJ := Lib.hid h
            clear h HI
            go_wp2_with (refine wpList_box2 boxy_wr rfl rfl rfl (.tmp 15) (.tmp 60) rfl rfl cn (fun _ => rfl) (fun _ => rfl) CNL.out CNO.out HJ.out ?_; intro b15 wb h; have HK := Lib.hid h; clear h)
            refine (FR.out _ _ (HK.out.front 1 rfl)).mono ?_
            clear FR
            rintro e wc ⟨rfl, h⟩
            have HL := Lib.hid h
            clear h HJ HK
            have HP := trivial
            rcases hgt with ⟨rfl, hg⟩ | ⟨rfl, hg⟩
            all_goals
              go_wp2_with (first
                | (refine wpList_box2 boxy_wr rfl rfl rfl (.tmp 17) (.tmp 65) rfl rfl co (fun _ => rfl) (fun _ => rfl) COL.out COO.out HL.out ?_; intro b17 wd h; have HM := Lib.hid h; clear h)
                | (refine wpList_val rfl (load_wr cn CNL.out rfl _ (b := b15) (k := 0) (HM.out.boxRange 2 rfl) rfl) ?_)
                | (refine wpList_val rfl (load_wr cn CNL.out rfl _ (b := b10) (k := 0) (HM.out.boxRange 4 rfl) rfl) ?_)
                | (refine wpList_val rfl (load_wr co COL.out rfl _ (b := b17) (k := 0) (HM.out.boxRange 0 rfl) rfl) ?_)
                | (refine wpList_val rfl (load_wr co COL.out rfl _ (b := b11) (k := 0) (HM.out.boxRange 3 rfl) rfl) ?_)
                | (refine wpList_val rfl (neq_wr rfl (lastW qn addr) HCL.out LS.out _ _ rfl rfl) ?_)
                | (refine wpList_val rfl (neq_wr rfl (frontW qn) HCF.out FS.out _ _ rfl rfl) ?_))
              refine (LN.out _ _ (HM.out.front 1 rfl)).mono ?_
              rintro e we ⟨rfl, h⟩
              have HN := Lib.hid (Own.St.firsts (As := [K.A p qn]) ((HM.out.later h).front 1 rfl))
              clear h
              go_wp2_with (fail)
              go_roundw
              case rel => exact ⟨i + 1, qn, by omega, by go_num, HN.out, OKN.out⟩
              case measure => simp [intOf]; omega
    · go_wp2
      go_ret
      exact ⟨rfl, H.out.below⟩
end
end Que
end Go.Proofs.Ytepbdjgfaljbgaa

end
section
namespace Go.Proofs.Ytepbdjgfaljbgaa
open Go.RowKit Go.Own
namespace Que
open Go.QueM Byt
/-- what is told of an act -/
def playN (q : Q) (a : ActD) : Nat := if a.out then (frontW q).seq else pushN q a.w
def playB (q : Q) (a : ActD) : Bool := if a.out then isW q else decide (pushE q a.w = 0)
section
variable {W w : World} {Ps : List Asn} {p k : Nat} {v : Value} {q q' : Q} {N : Nat}
set_option maxRecDepth 10000 in
set_option maxHeartbeats 8000000 in
theorem play_any (K : Kept W) (H : Own.St W.heap.size W w (K.A p q :: Ps)) (ok : Ok q N) (hN : N ≤ 10000) (a : ActD) (f : FitA a) :
    Calls Try.prog 24 #[ptr p, .agg (actVs a).toArray] w fun e w' => e = .returned (.tuple #[.int .u64 (playN q a : Int), .bool (playB q a)]) ∧ Own.St W.heap.size W w' (K.A p (doAct q a) :: Ps) := by
  obtain ⟨vs, hvs⟩ : ∃ vs, vs = actVs a := ⟨_, rfl⟩
  rw [← hvs]
  have hbox := H.boxV 40 vs
  obtain ⟨b, hb⟩ : ∃ b, b = w.heap.size := ⟨_, rfl⟩
  obtain ⟨w1, hw1⟩ : ∃ w1, w1 = w.alloc (.cells vs.toArray 40) := ⟨_, rfl⟩
  rw [← hb, ← hw1] at hbox
  have H1 := Lib.hid hbox
  obtain ⟨cw, hcw⟩ : ∃ c, c = wrC a.w := ⟨_, rfl⟩
  have CWL : Hid (cw.length = 36) := by show _ = 36; rw [hcw]; exact wrC_len _ f.sum
  have CWR : Hid (∀ (wx : World), wx.rangeAt b 0 vs → wx.rangeAt b 1 cw) := by
    intro wx h j u hu
    have := h (j + 1) u (by rw [hvs]; rw [hcw] at hu; exact hu)
    rw [Nat.zero_add, Nat.add_comm] at this
    exact this
  have d0 := (hbox.cellV 0 rfl 0 (v := .bool a.out) (by rw [hvs]; rfl)).1
  rw [hw1, hb] at d0
  have HW1 := Lib.hid hw1
  have HB := Lib.hid hb
  have HCW := Lib.hid hcw
  have OK := Lib.hid ok
  have F := Lib.hid f
  obtain ⟨out, hout⟩ : ∃ o, o = a.out := ⟨_, rfl⟩
  have hN2 : playN q a = if out then (frontW q).seq else pushN q a.w := by rw [hout]; rfl
  have hB2 : playB q a = if out then isW q else decide (pushE q a.w = 0) := by rw [hout]; rfl
  have hD2 : doAct q a = if out then pop q else push q a.w := by rw [hout]; rfl
  rw [hN2, hB2, hD2]
  rw [← hout] at d0
  clear hbox hb hw1 hvs hcw hout hN2 hB2 hD2 H ok f
  cases out
  · simp only [Bool.false_eq_true, if_false]
    obtain ⟨n, hn⟩ : ∃ F, F = pushN q a.w := ⟨_, rfl⟩
    obtain ⟨er, her⟩ : ∃ b, b = pushE q a.w := ⟨_, rfl⟩
    have P1 := Lib.hid (push_lit K (Below.refl _ _) (Nat.le_refl _) (H1.out.front 1 rfl) OK.out hN F.out (n := n) (m := er) (q' := push q a.w) hn.symm her.symm rfl HCW.out)
    rw [← hn, ← her]
    have hdec : decide (er = 0) = ((er : Int) == 0) := by
      by_cases h : er = 0
      · subst h; rfl
      · rw [decide_eq_false h]; symm; simp; omega
    rw [hdec]
    have RB := Lib.hid (CWR.out _ (H1.out.boxRange 0 rfl))
    clear hn her hdec
    go_enter Try.func24, Try.ntmps24
    go_wp2_with (refine wpList_val rfl (load_wr cw CWL.out rfl _ (b := b) (k := 1) (by rw [← HW1.out]; exact RB.out) (by rw [HB.out]; rfl)) ?_)
    rw [← HW1.out]
    refine P1.out.mono ?_
    clear P1 d0 RB
    rintro e w2 ⟨rfl, h⟩
    have H2 := Lib.hid (h.swap2.drop 1)
    clear h
    go_wp2_with (fail)
    go_ret2
    exact ⟨rfl, H2.out⟩
  · simp only [if_true]
    obtain ⟨G, hG⟩ : ∃ F, F = wrC (frontW q) := ⟨_, rfl⟩
    have GL : Hid (G.length = 36) := by show _ = 36; rw [hG]; exact wrC_len _ (front_fits OK.out).sum
    have GO : Hid (∀ u ∈ G, u.oneCell' = true) := by rw [hG]; exact wrC_one _
    have G1 : Hid (G[1]? = some (.int .u64 ((frontW q).seq : Int))) := by show _ = _; rw [hG]; rfl
    obtain ⟨sq, hsq⟩ : ∃ x, x = (frontW q).seq := ⟨_, rfl⟩
    rw [← hsq] at G1 ⊢
    obtain ⟨is, his⟩ : ∃ x, x = isW q := ⟨_, rfl⟩
    have P1 := Lib.hid (pop_lit K (Below.refl _ _) (Nat.le_refl _) (H1.out.front 1 rfl) OK.out hN (b := is) (q' := pop q) his.symm rfl hG)
    rw [← his]
    clear hG hsq his
    go_enter Try.func24, Try.ntmps24
    go_wp2_with (fail)
    rw [← HW1.out]
    refine P1.out.mono ?_
    clear P1 d0
    rintro e w2 ⟨rfl, h⟩
    have H2 := Lib.hid (h.swap2.drop 1)
    clear h
    go_wp2_with (refine wpList_box2 boxy_wr rfl rfl rfl (.tmp 6) (.tmp 15) rfl rfl G (fun _ => rfl) (fun _ => rfl) GL.out GO.out H2.out ?_; intro b6 w7 h; have H3 := Lib.hid h; have e1 := (h.cellV 0 rfl 1 G1.out).1; clear h)
    go_ret2
    exact ⟨rfl, H3.out.drop 1⟩
set_option maxRecDepth 10000 in
set_option maxHeartbeats 16000000 in
theorem walk_back (a0 : Option Addr) (len0 cap0 : Nat) (l : List ActD) (a1 : Option Addr) (len1 cap1 : Nat) (l1 : List ActD) {w : World} (w0 : inSlice 37 inAct l w.heap.size w [.slice a0 len0 cap0]) (w1 : inSlice 37 inAct l1 w.heap.size w [.slice a1 len1 cap1]) (K : Kept w) :
    Calls Try.prog 6 #[.slice a0 len0 cap0, .slice a1 len1 cap1] w (RetYes w) := by
  obtain ⟨hlen, hcap, hmax, _, hat⟩ := acts_inF (fun a h => act_len h) w0
  obtain ⟨hlen1, hcap1, hmax1, _, hat1⟩ := acts_inF (fun a h => act_len h) w1
  have SH := Lib.hid (shown_any K (Below.refl _ _))
  have HF := Lib.hid (few_any a0 len0 cap0 hcap hmax)
  have HF1 := Lib.hid (few_any a1 len1 cap1 hcap1 hmax1)
  have HAT := Lib.hid hat
  have HLEN := Lib.hid hlen
  have HAT1 := Lib.hid hat1
  have HLEN1 := Lib.hid hlen1
  have hmax2 : cap0 ≤ 9223372036854775807 := by unfold maxLen at hmax; omega
  have hmax3 : cap1 ≤ 9223372036854775807 := by unfold maxLen at hmax1; omega
  clear hat hlen w0 hmax hat1 hlen1 w1 hmax1
  go_enter Try.func6, Try.ntmps6
  go_wp2_with (fail)
  refine SH.out.mono ?_
  rintro e wa ⟨rfl, h1⟩
  have H1 := Lib.hid ((Own.St.start w).later h1)
  clear h1 SH
  go_wp2_with (fail)
  refine (K.new H1.out.below H1.out).mono ?_
  rintro e w2 ⟨p, rfl, h2⟩
  have H3 := Lib.hid h2
  clear h2 H1
  go_wp2_with (fail)
  refine (HF.out w2).mono ?_
  rintro e w4 ⟨rfl, rfl⟩
  obtain ⟨k, hk⟩ : ∃ k, k = min len0 300 := ⟨_, rfl⟩
  rw [← hk]
  have hk1 : k ≤ len0 := by omega
  have hk2 : k ≤ 300 := by omega
  clear hk
  go_wp2_with (fail)
  go_loopw [25] (fun v25 wr => ∃ (i : Nat) (q : Q), i ≤ k ∧ v25 = .int .i64 (i : Int) ∧ Own.St w.heap.size w wr [K.A p q] ∧ Ok q i) (fun v25 _ => k - (intOf v25).toNat)
  case atStart => exact ⟨0, newQ, Nat.zero_le _, rfl, H3.out, ok_new⟩
  case round =>
    obtain ⟨i, q, hik, rfl, hH, hok⟩ := hrel
    have H := Lib.hid hH
    have OK := Lib.hid hok
    clear hH hok H3
    by_cases hi : (i : Int) < (k : Int)
    · have hi300 : i ≤ 300 := by omega
      have hil : i < l.length := by rw [← HLEN.out]; omega
      obtain ⟨b, ob, rfl, hb, hact⟩ := HAT.out (by intro e; rw [e] at hil; simp at hil)
      obtain ⟨a, ha⟩ : ∃ a, a = l[i] := ⟨_, rfl⟩
      obtain ⟨hrng, hfit⟩ := hact wr (fun k hk => H.out.below.block k hk) i hil
      rw [← ha] at hrng hfit
      obtain ⟨vs, hvs⟩ : ∃ vs, vs = actVs a := ⟨_, rfl⟩
      rw [← hvs] at hrng
      have HRNG := Lib.hid hrng
      have VL : Hid (vs.length = 37) := by show _ = 37; rw [hvs]; exact act_len hfit
      have VO : Hid (∀ u ∈ vs, u.oneCell' = true) := by rw [hvs]; exact act_one a
      have IA : Hid ((Try.prog.info? 40).map (·.size) = some vs.length) := by show _ = _; rw [VL.out]; exact boxy_act.size
      have PL : Hid (∀ wx Qs, Own.St w.heap.size w wx (K.A p q :: Qs) → Calls Try.prog 24 #[ptr p, .agg vs.toArray] wx fun e w' => e = .returned (.tuple #[.int .u64 (playN q a : Int), .bool (playB q a)]) ∧ Own.St w.heap.size w w' (K.A p (doAct q a) :: Qs)) := by
        rw [hvs]
        exact fun wx Qs h => play_any K h OK.out (by omega) a hfit
      have OK2 := Lib.hid (ok_act OK.out a hfit)
      clear hact hrng hfit ha hvs hil
      go_wp2_with (first
        | (refine wpList_load_mid rfl 40 (.tmp 27) rfl b (ob + i * 37) rfl vs _ HRNG.out Try.underlying40 rfl IA.out ?_)
        | (refine wpList_box2 boxy_act rfl rfl rfl (.tmp 9) (.tmp 28) rfl rfl vs (fun _ => rfl) (fun _ => rfl) VL.out VO.out H.out ?_; intro b7 w5 h; have H5 := Lib.hid h; clear h)
        | (refine wpList_load_mid rfl 40 (.tmp 9) rfl b7 0 rfl vs _ (H5.out.boxRange 0 rfl) Try.underlying40 rfl IA.out ?_))
      refine (PL.out _ _ (H5.out.front 1 rfl)).mono ?_
      clear PL
      rintro e w6 ⟨rfl, h⟩
      have H6 := Lib.hid (h.swap2.drop 1)
      clear h H H5 HRNG
      go_wp2_with (fail)
      go_roundw
      case rel => exact ⟨i + 1, doAct q a, by omega, by go_num, H6.out, OK2.out⟩
      case measure => simp [intOf]; omega
    · have AL := Lib.hid (K.all H.out.below H.out OK.out (by omega))
      have hnl : q.L.length ≤ 10000 := Nat.le_trans OK.out.len (by omega)
      have hqeta : (⟨q.L, q.next⟩ : Q) = q := by cases q; rfl
      have hld := load_ok OK.out
      have hi300 : i ≤ 300 := by omega
      obtain ⟨n, hn⟩ : ∃ n, n = q.L.length := ⟨_, rfl⟩
      obtain ⟨nx, hnx⟩ : ∃ n, n = q.next := ⟨_, rfl⟩
      have NX : Hid (∀ wx Qs, Own.St w.heap.size w wx (K.A p q :: Qs) → Calls Try.prog 25 #[ptr p] wx fun e w' => e = .returned (.int .u64 (nx : Int)) ∧ Below wx.heap.size wx w') := by
        rw [hnx]
        exact fun wx Qs h => K.next h.below h OK.out (by omega)
      have LD : Hid (∀ wx Qs ao c, Own.St w.heap.size w wx (RowW (.slice ao n c) q.L n :: Qs) → Calls Try.prog 19 #[.slice ao n c, .int .u64 (nx : Int)] wx fun e w' => ∃ p, e = .returned (.tuple #[ptr p, errQ 0]) ∧ Own.St w.heap.size w w' (K.A p q :: RowW (.slice ao n c) q.L n :: Qs)) := by
        rw [hnx, hn]
        intro wx Qs ao c h
        have h2 := K.load q.L q.next ao q.L.length c h.below h rfl hnl OK.out.fits OK.out.next
        simp only [hld, if_true, hqeta] at h2
        exact h2
      rw [← hn] at AL
      clear hnl hqeta hld hn hnx
      go_wp2_with (fail)
      refine AL.out.mono ?_
      clear AL
      rintro e w5 ⟨ar, cr, rfl, h, _⟩
      have H5 := Lib.hid h
      clear h H
      go_wp2_with (fail)
      refine (NX.out _ _ (H5.out.front 1 rfl)).mono ?_
      clear NX
      rintro e w6 ⟨rfl, h⟩
      have H6 := Lib.hid (H5.out.later h)
      clear h H5
      go_wp2_with (fail)
      refine (LD.out _ _ _ _ H6.out).mono ?_
      clear LD
      rintro e w7 ⟨p2, rfl, h⟩
      have H7 := Lib.hid (Own.St.firsts (As := [K.A p q, K.A p2 q]) (h.front 2 rfl))
      clear h H6
      go_wp2_with (fail)
      refine (HF1.out w7).mono ?_
      rintro e w8 ⟨rfl, rfl⟩
      obtain ⟨k2, hk⟩ : ∃ k, k = min len1 300 := ⟨_, rfl⟩
      rw [← hk]
      have hkk1 : k2 ≤ len1 := by omega
      have hkk2 : k2 ≤ 300 := by omega
      clear hk
      go_wp2_with (fail)
      go_loopw [51] (fun v51 wr => ∃ (j : Nat) (q : Q), j ≤ k2 ∧ v51 = .int .i64 (j : Int) ∧ Own.St w.heap.size w wr [K.A p q, K.A p2 q] ∧ Ok q (i + j)) (fun v51 _ => k2 - (intOf v51).toNat)
      case atStart => exact ⟨0, q, Nat.zero_le _, rfl, H7.out, OK.out⟩
      case round =>
        obtain ⟨j, q, hjk, rfl, hH, hok⟩ := hrel
        have H := Lib.hid hH
        have OK := Lib.hid hok
        clear hH hok H7
        by_cases hj : (j : Int) < (k2 : Int)
        · have hj300 : j ≤ 300 := by omega
          have hil : j < l1.length := by rw [← HLEN1.out]; omega
          obtain ⟨b, ob, rfl, hb, hact⟩ := HAT1.out (by intro e; rw [e] at hil; simp at hil)
          obtain ⟨a, ha⟩ : ∃ a, a = l1[j] := ⟨_, rfl⟩
          obtain ⟨hrng, hfit⟩ := hact wr (fun k hk => H.out.below.block k hk) j hil
          rw [← ha] at hrng hfit
          obtain ⟨vs, hvs⟩ : ∃ vs, vs = actVs a := ⟨_, rfl⟩
          rw [← hvs] at hrng
          have HRNG := Lib.hid hrng
          have VL : Hid (vs.length = 37) := by show _ = 37; rw [hvs]; exact act_len hfit
          have VO : Hid (∀ u ∈ vs, u.oneCell' = true) := by rw [hvs]; exact act_one a
          have IA : Hid ((Try.prog.info? 40).map (·.size) = some vs.length) := by show _ = _; rw [VL.out]; exact boxy_act.size
          obtain ⟨pn, hpn⟩ : ∃ x, x = playN q a := ⟨_, rfl⟩
          obtain ⟨pb, hpb⟩ : ∃ x, x = playB q a := ⟨_, rfl⟩
          have PL : Hid (∀ wx Qs r, Own.St w.heap.size w wx (K.A r q :: Qs) → Calls Try.prog 24 #[ptr r, .agg vs.toArray] wx fun e w' => e = .returned (.tuple #[.int .u64 (pn : Int), .bool pb]) ∧ Own.St w.heap.size w w' (K.A r (doAct q a) :: Qs)) := by
            rw [hvs, hpn, hpb]
            exact fun wx Qs r h => play_any K h OK.out (by omega) a hfit
          have OK2 := Lib.hid (ok_act OK.out a hfit)
          clear hact hrng hfit ha hvs hil hpn hpb
          go_wp2_with (first
            | (refine wpList_load_mid rfl 40 (.tmp 53) rfl b (ob + j * 37) rfl vs _ HRNG.out Try.underlying40 rfl IA.out ?_)
            | (refine wpList_box2 boxy_act rfl rfl rfl (.tmp 13) (.tmp 54) rfl rfl vs (fun _ => rfl) (fun _ => rfl) VL.out VO.out H.out ?_; intro b7 w5 h; have H5 := Lib.hid h; clear h)
            | (refine wpList_load_mid rfl 40 (.tmp 13) rfl b7 0 rfl vs _ (H5.out.boxRange 0 rfl) Try.underlying40 rfl IA.out ?_))
          refine (PL.out _ _ _ (H5.out.front 1 rfl)).mono ?_
          rintro e w6 ⟨rfl, h⟩
          have H6 := Lib.hid h
          clear h H H5 HRNG
          go_wp2_with (refine wpList_load_mid rfl 40 (.tmp 13) rfl b7 0 rfl vs _ (H6.out.boxRange 1 rfl) Try.underlying40 rfl IA.out ?_)
          refine (PL.out _ _ _ (H6.out.front 2 rfl)).mono ?_
          clear PL
          rintro e w7 ⟨rfl, h⟩
          have H7 := Lib.hid (Own.St.firsts (As := [K.A p (doAct q a), K.A p2 (doAct q a)]) (h.front 1 rfl))
          clear h H6
          go_wp2_with (fail)
          go_roundw
          case rel => exact ⟨j + 1, doAct q a, by omega, by go_num, H7.out, OK2.out⟩
          case measure => simp [intOf]; omega
        · have hnl : q.L.length ≤ 10000 := Nat.le_trans OK.out.len (by omega)
          obtain ⟨n3, hn⟩ : ∃ n, n = q.L.length := ⟨_, rfl⟩
          obtain ⟨nx3, hnx⟩ : ∃ n, n = q.next := ⟨_, rfl⟩
          have NX : Hid (∀ wx Qs r, Own.St w.heap.size w wx (K.A r q :: Qs) → Calls Try.prog 25 #[ptr r] wx fun e w' => e = .returned (.int .u64 (nx3 : Int)) ∧ Below wx.heap.size wx w') := by
            rw [hnx]
            exact fun wx Qs r h => K.next h.below h OK.out (by omega)
          have AL : Hid (∀ wx Qs r, Own.St w.heap.size w wx (K.A r q :: Qs) → Calls Try.prog 23 #[ptr r] wx fun e w' => ∃ ao c, e = .returned (.slice ao n3 c) ∧ Own.St w.heap.size w w' (RowW (.slice ao n3 c) q.L n3 :: K.A r q :: Qs) ∧ Below wx.heap.size wx w') := by
            rw [hn]
            exact fun wx Qs r h => K.all h.below h OK.out (by omega)
          have SM : Hid (∀ u v wx, RdWin wx u n3 (q.L.flatMap wrC) → RdWin wx v n3 (q.L.flatMap wrC) → Calls Try.prog 22 #[u, v] wx fun e w' => e = .returned (.bool true) ∧ Below wx.heap.size wx w') :=
            fun u v wx h1 h2 => sameW_any q.L OK.out.fits n3 u v wx h1 h2 hn.symm (by omega)
          clear hnl hn hnx
          go_wp2_with (fail)
          refine (AL.out _ _ _ H.out).mono ?_
          rintro e w5 ⟨aa, ca, rfl, h, _⟩
          have H5 := Lib.hid h
          clear h H
          go_wp2_with (fail)
          refine (AL.out _ _ _ (H5.out.front 2 rfl)).mono ?_
          clear AL
          rintro e w6 ⟨ab, cb, rfl, h, _⟩
          have H6 := Lib.hid h
          clear h H5
          go_wp2_with (fail)
          refine (SM.out _ _ _ (rd_rowW H6.out 2 rfl) (rd_rowW H6.out 0 rfl)).mono ?_
          clear SM
          rintro e w7 ⟨rfl, h⟩
          have H7 := Lib.hid (H6.out.later h)
          clear h H6
          go_wp2_with (fail)
          refine (NX.out _ _ _ (H7.out.front 3 rfl)).mono ?_
          rintro e w8 ⟨rfl, h⟩
          have H8 := Lib.hid (H7.out.later h)
          clear h H7
          go_wp2_with (fail)
          refine (NX.out _ _ _ (H8.out.front 1 rfl)).mono ?_
          clear NX
          rintro e w9 ⟨rfl, h⟩
          have H9 := Lib.hid (H8.out.later h)
          clear h H8
          go_wp2_with (fail)
          go_ret
          exact ⟨rfl, H9.out.below⟩
end
end Que
end Go.Proofs.Ytepbdjgfaljbgaa

end
section
namespace Go.Proofs.Ytepbdjgfaljbgaa
open Go.RowKit Go.Own
namespace Que
open Go.QueM
open Rec (nat_u32 nat_u64)
theorem in_nil (vs : Array Value) (r : Wr) {w : World} (h : inWr r w.heap.size w vs.toList) (K : Kept w) : Calls Try.prog 7 #[.agg vs] w (RetYes w) := by
  have e : vs = (wrC r).toArray := by rw [← h.1]
  rw [e]
  exact walk_nil r h.2 K
theorem in_newest (a0 : Option Addr) (len0 cap0 : Nat) (l : List ActD) (k : Int) (hk : (Lit.int .u32 k).wf = true) {w : World} (w0 : inSlice 37 inAct l w.heap.size w [.slice a0 len0 cap0]) (K : Kept w) : Calls Try.prog 8 #[.slice a0 len0 cap0, .int .u32 k] w (RetYes w) := by
  obtain ⟨a, rfl, ha⟩ := nat_u32 hk
  exact walk_newest a0 len0 cap0 l a ha w0 K
theorem in_loads (a1 : Option Addr) (len1 cap1 : Nat) (L0 : List Wr) (k : Int) (hk : (Lit.int .u64 k).wf = true) (a0 : Option Addr) (len0 cap0 : Nat) (l : List ActD) {w : World} (w1 : inSlice 36 inWr L0 w.heap.size w [.slice a1 len1 cap1]) (w0 : inSlice 37 inAct l w.heap.size w [.slice a0 len0 cap0]) (K : Kept w) : Calls Try.prog 4 #[.slice a1 len1 cap1, .int .u64 k, .slice a0 len0 cap0] w (RetYes w) := by
  obtain ⟨a, rfl, ha⟩ := nat_u64 hk
  exact walk_loads a1 len1 cap1 L0 a ha a0 len0 cap0 l w1 w0 K
end Que
end Go.Proofs.Ytepbdjgfaljbgaa

end
section
namespace Go.Own
open Go.RowKit Go.Maps

open Classical in
noncomputable def putK {α : Type} (g : Lit → α) (kl : Lit) (x : α) : Lit → α := fun l => if l = kl then x else g l
theorem putK_same {α : Type} {g : Lit → α} {kl : Lit} {x : α} : putK g kl x kl = x := by unfold putK; rw [if_pos rfl]
theorem putK_other {α : Type} {g : Lit → α} {kl l : Lit} {x : α} (h : l ≠ kl) : putK g kl x l = g l := by unfold putK; rw [if_neg h]
def rawV : Value → Option (DataW Value × List MemPlace) := fun v => some (.held v, [])
/-- block b is a map of at most n entries; g: the value at a key; z: where there is none -/
def AMap (P : Program) (kt : TypeId) (z : Value) (b n : Nat) (g : Lit → Value) : Asn where
  holds S w := (∃ D : DataW Value, w.ownsMap P kt rawV b n D ∧ ∀ kl, D.atKey kl (.held z) = .held (g kl)) ∧ ∀ k, S k ↔ k = b
  keep h gs hd := by
    obtain ⟨⟨D, ⟨es, clock, hb, r⟩, h1⟩, h5⟩ := h
    exact ⟨⟨D, ⟨es, clock, (gs.block _ (lt_of_block hb) (hd _ ((h5 _).2 rfl))).trans hb, r⟩, h1⟩, h5⟩
  lt h k hk := by
    obtain ⟨⟨D, hm, h1⟩, h5⟩ := h
    rw [(h5 k).1 hk]
    exact hm.lt
section
variable {P : Program} {kt mt vt : TypeId} {z : Value} {B : Nat} {w0 w : World} {Ps : List Asn} {b n : Nat} {g : Lit → Value}
theorem St.mapMake (H : St B w0 w Ps) : ∃ w' b, (Instr.makeMap mt none).run P w = .ok (.map (some b)) w' ∧ St B w0 w' (AMap P kt z b 0 (fun _ => z) :: Ps) := by
  refine ⟨_, w.heap.size, run_makeMap mt w, H.new (S' := fun k => k = w.heap.size) (AMap P kt z _ 0 _) ⟨⟨.map [], World.ownsMap_made w _ _ _, fun kl => rfl⟩, fun k => Iff.rfl⟩ (((Step.refl (fun _ => False) w).alloc (.map #[] 0)).to (fun k hk => .inr (Nat.le_of_eq hk.symm)))⟩
theorem St.mapLook (H : St B w0 w Ps) (i : Nat) (hi : Ps[i]? = some (AMap P kt z b n g)) (K : Keyed P kt) (hmt : P.underlying mt = some (.map kt vt)) (hz : ∀ w, (zeroValue vt).run P w = .ok z w) {kv : Value} {kl : Lit} (hk : keyOf P kt kv = some kl) :
    (Instr.lookup mt (.map (some b)) kv false).run P w = .ok (g kl) w := by
  obtain ⟨S, ⟨⟨D, hm, h1⟩, _⟩, _⟩ := H.at i hi
  obtain ⟨v, ps, hrun, hv⟩ := hm.lookup K hmt (hz w) (zd := .held z) (zp := []) rfl hk
  rw [h1] at hv
  simp only [rawV, Option.some.injEq, Prod.mk.injEq, DataW.held.injEq] at hv
  rw [hrun, hv.1]
theorem St.mapPut (H : St B w0 w Ps) (i : Nat) (hi : Ps[i]? = some (AMap P kt z b n g)) (K : Keyed P kt) (hmt : P.underlying mt = some (.map kt vt)) (hn : n < 1000000000) {kv : Value} {kl : Lit} (hk : keyOf P kt kv = some kl) (v : Value) :
    ∃ w', (Instr.mapUpdate mt (.map (some b)) kv v).run P w = .ok () w' ∧ St B w0 w' (Ps.set i (AMap P kt z b (n + 1) (putK g kl v))) := by
  obtain ⟨S, ⟨⟨D, hm, h1⟩, h5⟩, _, put⟩ := H.at i hi
  obtain ⟨w2, hrun2, hm2, g2⟩ := hm.update K hmt (by unfold maxLen; omega) hk (val := v) (d := .held v) (ps := []) rfl
  have hD : IsMap D := by obtain ⟨es, clock, _, _, _, hD⟩ := hm; exact ⟨_, hD⟩
  refine ⟨w2, hrun2, put (fun k => k = b) w2 (AMap P kt z b (n + 1) _) ⟨⟨_, hm2, fun l => ?_⟩, fun k => Iff.rfl⟩ ?_⟩
  · by_cases hl : l = kl
    · subst hl
      rw [putK_same]
      exact atKey_put_same hD (K.key hk) _ _
    · rw [putK_other hl, atKey_put_other hl]
      exact h1 l
  · refine ⟨g2.os, g2.tape, g2.output, g2.size, fun k hk hn => g2.block k hk (fun e => hn ((h5 k).2 (by cases e; rfl))), fun k hk => .inl ((h5 k).2 hk)⟩
end
/-- a look-up, as an operation -/
theorem look_exec {P : Program} {o : Oper} {x y : Tmp} {mt : TypeId} (ho : o.op = .lookup mt (.tmp x) (.tmp y) false) {m kv v : Value} {w : World} (hrun : (Instr.lookup mt m kv false).run P w = .ok v w) (ρ : Operand → Value) (h0 : ρ (.tmp x) = m) (h1 : ρ (.tmp y) = kv) : (execOp ρ o).run P w = .ok (.value v) w := by
  simp [execOp, ho, h0, h1, hrun, go_sem]
end Go.Own

end
section
namespace Go.Proofs.Ytepbdjgfaljbgaa
open Go.RowKit Go.Own Go.Maps
namespace Qua
open Go.QueM Byt Que
abbrev nilS : Value := .slice none 0 0
theorem u32Keyed : Keyed Try.prog 32 := int_keyed Try.underlying32
def kl (a : Nat) : Lit := .int .u32 (a : Int)
theorem kl_inj {a b : Nat} (h : kl a = kl b) : a = b := by
  unfold kl at h
  simp only [Lit.int.injEq, true_and] at h
  exact Int.ofNat.inj h
theorem key_of {a : Nat} (h : a < 4294967296) : keyOf Try.prog 32 (.int .u32 (a : Int)) = some (kl a) :=
  keyOf_int_mk Try.underlying32 (by simp [Lit.wf, IntKind.min, IntKind.max, IntKind.signed, IntKind.bits]; omega)
theorem mapT : Try.prog.underlying 93 = some (.map 32 28) := Try.underlying93
theorem zeroS (w : World) : (zeroValue 28).run Try.prog w = .ok nilS w := by kernel_rfl
abbrev KV := Nat × Value
/-- the map reads as the list -/
structure Reads (D : DataW Value) (s : List KV) : Prop where
  has : ∀ k, Maps.has D k = true ↔ ∃ e ∈ s, kl e.1 = k
  at_ : ∀ e ∈ s, ∀ zd, D.atKey (kl e.1) zd = .held e.2
  size : Maps.size D = s.length
def AOf (b : Nat) (s : List KV) : Asn where
  holds S w := (∃ D : DataW Value, w.ownsMap Try.prog 32 rawV b s.length D ∧ Reads D s) ∧ ∀ k, S k ↔ k = b
  keep h gs hd := by
    obtain ⟨⟨D, ⟨es, clock, hb, r⟩, h1⟩, h5⟩ := h
    exact ⟨⟨D, ⟨es, clock, (gs.block _ (lt_of_block hb) (hd _ ((h5 _).2 rfl))).trans hb, r⟩, h1⟩, h5⟩
  lt h k hk := by
    obtain ⟨⟨D, hm, h1⟩, h5⟩ := h
    rw [(h5 k).1 hk]
    exact hm.lt
theorem tight {w : World} {b n : Nat} {D : DataW Value} (h : w.ownsMap Try.prog 32 rawV b n D) {s : List KV} (hr : Reads D s) : w.ownsMap Try.prog 32 rawV b s.length D := by
  obtain ⟨es, clock, hb, F, _, rfl⟩ := h
  refine ⟨es, clock, hb, F, ?_, rfl⟩
  rw [← hr.size]
  simp [Maps.size, length_sorted]
theorem Reads.perm {D : DataW Value} {s t : List KV} (h : Reads D s) (p : s.Perm t) : Reads D t :=
  ⟨fun k => by rw [h.has]; exact ⟨fun ⟨e, he, hk⟩ => ⟨e, p.mem_iff.1 he, hk⟩, fun ⟨e, he, hk⟩ => ⟨e, p.mem_iff.2 he, hk⟩⟩, fun e he => h.at_ e (p.mem_iff.2 he), by rw [h.size, p.length_eq]⟩
theorem reads_nil : Reads (.map []) [] := ⟨fun k => by simp [Maps.has], fun e he => (by cases he), rfl⟩
section
variable {B : Nat} {w0 w : World} {Ps : List Asn} {b : Nat} {s t : List KV}
theorem aof_permH {S : Nat → Prop} (h : (AOf b s).holds S w) (p : s.Perm t) : (AOf b t).holds S w := by
  obtain ⟨⟨D, hm, hr⟩, h5⟩ := h
  exact ⟨⟨D, tight hm (hr.perm p), hr.perm p⟩, h5⟩
theorem mapMakeQ (H : Own.St B w0 w Ps) : ∃ w' b, (Instr.makeMap 93 none).run Try.prog w = .ok (.map (some b)) w' ∧ Own.St B w0 w' (AOf b [] :: Ps) :=
  ⟨_, w.heap.size, run_makeMap 93 w, H.new (S' := fun k => k = w.heap.size) (AOf _ []) ⟨⟨.map [], World.ownsMap_made w _ _ _, reads_nil⟩, fun k => Iff.rfl⟩ (((Step.refl (fun _ => False) w).alloc (.map #[] 0)).to (fun k hk => .inr (Nat.le_of_eq hk.symm)))⟩
/-- a look-up: what stands there -/
theorem mapLookQ (H : Own.St B w0 w Ps) (i : Nat) (hi : Ps[i]? = some (AOf b s)) {a : Nat} (ha : a < 4294967296) {v : Value} (hv : (a, v) ∈ s) :
    (Instr.lookup 93 (.map (some b)) (.int .u32 (a : Int)) false).run Try.prog w = .ok v w := by
  obtain ⟨S, ⟨⟨D, hm, hr⟩, _⟩, _⟩ := H.at i hi
  obtain ⟨v', ps, hrun, hv'⟩ := hm.lookup u32Keyed mapT (zeroS w) (zd := .held nilS) (zp := []) rfl (key_of ha)
  rw [hr.at_ _ hv] at hv'
  simp only [rawV, Option.some.injEq, Prod.mk.injEq, DataW.held.injEq] at hv'
  rw [hrun, hv'.1]
/-- .. nothing -/
theorem mapLook0Q (H : Own.St B w0 w Ps) (i : Nat) (hi : Ps[i]? = some (AOf b s)) {a : Nat} (ha : a < 4294967296) (hn : ∀ e ∈ s, e.1 ≠ a) :
    (Instr.lookup 93 (.map (some b)) (.int .u32 (a : Int)) false).run Try.prog w = .ok nilS w := by
  obtain ⟨S, ⟨⟨D, hm, hr⟩, _⟩, _⟩ := H.at i hi
  obtain ⟨v', ps, hrun, hv'⟩ := hm.lookup u32Keyed mapT (zeroS w) (zd := .held nilS) (zp := []) rfl (key_of ha)
  have hh : Maps.has D (kl a) = false := by
    cases h : Maps.has D (kl a)
    · rfl
    · obtain ⟨e, he, hk⟩ := (hr.has _).1 h
      exact absurd (kl_inj hk) (hn e he)
  rw [atKey_of_not_has hh] at hv'
  simp only [rawV, Option.some.injEq, Prod.mk.injEq, DataW.held.injEq] at hv'
  rw [hrun, hv'.1]
theorem mapNilQ {a : Nat} (ha : a < 4294967296) (w : World) : (Instr.lookup 93 (.map none) (.int .u32 (a : Int)) false).run Try.prog w = .ok nilS w := by
  have := Maps.look_nil (w := w) false u32Keyed mapT (zeroS w) (key_of ha)
  simpa using this
/-- a value is put: at an address that is not there, or in the first one's place -/
theorem mapPutQ (H : Own.St B w0 w Ps) (i : Nat) {a : Nat} {v : Value} {pres : Bool} (hi : Ps[i]? = some (AOf b (if pres then (a, v) :: s else s))) (ha : a < 4294967296) (hn : ∀ e ∈ s, e.1 ≠ a) (hl : s.length ≤ 1000000) (v' : Value) :
    ∃ w', (Instr.mapUpdate 93 (.map (some b)) (.int .u32 (a : Int)) v').run Try.prog w = .ok () w' ∧ Own.St B w0 w' (Ps.set i (AOf b ((a, v') :: s))) := by
  obtain ⟨S, ⟨⟨D, hm, hr⟩, h5⟩, _, put⟩ := H.at i hi
  obtain ⟨w2, hrun2, hm2, g2⟩ := hm.update u32Keyed mapT (by unfold maxLen; split <;> simp <;> omega) (key_of ha) (val := v') (d := .held v') (ps := []) rfl
  have ht := hm.tidy u32Keyed
  have hD := ht.isMap
  have hkey : WideAt.IsKeyLit (kl a) := u32Keyed.key (key_of ha)
  have hmem : ∀ e : KV, e.1 ≠ a → (e ∈ (if pres then (a, v) :: s else s) ↔ e ∈ s) := by
    intro e he
    cases pres
    · exact Iff.rfl
    · simp only [if_true, List.mem_cons]
      exact ⟨fun h => h.elim (fun h => absurd (by rw [h]) he) id, .inr⟩
  have hr2 : Reads (D.put (kl a) (.held v')) ((a, v') :: s) := by
    refine ⟨fun k => ?_, fun e he zd => ?_, ?_⟩
    · by_cases hk : k = kl a
      · rw [hk, has_put_same hD hkey]
        exact ⟨fun _ => ⟨(a, v'), List.mem_cons_self .., rfl⟩, fun _ => rfl⟩
      · rw [has_put_other hk, hr.has]
        constructor
        · rintro ⟨e, he, e2⟩
          exact ⟨e, List.mem_cons_of_mem _ ((hmem e (fun h => hk (by rw [← e2, h]))).1 he), e2⟩
        · rintro ⟨e, he, e2⟩
          rcases List.mem_cons.1 he with h | h
          · rw [h] at e2; exact absurd e2.symm hk
          · exact ⟨e, (hmem e (hn e h)).2 h, e2⟩
    · rcases List.mem_cons.1 he with h | h
      · rw [h]; exact atKey_put_same hD hkey _ _
      · have hne : kl e.1 ≠ kl a := fun h2 => hn e h (kl_inj h2)
        rw [atKey_put_other hne]
        exact hr.at_ e ((hmem e (hn e h)).2 h) zd
    · rw [size_put ht, hr.size]
      cases pres
      · have hh : Maps.has D (kl a) = false := by
          cases h : Maps.has D (kl a)
          · rfl
          · obtain ⟨e, he, hk⟩ := (hr.has _).1 h
            exact absurd (kl_inj hk) (hn e (by simpa using he))
        rw [hh]
        simp
      · have hh : Maps.has D (kl a) = true := (hr.has _).2 ⟨(a, v), by simp, rfl⟩
        rw [hh]
        simp
  refine ⟨w2, hrun2, put (fun k => k = b) w2 (AOf b ((a, v') :: s)) ⟨⟨_, tight hm2 hr2, hr2⟩, fun k => Iff.rfl⟩ ?_⟩
  exact ⟨g2.os, g2.tape, g2.output, g2.size, fun k hk hn => g2.block k hk (fun e => hn ((h5 k).2 (by cases e; rfl))), fun k hk => .inl ((h5 k).2 hk)⟩
/-- the first one is deleted -/
theorem mapDelQ (H : Own.St B w0 w Ps) (i : Nat) {a : Nat} {v : Value} (hi : Ps[i]? = some (AOf b ((a, v) :: s))) (ha : a < 4294967296) (hn : ∀ e ∈ s, e.1 ≠ a) (ty : TypeId) :
    ∃ w', (Builtin.delete_ #[93, 32] ty #[.map (some b), .int .u32 (a : Int)]).run Try.prog w = .ok (.tuple #[]) w' ∧ Own.St B w0 w' (Ps.set i (AOf b s)) := by
  obtain ⟨S, ⟨⟨D, hm, hr⟩, h5⟩, _, put⟩ := H.at i hi
  obtain ⟨w2, hrun2, hm2, turn⟩ := hm.drop u32Keyed mapT (key_of ha) ty
  have g2 := turn.grown
  have ht := hm.tidy u32Keyed
  have hr2 : Reads (D.del (kl a)) s := by
    refine ⟨fun k => ?_, fun e he zd => ?_, ?_⟩
    · by_cases hk : k = kl a
      · rw [hk, has_del_same]
        refine ⟨fun h => (by cases h), ?_⟩
        rintro ⟨e, he, e2⟩
        exact absurd (kl_inj e2) (hn e he)
      · rw [has_del_other hk, hr.has]
        constructor
        · rintro ⟨e, he, e2⟩
          rcases List.mem_cons.1 he with h | h
          · rw [h] at e2; exact absurd e2.symm hk
          · exact ⟨e, h, e2⟩
        · rintro ⟨e, he, e2⟩
          exact ⟨e, List.mem_cons_of_mem _ he, e2⟩
    · have hne : kl e.1 ≠ kl a := fun h2 => hn e he (kl_inj h2)
      rw [atKey_del_other hne]
      exact hr.at_ e (List.mem_cons_of_mem _ he) zd
    · have h := size_del (k := kl a) ht
      have hh : Maps.has D (kl a) = true := (hr.has _).2 ⟨(a, v), by simp, rfl⟩
      rw [hh, hr.size] at h
      simp at h
      omega
  refine ⟨w2, hrun2, put (fun k => k = b) w2 (AOf b s) ⟨⟨_, tight hm2 hr2, hr2⟩, fun k => Iff.rfl⟩ ?_⟩
  exact ⟨g2.os, g2.tape, g2.output, g2.size, fun k hk hn => g2.block k hk (fun e => hn ((h5 k).2 (by cases e; rfl))), fun k hk => .inl ((h5 k).2 hk)⟩
end
/-! ### all lists but one address's -/
/-- an address, the slice that the map holds, the writes in it -/
abbrev Ent := Nat × Value × List Wr
def kv (e : Ent) : KV := (e.1, e.2.1)
abbrev ofA (L : List Wr) (a : Nat) : List Wr := L.filter fun w => decide (w.addr = a)
abbrev WinQ (v : Value) (l : List Wr) : Asn := AWin 36 v l.length (l.flatMap wrC)
def rowA (e : Ent) : Asn := WinQ e.2.1 e.2.2
structure TabO (a : Nat) (L : List Wr) (es : List Ent) : Prop where
  nodup : (es.map (·.1)).Nodup
  ent : ∀ e ∈ es, e.1 < 4294967296 ∧ e.1 ≠ a ∧ e.2.2 = ofA L e.1 ∧ e.2.2 ≠ []
  all : ∀ w ∈ L, w.addr ≠ a → ∃ e ∈ es, e.1 = w.addr
theorem TabO.perm {a : Nat} {L : List Wr} {es fs : List Ent} (h : TabO a L es) (p : es.Perm fs) : TabO a L fs :=
  ⟨(p.map (·.1)).nodup_iff.1 h.nodup, fun e he => h.ent e (p.mem_iff.2 he), fun w hw hn => by
    obtain ⟨e, he, h2⟩ := h.all w hw hn
    exact ⟨e, p.mem_iff.1 he, h2⟩⟩
/-- other lists of that address -/
theorem TabO.to {a : Nat} {L L' : List Wr} {es : List Ent} (h : TabO a L es) (hL : ∀ c, c ≠ a → ofA L' c = ofA L c) : TabO a L' es :=
  ⟨h.nodup, fun e he => by
    obtain ⟨h1, h2, h3, h4⟩ := h.ent e he
    exact ⟨h1, h2, by rw [h3, hL _ h2], h4⟩, fun w hw hn => by
    have hm : w ∈ ofA L' w.addr := List.mem_filter.2 ⟨hw, by simp⟩
    rw [hL _ hn] at hm
    exact h.all w (List.mem_filter.1 hm).1 hn⟩
abbrev noA : Nat := 4294967296
theorem len_of_keys : ∀ {s t : List Nat}, s.Nodup → (∀ x ∈ s, x ∈ t) → s.length ≤ t.length
  | [], _, _, _ => Nat.zero_le _
  | x :: s, t, hn, hm => by
    have h1 := List.nodup_cons.1 hn
    have hx := hm x (List.mem_cons_self ..)
    have := len_of_keys (s := s) (t := t.erase x) h1.2 (fun y hy => (List.mem_erase_of_ne (fun e => h1.1 (by rw [← e]; exact hy))).2 (hm y (List.mem_cons_of_mem _ hy)))
    have hl := List.length_erase_of_mem hx
    have : 0 < t.length := List.length_pos_of_mem hx
    simp only [List.length_cons]
    omega
theorem TabO.len {a : Nat} {L : List Wr} {es : List Ent} (h : TabO a L es) : es.length ≤ L.length := by
  have h1 : (es.map (·.1)).length ≤ (L.map (·.addr)).length := by
    refine len_of_keys h.nodup (fun x hx => ?_)
    obtain ⟨e, he, rfl⟩ := List.mem_map.1 hx
    obtain ⟨_, _, h3, h4⟩ := h.ent e he
    obtain ⟨w, hw⟩ := List.exists_mem_of_ne_nil _ h4
    rw [h3] at hw
    obtain ⟨h5, h6⟩ := List.mem_filter.1 hw
    exact List.mem_map.2 ⟨w, h5, by simpa using h6⟩
  simpa using h1
/-- that address is taken out -/
theorem TabO.out {L : List Wr} {es : List Ent} (h : TabO noA L es) (hL : ∀ w ∈ L, w.addr < 4294967296) (a : Nat) :
    (∃ v rest, es.Perm ((a, v, ofA L a) :: rest) ∧ TabO a L rest ∧ ofA L a ≠ []) ∨ (TabO a L es ∧ ofA L a = []) := by
  have hall : ∀ w ∈ L, ∃ e ∈ es, e.1 = w.addr := fun w hw => h.all w hw (fun e => by have := hL w hw; rw [e] at this; exact absurd this (by decide))
  by_cases hx : ∃ e ∈ es, e.1 = a
  · obtain ⟨⟨a', v, l⟩, he, h2⟩ := hx
    simp only at h2
    subst h2
    obtain ⟨_, _, h3, h4⟩ := h.ent _ he
    simp only at h3 h4
    obtain ⟨s, t, hst⟩ := List.append_of_mem he
    have hp : es.Perm ((a', v, l) :: (s ++ t)) := by rw [hst]; exact List.perm_middle
    have hT := h.perm hp
    have hd := hT.nodup
    rw [List.map_cons, List.nodup_cons] at hd
    refine .inl ⟨v, s ++ t, by rw [← h3]; exact hp, ⟨hd.2, fun e he2 => ?_, fun w hw hn => ?_⟩, by rw [← h3]; exact h4⟩
    · obtain ⟨g1, _, g3, g4⟩ := hT.ent e (List.mem_cons_of_mem _ he2)
      exact ⟨g1, fun e3 => hd.1 (List.mem_map.2 ⟨e, he2, e3⟩), g3, g4⟩
    · obtain ⟨e, he2, e3⟩ := hall w hw
      rcases List.mem_cons.1 (hp.mem_iff.1 he2) with h5 | h5
      · rw [h5] at e3; exact absurd e3.symm hn
      · exact ⟨e, h5, e3⟩
  · refine .inr ⟨⟨h.nodup, fun e he => ?_, fun w hw _ => hall w hw⟩, ?_⟩
    · obtain ⟨g1, _, g3, g4⟩ := h.ent e he
      exact ⟨g1, fun e3 => hx ⟨e, he, e3⟩, g3, g4⟩
    · refine List.filter_eq_nil_iff.2 (fun w hw e => hx ?_)
      obtain ⟨e2, he2, e3⟩ := hall w hw
      exact ⟨e2, he2, by rw [e3]; simpa using e⟩
/-- .. and put back -/
theorem TabO.back {a : Nat} {L : List Wr} {es : List Ent} (h : TabO a L es) (ha : a < 4294967296) (v : Value) (hne : ofA L a ≠ []) : TabO noA L ((a, v, ofA L a) :: es) :=
  ⟨by
    rw [List.map_cons, List.nodup_cons]
    refine ⟨fun hm => ?_, h.nodup⟩
    obtain ⟨e, he, e2⟩ := List.mem_map.1 hm
    exact (h.ent e he).2.1 e2, fun e he => by
    rcases List.mem_cons.1 he with h2 | h2
    · rw [h2]; exact ⟨ha, by show a ≠ 4294967296; omega, rfl, hne⟩
    · obtain ⟨g1, g2, g3, g4⟩ := h.ent e h2
      exact ⟨g1, by show e.1 ≠ 4294967296; omega, g3, g4⟩, fun w hw hn => by
    by_cases e : w.addr = a
    · exact ⟨_, List.mem_cons_self .., e.symm⟩
    · obtain ⟨e2, he2, e3⟩ := h.all w hw e
      exact ⟨e2, List.mem_cons_of_mem _ he2, e3⟩⟩
theorem TabO.back0 {a : Nat} {L : List Wr} {es : List Ent} (h : TabO a L es) (hnil : ofA L a = []) : TabO noA L es :=
  ⟨h.nodup, fun e he => by
    obtain ⟨g1, g2, g3, g4⟩ := h.ent e he
    exact ⟨g1, by show e.1 ≠ 4294967296; omega, g3, g4⟩, fun w hw _ => h.all w hw (fun e => by
      have := List.filter_eq_nil_iff.1 hnil w hw
      simp [e] at this)⟩
/-- the map, if there is one, and the rows -/
def mobj : Option Nat → List KV → List Asn
  | none, _ => []
  | some b, s => [AOf b s]
def kvs (a : Nat) (v : Value) (pres : Bool) (es : List Ent) : List KV := if pres then (a, v) :: es.map kv else es.map kv
structure RestP (m : Option Nat) (a : Nat) (v : Value) (pres : Bool) (L : List Wr) (es : List Ent) : Prop where
  tab : TabO a L es
  nil : pres = false → v = nilS
  none : m = none → es = [] ∧ pres = false
/-- all but one address's list; v: what the map holds there -/
def ARest (m : Option Nat) (a : Nat) (v : Value) (pres : Bool) (L : List Wr) : Asn := AEx (α := { es : List Ent // RestP m a v pres L es }) fun x => AJoin (mobj m (kvs a v pres x.1) ++ x.1.map rowA)
/-- all of them -/
abbrev AT (m : Option Nat) (L : List Wr) : Asn := ARest m noA nilS false L
section
variable {B : Nat} {w0 w : World} {Ps : List Asn} {m : Option Nat} {a : Nat} {v : Value} {pres : Bool} {L : List Wr}
theorem rest_openH (H : Own.St B w0 w (ARest m a v pres L :: Ps)) : ∃ es, RestP m a v pres L es ∧ Own.St B w0 w ((mobj m (kvs a v pres es) ++ es.map rowA) ++ Ps) := by
  obtain ⟨⟨es, h⟩, hE⟩ := H.openE
  exact ⟨es, h, hE.openJ⟩
theorem rest_closeH {es : List Ent} (h : RestP m a v pres L es) (H : Own.St B w0 w ((mobj m (kvs a v pres es) ++ es.map rowA) ++ Ps)) : Own.St B w0 w (ARest m a v pres L :: Ps) :=
  Own.St.closeE (α := { es : List Ent // RestP m a v pres L es }) (P := fun x => AJoin (mobj m (kvs a v pres x.1) ++ x.1.map rowA)) ⟨es, h⟩ H.closeJ
theorem ent_ne {es : List Ent} (h : TabO a L es) : ∀ e ∈ es.map kv, e.1 ≠ a := by
  intro e he
  obtain ⟨x, hx, rfl⟩ := List.mem_map.1 he
  exact (h.ent x hx).2.1
/-- a look-up of that address -/
theorem rest_look (H : Own.St B w0 w (ARest m a v pres L :: Ps)) (ha : a < 4294967296) : (Instr.lookup 93 (.map m) (.int .u32 (a : Int)) false).run Try.prog w = .ok v w := by
  obtain ⟨es, hP, h⟩ := rest_openH H
  cases m with
  | none =>
    obtain ⟨_, h2⟩ := hP.none rfl
    rw [hP.nil h2]
    exact mapNilQ ha w
  | some b =>
    cases pres with
    | true => exact mapLookQ h 0 rfl ha (List.mem_cons_self ..)
    | false =>
      rw [hP.nil rfl]
      exact mapLook0Q h 0 rfl ha (ent_ne hP.tab)
theorem rest_put {b : Nat} (H : Own.St B w0 w (ARest (some b) a v pres L :: Ps)) (ha : a < 4294967296) (hl : L.length ≤ 1000000) (v' : Value) :
    ∃ w', (Instr.mapUpdate 93 (.map (some b)) (.int .u32 (a : Int)) v').run Try.prog w = .ok () w' ∧ Own.St B w0 w' (ARest (some b) a v' true L :: Ps) := by
  obtain ⟨es, hP, h⟩ := rest_openH H
  have hle := hP.tab.len
  obtain ⟨w', e, h2⟩ := mapPutQ h 0 (v := v) (pres := pres) (s := es.map kv) rfl ha (ent_ne hP.tab) (by rw [List.length_map]; omega) v'
  exact ⟨w', e, rest_closeH (es := es) ⟨hP.tab, fun h => by (cases h), fun h => by (cases h)⟩ h2⟩
theorem rest_del {b : Nat} (H : Own.St B w0 w (ARest (some b) a v true L :: Ps)) (ha : a < 4294967296) (ty : TypeId) :
    ∃ w', (Builtin.delete_ #[93, 32] ty #[.map (some b), .int .u32 (a : Int)]).run Try.prog w = .ok (.tuple #[]) w' ∧ Own.St B w0 w' (ARest (some b) a nilS false L :: Ps) := by
  obtain ⟨es, hP, h⟩ := rest_openH H
  obtain ⟨w', e, h2⟩ := mapDelQ h 0 (v := v) (s := es.map kv) rfl ha (ent_ne hP.tab) ty
  exact ⟨w', e, rest_closeH (es := es) ⟨hP.tab, fun _ => rfl, fun h => by (cases h)⟩ h2⟩
/-- a map is made -/
theorem rest_make {b : Nat} (H : Own.St B w0 w (AOf b [] :: ARest none a v pres L :: Ps)) : Own.St B w0 w (ARest (some b) a v pres L :: Ps) := by
  have H2 := H.perm (List.Perm.swap _ _ _)
  obtain ⟨es, hP, h⟩ := rest_openH H2
  obtain ⟨h1, h2⟩ := hP.none rfl
  subst h1 h2
  exact rest_closeH (es := []) ⟨hP.tab, hP.nil, fun h => by (cases h)⟩ h
/-- other writes of that address -/
theorem rest_to {L' : List Wr} (H : Own.St B w0 w (ARest m a v pres L :: Ps)) (hL : ∀ c, c ≠ a → ofA L' c = ofA L c) : Own.St B w0 w (ARest m a v pres L' :: Ps) := by
  obtain ⟨es, hP, h⟩ := rest_openH H
  exact rest_closeH (es := es) ⟨hP.tab.to hL, hP.nil, hP.none⟩ h
/-- one address's list is taken out -/
theorem tab_out (H : Own.St B w0 w (AT m L :: Ps)) (hL : ∀ w ∈ L, w.addr < 4294967296) (a : Nat) : ∃ v pres, (pres = false → ofA L a = []) ∧ Own.St B w0 w (WinQ v (ofA L a) :: ARest m a v pres L :: Ps) := by
  obtain ⟨es, hP, h⟩ := rest_openH H
  rcases hP.tab.out hL a with ⟨v, rest, hp, hT, hne⟩ | ⟨hT, hnil⟩
  · refine ⟨v, true, fun h => by (cases h), ?_⟩
    have hm : m ≠ none := fun e => by
      have := (hP.none e).1
      rw [this] at hp
      have := hp.length_eq
      simp at this
    obtain ⟨b, rfl⟩ := Option.ne_none_iff_exists'.1 hm
    have h1 : Own.St B w0 w (AOf b (es.map kv) :: (es.map rowA ++ Ps)) := h
    obtain ⟨S, hS, _, put⟩ := h1.at 0 rfl
    have h2 := put S w _ (aof_permH (s := es.map kv) hS (hp.map kv)) (Step.refl S w)
    simp only [List.set_cons_zero] at h2
    have h3 : Own.St B w0 w (rowA (a, v, ofA L a) :: (AOf b ((a, v) :: rest.map kv) :: (rest.map rowA ++ Ps))) := by
      refine h2.perm ?_
      refine (List.Perm.cons _ ((hp.map rowA).append_right Ps)).trans ?_
      exact List.Perm.swap _ _ _
    have h4 := h3.perm (List.perm_append_comm (l₁ := [rowA (a, v, ofA L a)]) (l₂ := (AOf b ((a, v) :: rest.map kv) :: (rest.map rowA ++ Ps))))
    have h5 : Own.St B w0 w ((mobj (some b) (kvs a v true rest) ++ rest.map rowA) ++ (Ps ++ [rowA (a, v, ofA L a)])) := by
      simpa [mobj, kvs] using h4
    have h6 := rest_closeH (es := rest) ⟨hT, fun h => by (cases h), fun h => by (cases h)⟩ h5
    exact h6.perm (List.perm_append_comm (l₁ := _ :: Ps) (l₂ := [rowA (a, v, ofA L a)]))
  · refine ⟨nilS, false, fun _ => hnil, ?_⟩
    have h1 := rest_closeH (a := a) (v := nilS) (pres := false) (es := es) ⟨hT, fun _ => rfl, hP.none⟩ h
    rw [hnil]
    exact h1.new (S' := fun _ => False) (WinQ nilS []) (.inl ⟨rfl, rfl, rfl, fun k h => h⟩) (Step.refl _ w)
/-- .. and put back -/
theorem tab_back (ha : a < 4294967296) (hne : ofA L a ≠ []) (H : Own.St B w0 w (WinQ v (ofA L a) :: ARest m a v true L :: Ps)) : Own.St B w0 w (AT m L :: Ps) := by
  have H2 := H.perm (List.Perm.swap _ _ _)
  obtain ⟨es, hP, h⟩ := rest_openH H2
  have hm : m ≠ none := fun e => by have := (hP.none e).2; cases this
  obtain ⟨b, rfl⟩ := Option.ne_none_iff_exists'.1 hm
  refine rest_closeH (es := (a, v, ofA L a) :: es) ⟨hP.tab.back ha v hne, fun _ => rfl, fun h => by (cases h)⟩ ?_
  have h3 : Own.St B w0 w (AOf b ((a, v) :: es.map kv) :: (es.map rowA ++ WinQ v (ofA L a) :: Ps)) := by simpa [mobj, kvs] using h
  have h4 : Own.St B w0 w (AOf b ((a, v) :: es.map kv) :: WinQ v (ofA L a) :: (es.map rowA ++ Ps)) := h3.perm (List.Perm.cons _ List.perm_middle)
  simpa [mobj, kvs, kv, rowA] using h4
theorem tab_back0 (hnil : ofA L a = []) (H : Own.St B w0 w (ARest m a v false L :: Ps)) : Own.St B w0 w (AT m L :: Ps) := by
  obtain ⟨es, hP, h⟩ := rest_openH H
  exact rest_closeH (es := es) ⟨hP.tab.back0 hnil, fun _ => rfl, hP.none⟩ h
end
end Qua
end Go.Proofs.Ytepbdjgfaljbgaa

end
section
namespace Go.Proofs.Ytepbdjgfaljbgaa
open Go.RowKit Go.Own
namespace Qua
open Go.QueM Byt Que
open Rec (keyC keyC_len eql_key zero_key load_key)
abbrev qC (g : Nat) (v : Value) (m : Option Nat) : List Value := [.int .u64 (g : Int), v, .map m]
/-- the landed queue at p -/
def A (p : Nat) (q : Q) : Asn := AEx fun x : Value × Option Nat => AJoin [AVals p 95 (qC (q.next - 1) x.1 x.2), WinQ x.1 q.L, AT x.2 q.L]
section
variable {B : Nat} {w0 w : World} {Ps : List Asn} {p : Nat} {v : Value} {m : Option Nat} {q : Q} {N : Nat}
theorem A_open (H : Own.St B w0 w (A p q :: Ps)) : ∃ v m, Own.St B w0 w (AVals p 95 (qC (q.next - 1) v m) :: WinQ v q.L :: AT m q.L :: Ps) := by
  obtain ⟨x, h⟩ := H.openE
  exact ⟨x.1, x.2, h.openJ⟩
theorem A_close (H : Own.St B w0 w (AVals p 95 (qC (q.next - 1) v m) :: WinQ v q.L :: AT m q.L :: Ps)) : Own.St B w0 w (A p q :: Ps) :=
  Own.St.closeE (α := Value × Option Nat) (P := fun x => AJoin [AVals p 95 (qC (q.next - 1) x.1 x.2), WinQ x.1 q.L, AT x.2 q.L]) (v, m) (Own.St.closeJ (Qs := [_, _, _]) H)
theorem at_nil (H : Own.St B w0 w Ps) : Own.St B w0 w (AT none [] :: Ps) := by
  refine rest_closeH (es := []) ⟨⟨List.nodup_nil, fun e h => by (cases h), fun w h => by (cases h)⟩, fun _ => rfl, fun _ => ⟨rfl, rfl⟩⟩ ?_
  simpa [mobj] using H
theorem win_nil (H : Own.St B w0 w Ps) : Own.St B w0 w (WinQ nilS [] :: Ps) := H.new (S' := fun _ => False) (WinQ nilS []) (.inl ⟨rfl, rfl, rfl, fun k h => h⟩) (Step.refl _ w)
theorem new_any (H : Own.St B w0 w Ps) : Calls Try.prog 12 #[] w fun e w' => ∃ p, e = .returned (ptr p) ∧ Own.St B w0 w' (A p newQ :: Ps) := by
  have h := (win_nil (at_nil H)).boxV 95 (qC 0 nilS none)
  have H1 : Hid (Own.St B w0 (w.alloc (.cells #[.int .u64 0, nilS, .map none] 95)) (A w.heap.size newQ :: Ps)) := A_close (q := newQ) h
  clear h H
  go_enter Try.func12, Try.ntmps12
  go_wp2
  go_ret
  exact ⟨_, rfl, H1.out⟩
set_option maxHeartbeats 1600000 in
/-- valid -/
theorem valid_any (r : Wr) (hs : r.sum.length = 32) (w : World) : Calls Try.prog 41 #[wrV r] w fun e w' => e = .returned (.bool (rightW r)) ∧ Below w.heap.size w w' := by
  obtain ⟨cs, hcs⟩ : ∃ cs, cs = wrC r := ⟨_, rfl⟩
  show Calls Try.prog _ #[.agg (wrC r).toArray] w _
  rw [← hcs]
  have hbox := (Own.St.start w).boxV 38 cs
  have cc : ∀ j v, cs[j]? = some v → (w.alloc (.cells cs.toArray 38)).cell? ⟨w.heap.size, j, none⟩ = some v := fun j v h => (hbox.cellV 0 rfl j h).1
  have c2 := cc 2 (.bool r.trim) (by rw [hcs]; rfl)
  have RK : Hid ((w.alloc (.cells cs.toArray 38)).rangeAt w.heap.size 3 (keyC r.sum r.kn)) := fun j v hv => cc (3 + j) v (by rw [hcs]; exact wrC_key r j v hv)
  have HB := Lib.hid hbox.below
  have KL := Lib.hid (keyC_len r.sum r.kn hs)
  have HS := Lib.hid hs
  obtain ⟨x, hx⟩ : ∃ x, x = rightW r := ⟨_, rfl⟩
  rw [← hx]
  unfold rightW at hx
  obtain ⟨tr, htr⟩ : ∃ t, t = r.trim := ⟨_, rfl⟩
  rw [← htr] at hx c2
  obtain ⟨ke, hke⟩ : ∃ b, (decide (r.sum = RecM.zsum) && decide (r.kn = 0)) = b := ⟨_, rfl⟩
  rw [hke] at hx
  have KE := Lib.hid hke
  clear hke cc hbox hcs htr
  have ht : True := trivial
  cases tr <;> cases ke
  all_goals
    simp only [Bool.not_true, Bool.not_false, Bool.true_or, Bool.false_or] at hx
    subst hx
    go_enter Try.func41, Try.ntmps41
    go_wp2_with (first
      | (refine wpList_val rfl (load_key _ KL.out rfl _ RK.out rfl) ?_)
      | (refine wpList_val rfl (zero_key rfl _ _) ?_)
      | (refine wpList_val rfl (eql_key rfl HS.out rfl KE.out _ _ rfl rfl) ?_))
    go_ret
    exact ⟨rfl, HB.out⟩
theorem next_any (H : Own.St B w0 w (A p q :: Ps)) (hp : q.next ≠ 0) (hx : q.next < 18446744073709551616) : Calls Try.prog 25 #[ptr p] w fun e w' => e = .returned (.int .u64 (q.next : Int)) ∧ w = w' := by
  obtain ⟨v, m, h⟩ := A_open H
  have c0 := (h.cellV 0 rfl 0 rfl).1
  obtain ⟨g, hg⟩ : ∃ g, g = q.next - 1 := ⟨_, rfl⟩
  obtain ⟨nx, hnx⟩ : ∃ g, g = q.next := ⟨_, rfl⟩
  rw [← hg] at c0
  rw [← hnx]
  have e1 : g + 1 = nx := by omega
  have hwr : (g + 1) % 18446744073709551616 = g + 1 := by omega
  have hwi : ((g : Int) + 1) % 18446744073709551616 = (g : Int) + 1 := by omega
  have hw64 : IntKind.u64.wrap ((g : Int) + 1) = (g : Int) + 1 := by simp [IntKind.wrap, IntKind.signed, IntKind.bits]; omega
  have E1 := Lib.hid e1
  clear H h hg hnx hp hx e1
  go_enter Try.func25, Try.ntmps25
  go_wp2
  go_ret
  refine ⟨?_, rfl⟩
  rw [← E1.out]
  rfl
theorem len_any (H : Own.St B w0 w (A p q :: Ps)) : Calls Try.prog 27 #[ptr p] w fun e w' => e = .returned (.int .i64 (q.L.length : Int)) ∧ w = w' := by
  obtain ⟨v, m, h⟩ := A_open H
  obtain ⟨ao, cap, rfl, _⟩ := h.winForm 1 rfl
  have c1 := (h.cellV 0 rfl 1 rfl).1
  obtain ⟨n, hn⟩ : ∃ n, n = q.L.length := ⟨_, rfl⟩
  rw [← hn] at c1 ⊢
  clear H h hn
  go_enter Try.func27, Try.ntmps27
  go_wp2
  go_ret
  exact ⟨rfl, rfl⟩
set_option maxHeartbeats 3200000 in
theorem front_any (H : Own.St B w0 w (A p q :: Ps)) (ok : Ok q N) (hN : N ≤ 10000) :
    Calls Try.prog 26 #[ptr p] w fun e w' => e = .returned (.tuple #[wrV (frontW q), .bool (isW q)]) ∧ Below w.heap.size w w' := by
  have CN : Hid (∀ wx, Below w.heap.size w wx → Calls Try.prog 27 #[ptr p] wx fun e w' => e = .returned (.int .i64 (q.L.length : Int)) ∧ wx = w') := fun wx h => len_any (H.later h)
  obtain ⟨v, m, h0⟩ := A_open H
  obtain ⟨ao, cap, rfl, _⟩ := h0.winForm 1 rfl
  obtain ⟨n, hn⟩ : ∃ n, n = q.L.length := ⟨_, rfl⟩
  obtain ⟨z, hz⟩ : ∃ z, z = zW := ⟨_, rfl⟩
  have ZL : Hid (z.length = 36) := by show z.length = 36; rw [hz]; exact zW_len
  have ZP : Hid ((Try.prog.info? 38).bind (·.zero) = some (.agg z.toArray)) := by rw [hz]; exact zero_wr
  have ZB : Hid (Try.prog.built 38 [] = some z.toArray) := by rw [hz]; exact built_wr
  have ZO : Hid (z.toArray.all (·.oneCell') = true) := by show _ = true; rw [hz]; exact all_oneCell_toArray (wrC_one _)
  have hbox := (Own.St.start w).boxV 38 z
  obtain ⟨b, hb⟩ : ∃ b, b = w.heap.size := ⟨_, rfl⟩
  obtain ⟨W1, hW1⟩ : ∃ W, W = w.alloc (.cells z.toArray 38) := ⟨_, rfl⟩
  have hbl : Below w.heap.size w W1 := by rw [hW1]; exact hbox.below
  rw [← hb, ← hW1] at hbox
  rw [← hb] at CN hbl
  obtain ⟨F, hF⟩ : ∃ F, F = wrC (frontW q) := ⟨_, rfl⟩
  obtain ⟨is, his⟩ : ∃ b, b = isW q := ⟨_, rfl⟩
  show Calls Try.prog _ _ w fun e w' => e = .returned (.tuple #[.agg (wrC (frontW q)).toArray, .bool (isW q)]) ∧ _
  rw [← hF, ← his, ← hb]
  have CL := Lib.hid (CN.out W1 hbl)
  rw [← hn] at CL
  have c1 := ((h0.later (by rw [← hb]; exact hbl)).cellV 0 rfl 1 rfl).1
  rw [← hn] at c1
  have FL : Hid (F.length = 36) := by show F.length = 36; rw [hF]; exact wrC_len _ (front_fits ok).sum
  have FO : Hid (F.toArray.all (·.oneCell') = true) := by show _ = true; rw [hF]; exact all_oneCell_toArray (wrC_one _)
  have hnl : n ≤ 10000 := by rw [hn]; exact Nat.le_trans ok.len hN
  have HB := Lib.hid hb
  have HW1 := Lib.hid hW1
  clear CN
  by_cases hn0 : n = 0
  · subst hn0
    have hF2 : F = z := by
      rw [hF, hz]
      unfold frontW at_
      rw [List.getD_eq_getElem?_getD, List.getElem?_eq_none (l := q.L) (i := 0) (by omega)]
      rfl
    have his2 : is = false := by rw [his]; unfold isW; exact decide_eq_false (by omega)
    subst his2
    have ws := wr_store hbox 0 rfl ZL.out z ZL.out
    obtain ⟨W2, hW2⟩ : ∃ W, W = W1.setCells b 0 z.toArray.toList := ⟨_, rfl⟩
    rw [← hW2] at ws
    have TH := Lib.hid ws.1
    have H2 := Lib.hid ws.2
    have HW2 := Lib.hid hW2
    have IW := Lib.hid (info_wrA z ZL.out)
    have HF2 := Lib.hid hF2
    clear ws hbox hb hW1 hW2 hF hF2 h0 ok H hz his hn hbl
    go_enter Try.func26, Try.ntmps26
    go_wp2_with (refine Own.wpList_allocZ rfl 38 rfl z.toArray ZP.out ?_; rw [← HB.out, ← HW1.out])
    refine CL.out.mono ?_
    rintro e w2 ⟨rfl, rfl⟩
    clear CL
    go_wp2_with (first
      | (refine Own.wpList_built rfl 38 #[] rfl z.toArray ?_ ?_; · (simp only [List.map_toArray, List.map_nil, List.toList_toArray]; exact ZB.out))
      | (refine wpList_store_mid rfl 38 (.tmp 2) (.tmp 7) rfl b 0 z.toArray rfl rfl TH.out IW.out ZO.out ?_; rw [← HW2.out]))
    refine bodyPost_ret (results_cell_two rfl _ _ b 38 _ (0, 0) _ _ rfl rfl (H2.out.rowV 0 rfl) Try.underlying38 rfl (info_wr z ZL.out)) rfl ?_
    exact ⟨by rw [HF2.out]; rfl, H2.out.below⟩
  · have hpos : (0 : Int) < (n : Int) := by omega
    have hne : ((n : Int) == 0) = false := by simp; omega
    have his2 : is = true := by rw [his]; unfold isW; exact decide_eq_true (by omega)
    subst his2
    obtain ⟨g, o, rfl, hr⟩ := win_range ok.fits (h0.later (by rw [← hb]; exact hbl)) 1 (n := q.L.length) (by rfl) rfl 0 (by omega)
    rw [Nat.zero_mul, Nat.add_zero] at hr
    have hr2 : Hid (W1.rangeAt g o F) := by rw [hF]; exact hr
    have ws := wr_store hbox 0 rfl ZL.out F FL.out
    obtain ⟨W2, hW2⟩ : ∃ W, W = W1.setCells b 0 F.toArray.toList := ⟨_, rfl⟩
    rw [← hW2] at ws
    have TH := Lib.hid ws.1
    have H2 := Lib.hid ws.2
    have HW2 := Lib.hid hW2
    have IW := Lib.hid (info_wrA F FL.out)
    clear ws hbox hb hW1 hW2 hF h0 ok H hz his hn hr hbl
    go_enter Try.func26, Try.ntmps26
    go_wp2_with (refine Own.wpList_allocZ rfl 38 rfl z.toArray ZP.out ?_; rw [← HB.out, ← HW1.out])
    refine CL.out.mono ?_
    rintro e w2 ⟨rfl, rfl⟩
    clear CL
    go_wp2_with (first
      | (refine wpList_val rfl (load_wr F FL.out rfl _ (b := g) (k := o) hr2.out rfl) ?_)
      | (refine wpList_store_mid rfl 38 (.tmp 2) (.tmp 13) rfl b 0 F.toArray rfl rfl TH.out IW.out FO.out ?_; rw [← HW2.out]))
    refine bodyPost_ret (results_cell_two rfl _ _ b 38 _ (0, 0) _ _ rfl rfl (H2.out.rowV 0 rfl) Try.underlying38 rfl (info_wr F FL.out)) rfl ?_
    exact ⟨rfl, H2.out.below⟩
end
end Qua
end Go.Proofs.Ytepbdjgfaljbgaa

end
section
namespace Go.Proofs.Ytepbdjgfaljbgaa
open Go.RowKit Go.Own
namespace Qua
open Go.QueM Byt Que
theorem take_at {L : List Wr} {n : Nat} (h : n < L.length) : L.take (n + 1) = L.take n ++ [at_ L n] := by
  rw [List.take_add_one, at_get h]
  rfl
theorem ofA_snoc (L : List Wr) (w : Wr) (a : Nat) : ofA (L ++ [w]) a = if w.addr = a then ofA L a ++ [w] else ofA L a := by
  unfold ofA
  rw [List.filter_append]
  by_cases h : w.addr = a
  · rw [if_pos h]; simp [h]
  · rw [if_neg h]; simp [h]
theorem last_of (L : List Wr) (a : Nat) : ∀ n, n ≤ L.length → (lastF L a n = 0 ↔ ofA (L.take n) a = []) ∧ (lastF L a n ≠ 0 → at_ (ofA (L.take n) a) ((ofA (L.take n) a).length - 1) = at_ L (lastF L a n - 1))
  | 0, _ => ⟨by simp [lastF], fun h => absurd rfl h⟩
  | n + 1, h => by
    obtain ⟨h1, h2⟩ := last_of L a n (by omega)
    rw [take_at (by omega), ofA_snoc]
    unfold lastF
    by_cases e : (at_ L n).addr = a
    · rw [if_pos e, if_pos e]
      refine ⟨by simp, fun _ => ?_⟩
      rw [List.length_append, List.length_singleton, Nat.add_sub_cancel, at_append_one]
      rfl
    · rw [if_neg e, if_neg e]
      exact ⟨h1, h2⟩
theorem last_is (q : Q) (a : Nat) : isLast q a = decide (0 < (ofA q.L a).length) ∧ lastW q a = (if 0 < (ofA q.L a).length then at_ (ofA q.L a) ((ofA q.L a).length - 1) else zeroW) := by
  obtain ⟨h1, h2⟩ := last_of q.L a q.L.length (Nat.le_refl _)
  rw [List.take_length] at h1 h2
  unfold isLast lastW lastN
  by_cases h : lastF q.L a q.L.length = 0
  · have e := h1.1 h
    rw [h, e]
    exact ⟨rfl, rfl⟩
  · have e : 0 < (ofA q.L a).length := List.length_pos_iff.2 (fun e => h (h1.2 e))
    rw [if_pos e, if_neg h, decide_eq_true e, decide_eq_true h]
    exact ⟨rfl, (h2 h).symm⟩
theorem ofA_fits {L : List Wr} (hf : ∀ r ∈ L, Fits r) (a : Nat) : ∀ r ∈ ofA L a, Fits r := fun r hr => hf r (List.mem_filter.1 hr).1
theorem ofA_len (L : List Wr) (a : Nat) : (ofA L a).length ≤ L.length := List.length_filter_le _ _
section
variable {B : Nat} {w0 w : World} {Ps : List Asn} {p : Nat} {v : Value} {m : Option Nat} {q : Q} {N : Nat}
theorem idx_wr {o : Oper} {x : Tmp} {y : Operand} (ho : o.op = .indexAddr 28 (.tmp x) y) {g off n c k : Nat} (hk : k < n) (ρ : Operand → Value) (w : World) (h0 : ρ (.tmp x) = .slice (some ⟨g, off, none⟩) n c) (h1 : ρ y = .int .i64 (k : Int)) : (execOp ρ o).run Try.prog w = .ok (.value (.pointer (some ⟨g, off + k * 36, none⟩))) w := by
  have hk' : (k : Int) < (n : Int) := by omega
  have hs : ∀ w, (sizeOf 38).run Try.prog w = .ok 36 w := fun w => by kernel_rfl
  simp [execOp, ho, h0, h1, go_sem, hk', add_of, hs]
set_option maxHeartbeats 3200000 in
theorem last_any (H : Own.St B w0 w (A p q :: Ps)) (ok : Ok q N) (hN : N ≤ 10000) (a : Nat) (ha : a < 4294967296) :
    Calls Try.prog 21 #[ptr p, .int .u32 (a : Int)] w fun e w' => e = .returned (.tuple #[wrV (lastW q a), .bool (isLast q a)]) ∧ Below w.heap.size w w' := by
  obtain ⟨vw, m, h0⟩ := A_open H
  have h1 : Own.St B w0 w (AT m q.L :: AVals p 95 (qC (q.next - 1) vw m) :: WinQ vw q.L :: Ps) := h0.perm ((List.Perm.swap _ _ _).cons _ |>.trans (List.Perm.swap _ _ _))
  obtain ⟨va, pres, _, h2⟩ := tab_out h1 (fun w hw => (ok.fits w hw).addr) a
  have h3 := h2.perm (List.Perm.swap _ _ _)
  obtain ⟨ao, cap, rfl, _⟩ := h2.winForm 0 rfl
  obtain ⟨l, hl⟩ : ∃ l, l = ofA q.L a := ⟨_, rfl⟩
  obtain ⟨n, hn⟩ : ∃ n, n = (ofA q.L a).length := ⟨_, rfl⟩
  obtain ⟨hli, hlw⟩ := last_is q a
  have hfl := ofA_fits ok.fits a
  have hnl : n ≤ 10000 := by rw [hn]; exact Nat.le_trans (ofA_len _ _) (Nat.le_trans ok.len hN)
  obtain ⟨z, hz⟩ : ∃ z, z = zW := ⟨_, rfl⟩
  have ZL : Hid (z.length = 36) := by show z.length = 36; rw [hz]; exact zW_len
  have ZP : Hid ((Try.prog.info? 38).bind (·.zero) = some (.agg z.toArray)) := by rw [hz]; exact zero_wr
  have ZB : Hid (Try.prog.built 38 [] = some z.toArray) := by rw [hz]; exact built_wr
  have ZO : Hid (z.toArray.all (·.oneCell') = true) := by show _ = true; rw [hz]; exact all_oneCell_toArray (wrC_one _)
  have hbox := (Own.St.start w).boxV 38 z
  obtain ⟨b, hb⟩ : ∃ b, b = w.heap.size := ⟨_, rfl⟩
  obtain ⟨W1, hW1⟩ : ∃ W, W = w.alloc (.cells z.toArray 38) := ⟨_, rfl⟩
  have hbl : Below w.heap.size w W1 := by rw [hW1]; exact hbox.below
  rw [← hb, ← hW1] at hbox
  have g2 := h2.later hbl
  have g3 := h3.later hbl
  have c1 := (g2.cellV 2 rfl 2 rfl).1
  have LK := rest_look g3 ha
  rw [← hn] at LK
  obtain ⟨F, hF⟩ : ∃ F, F = wrC (lastW q a) := ⟨_, rfl⟩
  obtain ⟨is, his⟩ : ∃ b, b = isLast q a := ⟨_, rfl⟩
  show Calls Try.prog _ _ w fun e w' => e = .returned (.tuple #[.agg (wrC (lastW q a)).toArray, .bool (isLast q a)]) ∧ _
  rw [← hF, ← his, ← hb]
  have FL : Hid (F.length = 36) := by show F.length = 36; rw [hF]; exact wrC_len _ (last_fits ok a).sum
  have FO : Hid (F.toArray.all (·.oneCell') = true) := by show _ = true; rw [hF]; exact all_oneCell_toArray (wrC_one _)
  have HB := Lib.hid hb
  have HW1 := Lib.hid hW1
  rw [← hn] at hli hlw
  by_cases hn0 : n = 0
  · subst hn0
    have hF2 : F = z := by rw [hF, hz, hlw, if_neg (by decide)]
    have his2 : is = false := by rw [his, hli]; rfl
    subst his2
    have ws := wr_store hbox 0 rfl ZL.out z ZL.out
    obtain ⟨W2, hW2⟩ : ∃ W, W = W1.setCells b 0 z.toArray.toList := ⟨_, rfl⟩
    rw [← hW2] at ws
    have TH := Lib.hid ws.1
    have H2 := Lib.hid ws.2
    have HW2 := Lib.hid hW2
    have IW := Lib.hid (info_wrA z ZL.out)
    have HF2 := Lib.hid hF2
    clear ws hbox hb hW1 hW2 hF hF2 h0 h1 h2 h3 g2 g3 ok H hz his hn hl hli hlw hfl hbl
    go_enter Try.func21, Try.ntmps21
    go_wp2_with (first
      | (refine Own.wpList_allocZ rfl 38 rfl z.toArray ZP.out ?_; rw [← HB.out, ← HW1.out])
      | (refine wpList_val rfl (look_exec rfl LK _ rfl rfl) ?_)
      | (refine Own.wpList_built rfl 38 #[] rfl z.toArray ?_ ?_; · (simp only [List.map_toArray, List.map_nil, List.toList_toArray]; exact ZB.out))
      | (refine wpList_store_mid rfl 38 (.tmp 4) (.tmp 19) rfl b 0 z.toArray rfl rfl TH.out IW.out ZO.out ?_; rw [← HW2.out]))
    refine bodyPost_ret (results_cell_two rfl _ _ b 38 _ (0, 0) _ _ rfl rfl (H2.out.rowV 0 rfl) Try.underlying38 rfl (info_wr z ZL.out)) rfl ?_
    exact ⟨by rw [HF2.out]; rfl, H2.out.below⟩
  · have hpos : (0 : Int) < (n : Int) := by omega
    have hne : ((n : Int) == 0) = false := by simp; omega
    have his2 : is = true := by rw [his, hli]; exact decide_eq_true (by omega)
    subst his2
    obtain ⟨g, o, rfl, hr⟩ := win_range hfl g2 0 (n := (ofA q.L a).length) rfl rfl (n - 1) (by omega)
    have hr2 : Hid (W1.rangeAt g (o + (n - 1) * 36) F) := by rw [hF, hlw, if_pos (by omega)]; exact hr
    have ws := wr_store hbox 0 rfl ZL.out F FL.out
    obtain ⟨W2, hW2⟩ : ∃ W, W = W1.setCells b 0 F.toArray.toList := ⟨_, rfl⟩
    rw [← hW2] at ws
    have TH := Lib.hid ws.1
    have H2 := Lib.hid ws.2
    have HW2 := Lib.hid hW2
    have IW := Lib.hid (info_wrA F FL.out)
    have hm1 : n - 1 < n := by omega
    have hcast : (n : Int) - 1 = ((n - 1 : Nat) : Int) := by omega
    have HC := Lib.hid hcast
    have hwrap : IntKind.i64.wrap ((n : Int) - 1) = (n : Int) - 1 := by simp [IntKind.wrap, IntKind.signed, IntKind.bits]; omega
    clear ws hbox hb hW1 hW2 hF h0 h1 h2 h3 g2 g3 ok H hz his hn hl hli hlw hfl hr hbl hcast
    go_enter Try.func21, Try.ntmps21
    go_wp2_with (first
      | (refine Own.wpList_allocZ rfl 38 rfl z.toArray ZP.out ?_; rw [← HB.out, ← HW1.out])
      | (refine wpList_val rfl (look_exec rfl LK _ rfl rfl) ?_)
      | (refine wpList_val rfl (idx_wr rfl hm1 _ _ rfl (by rw [← HC.out]; rfl)) ?_)
      | (refine wpList_val rfl (load_wr F FL.out rfl _ (b := g) (k := o + (n - 1) * 36) hr2.out rfl) ?_)
      | (refine wpList_store_mid rfl 38 (.tmp 4) (.tmp 25) rfl b 0 F.toArray rfl rfl TH.out IW.out FO.out ?_; rw [← HW2.out]))
    refine bodyPost_ret (results_cell_two rfl _ _ b 38 _ (0, 0) _ _ rfl rfl (H2.out.rowV 0 rfl) Try.underlying38 rfl (info_wr F FL.out)) rfl ?_
    exact ⟨rfl, H2.out.below⟩
set_option maxHeartbeats 1600000 in
/-- slices.Clone of cells that lie anywhere -/
theorem clone_any (ao : Option Addr) (n cap : Nat) (xs : List Value) (hl : xs.length = n * 36) (hno : ao = none → n = 0 ∧ cap = 0) (hc : ∀ a, ao = some a → ∀ j u, xs[j]? = some u → w.cell? (a.add j) = some u) (h1 : ∀ u ∈ xs, u.oneCell' = true) (hb : n ≤ 100000) :
    Calls Try.prog 45 #[.slice ao n cap] w fun e w' => ∃ a' c', e = .returned (.slice a' n c') ∧ Own.St w.heap.size w w' [ARow 38 36 (.slice a' n c') n xs] := by
  have H1 := Lib.hid ((Own.St.start w).emptyRow 38 36)
  have HL := Lib.hid hl
  have HO := Lib.hid h1
  have HN : Hid (∀ a', ao = some a' → ∀ j u, xs[j]? = some u → (w.alloc (.cells #[] 38)).cell? (a'.add j) = some u) := fun a' ha j u hu => cell_alloc (hc a' ha j u hu) _
  clear hl h1 hc
  go_enter Try.func45, Try.ntmps45
  rcases ao with _ | a
  · obtain ⟨rfl, rfl⟩ := hno rfl
    have hx : xs = [] := List.eq_nil_of_length_eq_zero (by have := HL.out; omega)
    subst hx
    clear HN H1 HO HL
    have hq := eqlNil (P := Try.prog) w 28 _ none 0 0 Try.underlying28
    simp only [Option.isNone_none] at hq
    go_wp2
    go_ret
    exact ⟨none, 0, rfl, (Own.St.start w).rowFresh⟩
  · have hq := eqlNil (P := Try.prog) w 28 _ (some a) n cap Try.underlying28
    simp only [Option.isNone_some] at hq
    go_wp2_with (refine wpList_many_append many_wr rfl (.tmp 5) (.tmp 6) rfl H1.out 0 rfl rfl (some a) n cap xs rfl (by intro h; cases h) HL.out HN.out HO.out (by omega) (by decide) ?_; intro a2 c2 w2 h2; simp only [List.set_cons_zero, Nat.zero_add, List.nil_append] at h2 ⊢; have H2 := Lib.hid h2; clear h2)
    go_ret
    exact ⟨_, _, rfl, H2.out⟩
theorem flat_one (L : List Wr) : ∀ u ∈ L.flatMap wrC, u.oneCell' = true := by
  intro u hu
  obtain ⟨c, _, h⟩ := List.mem_flatMap.1 hu
  exact wrC_one c u h
theorem all_any (H : Own.St B w0 w (A p q :: Ps)) (ok : Ok q N) (hN : N ≤ 10000) :
    Calls Try.prog 23 #[ptr p] w fun e w' => ∃ ao c, e = .returned (.slice ao q.L.length c) ∧ Own.St B w0 w' (RowW (.slice ao q.L.length c) q.L q.L.length :: A p q :: Ps) ∧ Below w.heap.size w w' := by
  obtain ⟨vw, m, h0⟩ := A_open H
  obtain ⟨ao, cap, rfl, hxl, _, _, hnn⟩ := h0.winForm 1 rfl
  have c1 := (h0.cellV 0 rfl 1 rfl).1
  have hcl : ∀ a, ao = some a → ∀ j u, (q.L.flatMap wrC)[j]? = some u → w.cell? (a.add j) = some u := by
    intro a ha j u hu
    have hj : j < q.L.length * 36 := by rw [← hxl]; exact (List.getElem?_eq_some_iff.1 hu).1
    obtain ⟨g, o, hg, ⟨u', h1, h2⟩, _⟩ := h0.winAt 1 rfl j hj
    rw [ha] at hg
    cases hg
    rw [hu] at h1
    cases h1
    rw [add_of]
    exact h2
  have C := Lib.hid (clone_any (w := w) ao q.L.length cap (q.L.flatMap wrC) hxl hnn hcl (flat_one q.L) (Nat.le_trans ok.len (by omega)))
  have H0 := Lib.hid H
  obtain ⟨n, hn⟩ : ∃ n, n = q.L.length := ⟨_, rfl⟩
  rw [← hn] at c1 C ⊢
  clear H h0 hxl hnn hcl hn ok
  go_enter Try.func23, Try.ntmps23
  go_wp2_with (fail)
  refine C.out.mono ?_
  rintro e w1 ⟨a', c', rfl, h⟩
  have H1 := Lib.hid h
  clear h C
  go_wp2
  go_ret
  obtain ⟨T, hT, hTB, _⟩ := H1.out.at 0 rfl
  exact ⟨a', c', rfl, H0.out.adopt H1.out.below _ hT hTB, H1.out.below⟩
end
end Qua
end Go.Proofs.Ytepbdjgfaljbgaa

end
