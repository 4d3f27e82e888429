/- FlashPlays: the walk. -/
import Derived.Test.YtepllhfofhehaaaFlaRj
import Derived.Test.YtepllhfofhehaaaLaxG
import Derived.Test.YtepllhfofhehaaaLawFlaC
namespace Go.Proofs.Ytepllhfofhehaaa
open Go.RowKit Go.Own
namespace Fla
open Go.FlaM Byt

set_option maxRecDepth 4000 in
set_option maxHeartbeats 16000000 in
theorem walk_plays (segs pages : Int) (ws : (Lit.int .i64 segs).wf = true) (wp : (Lit.int .i64 pages).wf = true) (a0 : Option Addr) (len0 cap0 : Nat) (l : List ActD) {w : World} (w0 : inSlice 7 inAct l w.heap.size w [.slice a0 len0 cap0]) (K : Kept w) :
    Calls Try.prog 3 #[.int .i64 segs, .int .i64 pages, .slice a0 len0 cap0] w (RetYes w) := by
  have hs := wf64 ws
  have hp := wf64 wp
  obtain ⟨hlen, hcap, hmax, _, hat⟩ := acts_in w0
  have SH := Lib.hid (shown_any K (Below.refl _ _))
  have HF := Lib.hid (few_any w0)
  have HAT := Lib.hid hat
  have HLEN := Lib.hid hlen
  have hmax2 : cap0 ≤ 9223372036854775807 := by unfold maxLen at hmax; omega
  have HS := Lib.hid hs
  have HP := Lib.hid hp
  clear hat hlen w0 hmax ws wp hs hp
  go_enter Try.func3, Try.ntmps3
  go_wp2_with (fail)
  refine SH.out.mono ?_
  rintro e w1 ⟨rfl, h1⟩
  have H1 := Lib.hid ((Own.St.start w).later h1)
  clear h1 SH
  by_cases hm : mayBe segs pages = true
  · have N1 := Lib.hid (K.new segs pages H1.out.below H1.out HS.out HP.out)
    simp only [hm, if_true] at N1
    go_wp2_with (fail)
    refine N1.out.mono ?_
    clear N1
    rintro e w2 ⟨p, rfl, h2⟩
    have H2 := Lib.hid h2
    clear h2 H1
    have N2 := Lib.hid (newR_any H2.out segs pages HS.out HP.out)
    simp only [hm, if_true] at N2
    have OK0 := Lib.hid (ok_fresh segs.toNat pages.toNat (by have := hm; simp [mayBe] at this; omega) (by have := hm; simp [mayBe] at this; omega))
    go_wp2_with (fail)
    refine N2.out.mono ?_
    clear N2
    rintro e w3 ⟨q, rfl, h3⟩
    obtain ⟨s0, hs0⟩ : ∃ s0, s0 = fresh segs.toNat pages.toNat := ⟨_, rfl⟩
    rw [← hs0] at h3 OK0
    have H3 := Lib.hid h3.swap2
    clear h3 H2 hs0 hm
    go_wp2_with (fail)
    refine (HF.out w3 H3.out.below).mono ?_
    rintro e w4 ⟨k, hk1, hk2, hk3, rfl, rfl⟩
    have HK3 := Lib.hid hk3
    clear hk3
    go_wp2
    go_loopw [8, 50] (fun v8 v50 wr => ∃ (i pt : Nat) (s : FS), i ≤ k ∧ v8 = ptr pt ∧ v50 = .int .i64 (i : Int) ∧ Own.St w.heap.size w wr [K.A pt s, ARef q s] ∧ Ok s i) (fun _ v50 _ => k - (intOf v50).toNat)
    case atStart => exact ⟨0, p, s0, Nat.zero_le _, rfl, rfl, H3.out, OK0.out⟩
    case round =>
      obtain ⟨i, p, s, hik, rfl, rfl, hH, hok⟩ := hrel
      have H := Lib.hid hH
      have OK := Lib.hid hok
      clear hH hok H3 OK0
      by_cases hi : (i : Int) < (k : Int)
      · have hil : i < l.length := by rw [← HLEN.out]; omega
        obtain ⟨b, o, rfl, hb, hact⟩ := HAT.out (by intro e; rw [e] at hil; simp at hil)
        obtain ⟨a, ha⟩ : ∃ a, a = l[i] := ⟨_, rfl⟩
        have hat1 := hact wr (fun k hk => H.out.below.block k hk) H.out.below.size i hil
        rw [← ha] at hat1
        have hbl : a.b.length ≤ 10000 := by rw [ha]; exact HK3.out i hil (by omega)
        obtain ⟨ab, af, cb, cf, vs, RA0⟩ := round_act H.out hat1
        have RA := Lib.hid RA0
        obtain ⟨bb, hbb⟩ : ∃ bb, bb = wr.heap.size := ⟨_, rfl⟩
        obtain ⟨w5, hw5⟩ : ∃ w5, w5 = (wr.alloc (.cells zeroAct.toArray 35)).setCells wr.heap.size 0 vs := ⟨_, rfl⟩
        have hst := RA.out.st
        rw [List.toList_toArray] at hst
        rw [← hw5, ← hbb] at hst
        have H5 := Lib.hid hst.swap2
        have c0 := (H5.out.cellV 1 rfl 0 (v := .int .u8 (a.kind.toNat : Int)) (by rw [RA.out.vs_]; rfl)).1
        obtain ⟨r, hr⟩ : ∃ r, r = a.kind.toNat % 6 := ⟨_, rfl⟩
        have hri : (a.kind.toNat : Int) % 6 = (r : Int) := by omega
        have hr6 : r < 6 := by omega
        have hkb : a.kind.toNat < 256 := a.kind.toNat_lt
        obtain ⟨i1, _, _, _, _, _, _, _, i9, _, i11⟩ := actIn_of (RA.out.inn w5 hst.below hst.size)
        have NB := Lib.hid i11
        have VSL : Hid (vs.length = 7) := RA.out.len
        have hk80 : i < 80 := by omega
        clear hst hact hat1 RA0 ha i1 i9 i11 hr
        rw [hw5, hbb] at c0
        obtain ⟨s2, hs2⟩ : ∃ s2, s2 = (doAct s a).1 := ⟨_, rfl⟩
        obtain ⟨er, her⟩ : ∃ er, er = (doAct s a).2 := ⟨_, rfl⟩
        have OK2 : Hid (Ok s2 (i + 1)) := by rw [hs2]; exact ok_act OK.out a NB.out
        have HDA : Hid (s2 = (doAct s a).1 ∧ er = (doAct s a).2) := ⟨hs2, her⟩
        clear hs2 her
        by_cases h5 : r = 5
        · subst h5
          go_wp2_with (first
            | (refine wpList_load_mid rfl 35 (.tmp 52) rfl b (o + i * 7) rfl vs _ RA.out.range Try.underlying35 rfl RA.out.info ?_)
            | (refine wpList_store_mid rfl 35 (.tmp 13) (.tmp 53) rfl wr.heap.size 0 vs.toArray rfl rfl RA.out.there RA.out.info2 RA.out.one ?_))
          rw [← hw5, ← hbb]
          clear hw5 c0 hbb
          refine (K.copy H5.out.below H5.out OK.out (by omega)).mono ?_
          rintro e wc ⟨pc, rfl, hc⟩
          have G1 := Lib.hid hc.swap2
          clear hc H5
          go_wp2_with (fail)
          refine (K.crash none 0 0 [] G1.out.below G1.out OK.out (by omega) ⟨rfl, ⟨Nat.le_refl _, Nat.zero_le _⟩, fun _ => rfl, fun j hj => by omega, .inr (.inl rfl)⟩).mono ?_
          rintro e wd ⟨rfl, hd⟩
          have G2 := Lib.hid hd
          have OKB := Lib.hid (ok_crash OK.out [])
          clear hd G1
          go_wp2_with (fail)
          refine (K.erase 0 G2.out.below G2.out OKB.out (by omega) ⟨by decide, by decide⟩).mono ?_
          rintro e we ⟨rfl, he⟩
          have G3 := Lib.hid he
          have OKC := Lib.hid (ok_erase OKB.out 0)
          clear he G2 OKB
          go_wp2_with (fail)
          refine (page_any 1 G3.out).mono ?_
          rintro e wf ⟨g, rfl, hf⟩
          have G4 := Lib.hid hf.swap2
          clear hf G3
          go_wp2_with (fail)
          refine (K.program 0 0 (some ⟨g, 0, none⟩) 128 128 (List.replicate 128 1) G4.out.below G4.out OKC.out (by omega) ⟨by decide, by decide⟩ ⟨by decide, by decide⟩ ⟨given_own G4.out 1 rfl, .inl ⟨0, rfl⟩⟩ (by decide)).mono ?_
          rintro e wt ⟨rfl, hg⟩
          have HT := Lib.hid (hg.drop 2)
          clear hg G4 OKC
          obtain ⟨p, hp⟩ : ∃ p, p = pc := ⟨_, rfl⟩
          rw [← hp] at HT ⊢
          clear hp
          go_wp2
          obtain ⟨CC, hCC⟩ : ∃ CC : Nat → World → Prop, CC = fun j wx => Own.St w.heap.size w wx [K.A p (if j = 0 then s else s2), AVals bb 35 vs, ARef q (if j ≤ 1 then s else s2)] := ⟨_, rfl⟩
          have LDA : Hid (∀ j wx, CC j wx → ∀ (ρ : Operand → Value) (o : Oper) (x : Tmp), o.op = .load 35 (.tmp x) → ρ (.tmp x) = .pointer (some ⟨bb, 0, none⟩) → (execOp ρ o).run Try.prog wx = .ok (.value (.agg vs.toArray)) wx) := by
            intro j wx hC ρ o x ho h0
            rw [hCC] at hC
            exact load_actV ho VSL.out (Own.St.rowV hC 1 rfl) (Below.refl _ _) ρ h0
          have DOES : Hid (∀ wx, CC 0 wx → Calls Try.prog 20 #[ptr p, .agg vs.toArray] wx fun e w' => e = .returned (errV er) ∧ CC 1 w') := by
            intro wx hC
            rw [hCC] at hC ⊢
            have h : Own.St w.heap.size w wx [K.A p s, AVals bb 35 vs, ARef q s] := hC
            have hd := does_any K a ab af cb cf h.below h OK.out (by omega) hbl (RA.out.inn wx h.below h.size)
            rw [← RA.out.vs_, ← HDA.out.1, ← HDA.out.2] at hd
            exact hd
          have MODEL : Hid (∀ wx, CC 1 wx → Calls Try.prog 21 #[ptr q, .agg vs.toArray] wx fun e w' => e = .returned (errV er) ∧ CC 2 w') := by
            intro wx hC
            rw [hCC] at hC ⊢
            have h : Own.St w.heap.size w wx [K.A p s2, AVals bb 35 vs, ARef q s] := hC
            have hd := model_any a ab af cb cf (h.front 2 rfl) OK.out (by omega) hbl (RA.out.inn wx h.below h.size)
            rw [← RA.out.vs_, ← HDA.out.1, ← HDA.out.2] at hd
            refine hd.mono ?_
            rintro e w' ⟨he, h'⟩
            exact ⟨he, Own.St.back (Ps := [K.A p s2, AVals bb 35 vs, ARef q s]) 2 (by simp) h'⟩
          have ALIKE : Hid (∀ wx, CC 2 wx → Calls Try.prog 22 #[ptr p, ptr q] wx fun e w' => e = .returned (.bool true) ∧ CC 3 w') := by
            intro wx hC
            rw [hCC] at hC ⊢
            have h : Own.St w.heap.size w wx [K.A p s2, AVals bb 35 vs, ARef q s2] := hC
            refine (alike_any K (fun _ h => h) (h.front 2 rfl).swap2 OK2.out (by omega)).mono ?_
            rintro e w' ⟨he, h'⟩
            exact ⟨he, Own.St.back (Ps := [K.A p s2, AVals bb 35 vs, ARef q s2]) 2 (by simp) h'.swap2⟩
          have FIN : Hid (∀ wx, CC 3 wx → Own.St w.heap.size w wx [K.A p s2, ARef q s2]) := by
            intro wx hC
            rw [hCC] at hC
            have h : Own.St w.heap.size w wx [K.A p s2, AVals bb 35 vs, ARef q s2] := hC
            exact h.drop2
          have START : CC 0 { wt with drawn := wt.drawn + 1 } := by
            rw [hCC]
            exact Own.St.drewN HT.out 1
          refine wp_chain_list [5, 8, 14] CC (by kernel_rfl) (by kernel_rfl) (by kernel_rfl) (by kernel_rfl) START ?_
          clear hCC START HT
          refine wpG_move (ptr p) rfl (by kernel_rfl) (by kernel_rfl) (by kernel_rfl) ?_
          refine wpG_run1 (x := .tmp 68) (ptr p) (.bool false) (by kernel_rfl) (by kernel_rfl) (by kernel_rfl) (by kernel_rfl) (fun j wx ρ hC h0 hc => by simp [go_sem, h0, hc]) ?_
          refine wpG_move (.bool false) rfl (by kernel_rfl) (by kernel_rfl) (by kernel_rfl) ?_
          refine wpG_move (ptr p) rfl (by kernel_rfl) (by kernel_rfl) (by kernel_rfl) ?_
          refine wpG_run1 (x := .tmp 13) (.pointer (some ⟨bb, 0, none⟩)) (.agg vs.toArray) (by kernel_rfl) (by kernel_rfl) (by kernel_rfl) (by kernel_rfl) (fun j wx ρ hC h0 hc => LDA.out j wx hC ρ _ _ rfl h0) ?_
          refine wpG_fn 0 (errV er) [ptr p, .agg vs.toArray] (by kernel_rfl) (by kernel_rfl) rfl rfl (by kernel_rfl) (by kernel_rfl) (fun _ _ => by simp [go_sem]) (fun wx hC => DOES.out wx hC) ?_
          refine wpG_move (ptr q) rfl (by kernel_rfl) (by kernel_rfl) (by kernel_rfl) ?_
          refine wpG_run1 (x := .tmp 13) (.pointer (some ⟨bb, 0, none⟩)) (.agg vs.toArray) (by kernel_rfl) (by kernel_rfl) (by kernel_rfl) (by kernel_rfl) (fun j wx ρ hC h0 hc => LDA.out j wx hC ρ _ _ rfl h0) ?_
          refine wpG_fn 1 (errV er) [ptr q, .agg vs.toArray] (by kernel_rfl) (by kernel_rfl) rfl rfl (by kernel_rfl) (by kernel_rfl) (fun _ _ => by simp [go_sem]) (fun wx hC => MODEL.out wx hC) ?_
          refine wpG_run2 (x := .tmp 73) (y := .tmp 76) (errV er) (errV er) (.bool false) (by kernel_rfl) (by kernel_rfl) (by kernel_rfl) (by kernel_rfl) (by kernel_rfl) (fun j wx ρ hC h0 h1 hc => by simp [go_sem, h0, h1, hc]) ?_
          refine wpG_run2 (x := .tmp 70) (y := .tmp 77) (.bool false) (.bool false) (.bool false) (by kernel_rfl) (by kernel_rfl) (by kernel_rfl) (by kernel_rfl) (by kernel_rfl) (fun j wx ρ hC h0 h1 hc => by simp [go_sem, h0, h1, hc]) ?_
          refine wpG_move (.bool false) rfl (by kernel_rfl) (by kernel_rfl) (by kernel_rfl) ?_
          refine wpG_move (ptr p) rfl (by kernel_rfl) (by kernel_rfl) (by kernel_rfl) ?_
          refine wpG_move (ptr q) rfl (by kernel_rfl) (by kernel_rfl) (by kernel_rfl) ?_
          refine wpG_fn 2 (.bool true) [ptr p, ptr q] (by kernel_rfl) (by kernel_rfl) rfl rfl (by kernel_rfl) (by kernel_rfl) (fun _ _ => by simp [go_sem]) (fun wx hC => ALIKE.out wx hC) ?_
          refine wpG_run1 (x := .tmp 82) (.bool true) (.bool false) (by kernel_rfl) (by kernel_rfl) (by kernel_rfl) (by kernel_rfl) (fun j wx ρ hC h0 hc => by simp [go_sem, h0, hc]) ?_
          refine wpG_run2 (x := .tmp 79) (y := .tmp 83) (.bool false) (.bool false) (.bool false) (by kernel_rfl) (by kernel_rfl) (by kernel_rfl) (by kernel_rfl) (by kernel_rfl) (fun j wx ρ hC h0 h1 hc => by simp [go_sem, h0, h1, hc]) ?_
          refine wpG_end (fun w9 hw9 => ?_)
          have H9 := Lib.hid (FIN.out w9 hw9)
          clear hw9 LDA DOES MODEL ALIKE FIN
          simp only [setL, List.set_cons_zero, List.set_cons_succ]
          go_wp2
          go_roundw
          case rel => exact ⟨i + 1, p, s2, by omega, rfl, by go_num, H9.out, OK2.out⟩
          case measure => simp [intOf]; omega
        · have h5' : ((r : Int) == 5) = false := by simp; omega
          go_wp2_with (first
            | (refine wpList_load_mid rfl 35 (.tmp 52) rfl b (o + i * 7) rfl vs _ RA.out.range Try.underlying35 rfl RA.out.info ?_)
            | (refine wpList_store_mid rfl 35 (.tmp 13) (.tmp 53) rfl wr.heap.size 0 vs.toArray rfl rfl RA.out.there RA.out.info2 RA.out.one ?_))
          rw [← hw5, ← hbb]
          clear hw5 c0 hbb
          obtain ⟨wt, hwt⟩ : ∃ wt, wt = w5 := ⟨_, rfl⟩
          have HT := H5
          rw [← hwt] at HT ⊢
          clear hwt H5
          obtain ⟨CC, hCC⟩ : ∃ CC : Nat → World → Prop, CC = fun j wx => Own.St w.heap.size w wx [K.A p (if j = 0 then s else s2), AVals bb 35 vs, ARef q (if j ≤ 1 then s else s2)] := ⟨_, rfl⟩
          have LDA : Hid (∀ j wx, CC j wx → ∀ (ρ : Operand → Value) (o : Oper) (x : Tmp), o.op = .load 35 (.tmp x) → ρ (.tmp x) = .pointer (some ⟨bb, 0, none⟩) → (execOp ρ o).run Try.prog wx = .ok (.value (.agg vs.toArray)) wx) := by
            intro j wx hC ρ o x ho h0
            rw [hCC] at hC
            exact load_actV ho VSL.out (Own.St.rowV hC 1 rfl) (Below.refl _ _) ρ h0
          have DOES : Hid (∀ wx, CC 0 wx → Calls Try.prog 20 #[ptr p, .agg vs.toArray] wx fun e w' => e = .returned (errV er) ∧ CC 1 w') := by
            intro wx hC
            rw [hCC] at hC ⊢
            have h : Own.St w.heap.size w wx [K.A p s, AVals bb 35 vs, ARef q s] := hC
            have hd := does_any K a ab af cb cf h.below h OK.out (by omega) hbl (RA.out.inn wx h.below h.size)
            rw [← RA.out.vs_, ← HDA.out.1, ← HDA.out.2] at hd
            exact hd
          have MODEL : Hid (∀ wx, CC 1 wx → Calls Try.prog 21 #[ptr q, .agg vs.toArray] wx fun e w' => e = .returned (errV er) ∧ CC 2 w') := by
            intro wx hC
            rw [hCC] at hC ⊢
            have h : Own.St w.heap.size w wx [K.A p s2, AVals bb 35 vs, ARef q s] := hC
            have hd := model_any a ab af cb cf (h.front 2 rfl) OK.out (by omega) hbl (RA.out.inn wx h.below h.size)
            rw [← RA.out.vs_, ← HDA.out.1, ← HDA.out.2] at hd
            refine hd.mono ?_
            rintro e w' ⟨he, h'⟩
            exact ⟨he, Own.St.back (Ps := [K.A p s2, AVals bb 35 vs, ARef q s]) 2 (by simp) h'⟩
          have ALIKE : Hid (∀ wx, CC 2 wx → Calls Try.prog 22 #[ptr p, ptr q] wx fun e w' => e = .returned (.bool true) ∧ CC 3 w') := by
            intro wx hC
            rw [hCC] at hC ⊢
            have h : Own.St w.heap.size w wx [K.A p s2, AVals bb 35 vs, ARef q s2] := hC
            refine (alike_any K (fun _ h => h) (h.front 2 rfl).swap2 OK2.out (by omega)).mono ?_
            rintro e w' ⟨he, h'⟩
            exact ⟨he, Own.St.back (Ps := [K.A p s2, AVals bb 35 vs, ARef q s2]) 2 (by simp) h'.swap2⟩
          have FIN : Hid (∀ wx, CC 3 wx → Own.St w.heap.size w wx [K.A p s2, ARef q s2]) := by
            intro wx hC
            rw [hCC] at hC
            have h : Own.St w.heap.size w wx [K.A p s2, AVals bb 35 vs, ARef q s2] := hC
            exact h.drop2
          have START : CC 0 { wt with drawn := wt.drawn + 1 } := by
            rw [hCC]
            exact Own.St.drewN HT.out 1
          refine wp_chain_list [5, 8, 14] CC (by kernel_rfl) (by kernel_rfl) (by kernel_rfl) (by kernel_rfl) START ?_
          clear hCC START HT
          refine wpG_move (ptr p) rfl (by kernel_rfl) (by kernel_rfl) (by kernel_rfl) ?_
          refine wpG_run1 (x := .tmp 68) (ptr p) (.bool false) (by kernel_rfl) (by kernel_rfl) (by kernel_rfl) (by kernel_rfl) (fun j wx ρ hC h0 hc => by simp [go_sem, h0, hc]) ?_
          refine wpG_move (.bool false) rfl (by kernel_rfl) (by kernel_rfl) (by kernel_rfl) ?_
          refine wpG_move (ptr p) rfl (by kernel_rfl) (by kernel_rfl) (by kernel_rfl) ?_
          refine wpG_run1 (x := .tmp 13) (.pointer (some ⟨bb, 0, none⟩)) (.agg vs.toArray) (by kernel_rfl) (by kernel_rfl) (by kernel_rfl) (by kernel_rfl) (fun j wx ρ hC h0 hc => LDA.out j wx hC ρ _ _ rfl h0) ?_
          refine wpG_fn 0 (errV er) [ptr p, .agg vs.toArray] (by kernel_rfl) (by kernel_rfl) rfl rfl (by kernel_rfl) (by kernel_rfl) (fun _ _ => by simp [go_sem]) (fun wx hC => DOES.out wx hC) ?_
          refine wpG_move (ptr q) rfl (by kernel_rfl) (by kernel_rfl) (by kernel_rfl) ?_
          refine wpG_run1 (x := .tmp 13) (.pointer (some ⟨bb, 0, none⟩)) (.agg vs.toArray) (by kernel_rfl) (by kernel_rfl) (by kernel_rfl) (by kernel_rfl) (fun j wx ρ hC h0 hc => LDA.out j wx hC ρ _ _ rfl h0) ?_
          refine wpG_fn 1 (errV er) [ptr q, .agg vs.toArray] (by kernel_rfl) (by kernel_rfl) rfl rfl (by kernel_rfl) (by kernel_rfl) (fun _ _ => by simp [go_sem]) (fun wx hC => MODEL.out wx hC) ?_
          refine wpG_run2 (x := .tmp 73) (y := .tmp 76) (errV er) (errV er) (.bool false) (by kernel_rfl) (by kernel_rfl) (by kernel_rfl) (by kernel_rfl) (by kernel_rfl) (fun j wx ρ hC h0 h1 hc => by simp [go_sem, h0, h1, hc]) ?_
          refine wpG_run2 (x := .tmp 70) (y := .tmp 77) (.bool false) (.bool false) (.bool false) (by kernel_rfl) (by kernel_rfl) (by kernel_rfl) (by kernel_rfl) (by kernel_rfl) (fun j wx ρ hC h0 h1 hc => by simp [go_sem, h0, h1, hc]) ?_
          refine wpG_move (.bool false) rfl (by kernel_rfl) (by kernel_rfl) (by kernel_rfl) ?_
          refine wpG_move (ptr p) rfl (by kernel_rfl) (by kernel_rfl) (by kernel_rfl) ?_
          refine wpG_move (ptr q) rfl (by kernel_rfl) (by kernel_rfl) (by kernel_rfl) ?_
          refine wpG_fn 2 (.bool true) [ptr p, ptr q] (by kernel_rfl) (by kernel_rfl) rfl rfl (by kernel_rfl) (by kernel_rfl) (fun _ _ => by simp [go_sem]) (fun wx hC => ALIKE.out wx hC) ?_
          refine wpG_run1 (x := .tmp 82) (.bool true) (.bool false) (by kernel_rfl) (by kernel_rfl) (by kernel_rfl) (by kernel_rfl) (fun j wx ρ hC h0 hc => by simp [go_sem, h0, hc]) ?_
          refine wpG_run2 (x := .tmp 79) (y := .tmp 83) (.bool false) (.bool false) (.bool false) (by kernel_rfl) (by kernel_rfl) (by kernel_rfl) (by kernel_rfl) (by kernel_rfl) (fun j wx ρ hC h0 h1 hc => by simp [go_sem, h0, h1, hc]) ?_
          refine wpG_end (fun w9 hw9 => ?_)
          have H9 := Lib.hid (FIN.out w9 hw9)
          clear hw9 LDA DOES MODEL ALIKE FIN
          simp only [setL, List.set_cons_zero, List.set_cons_succ]
          go_wp2
          go_roundw
          case rel => exact ⟨i + 1, p, s2, by omega, rfl, by go_num, H9.out, OK2.out⟩
          case measure => simp [intOf]; omega
      · go_wp2
        go_ret
        exact ⟨rfl, H.out.below⟩
  · have N1 := Lib.hid (K.new segs pages H1.out.below H1.out HS.out HP.out)
    have hm' : mayBe segs pages = false := by simpa using hm
    simp only [hm', Bool.false_eq_true, if_false] at N1
    go_wp2_with (fail)
    refine N1.out.mono ?_
    clear N1
    rintro e w2 ⟨rfl, h2⟩
    have H2 := Lib.hid h2
    clear h2 H1
    have N2 := Lib.hid (newR_any H2.out segs pages HS.out HP.out)
    simp only [hm', Bool.false_eq_true, if_false] at N2
    go_wp2_with (fail)
    refine N2.out.mono ?_
    clear N2
    rintro e w3 ⟨rfl, h3⟩
    have H3 := Lib.hid h3
    clear h3 H2 hm hm'
    go_wp2
    go_ret
    exact ⟨rfl, H3.out.below⟩
end Fla
end Go.Proofs.Ytepllhfofhehaaa
