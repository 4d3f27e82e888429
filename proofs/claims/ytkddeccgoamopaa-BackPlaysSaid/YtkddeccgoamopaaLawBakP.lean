/- An act on the document's disk: model. BackPlays: the walk. -/
import Derived.Test.YtkddeccgoamopaaBakK
import Derived.Test.YtkddeccgoamopaaBakRe
import Derived.Test.YtkddeccgoamopaaLaxG
namespace Go.Proofs.Ytkddeccgoamopaa
open Go.RowKit Go.Own
namespace Bak
open Go.BakM Byt

set_option maxHeartbeats 4000000 in
theorem model_any {B : Nat} {w0 w : World} {Ps : List Asn} {p : Nat} {vS : Value} {s : DS} {N : Nat} (a : ActD) (H : Own.St B w0 w (ARef p vS s :: Ps)) (ok : Ok s N) (hN : N ≤ 10000) (hf : a.Fits) :
    Calls Try.prog 17 #[qtr p, .agg (actVs a).toArray] w fun e w' => e = .returned (errW (doAct s a).2) ∧ Own.St B w0 w' (ARef p vS (doAct s a).1 :: Ps) := by
  obtain ⟨vs, hvs⟩ : ∃ vs, vs = actVs a := ⟨_, rfl⟩
  rw [← hvs]
  have VL : Hid (vs.length = 6) := by rw [hvs]; exact rfl
  obtain ⟨b, hbd⟩ : ∃ b, b = w.heap.size := ⟨_, rfl⟩
  obtain ⟨w1, hw1⟩ : ∃ w1, w1 = w.alloc (.cells vs.toArray 34) := ⟨_, rfl⟩
  have hbox := H.boxV 34 vs
  rw [← hbd, ← hw1] at hbox
  have H1 := Lib.hid hbox.swap2
  have g1 : Below w.heap.size w w1 := by rw [hw1]; exact ((Own.St.start w).alloc _).below
  have hcl : ∀ j v, vs[j]? = some v → ∀ wx, Below w1.heap.size w1 wx → wx.cell? ⟨b, j, none⟩ = some v := fun j v hv wx hwx => cellLater (hbox.cellV 0 rfl j hv).1 hwx
  have C0 := hcl 0 (.int .u8 (a.kind.toNat : Int)) (by rw [hvs]; rfl) w1 (Below.refl _ _)
  have C1 := Lib.hid (hcl 1 (.int .i64 a.pos) (by rw [hvs]; rfl))
  have C2 := Lib.hid (hcl 2 (.int .i64 a.n) (by rw [hvs]; rfl))
  have C5 := Lib.hid (hcl 5 (.int .u64 (a.there : Int)) (by rw [hvs]; rfl))
  have BLK : Hid (w1.heap[b]? = some (.cells vs.toArray 34 (0, 0))) := hbox.rowV 0 rfl
  have CB : Hid (∀ wx, Below w1.heap.size w1 wx → Calls Try.prog 24 #[.agg vs.toArray] wx fun e w' => ∃ v, e = .returned v ∧ (tyG (bytesOf a)).holds v w' ∧ Below wx.heap.size wx w') := by
    intro wx hwx
    rw [hvs]
    exact bytes_ty a wx
  have POS := Lib.hid hf.pos
  have NB := Lib.hid hf.n
  have TB := Lib.hid hf.there
  have OKS := Lib.hid ok
  obtain ⟨r, hr⟩ : ∃ r, r = a.kind.toNat % 5 := ⟨_, rfl⟩
  have hr5 : r < 5 := by omega
  have hri : (a.kind.toNat : Int) % 5 = (r : Int) := by omega
  have hkb : a.kind.toNat < 256 := a.kind.toNat_lt
  have HR := Lib.hid hr.symm
  clear hcl ok hr hbox H g1 hvs hf
  match r, hr5 with
  | 0, _ =>
    have hri0 : (a.kind.toNat : Int) % 5 = 0 := hri
    have HD : Hid (doAct s a = write s a.pos (bytesOf a)) := by
      show doAct s a = _
      unfold doAct
      rw [HR.out]
      rfl
    rw [HD.out]
    clear hri HD HR
    go_enter Try.func17, Try.ntmps17
    rw [hw1, hbd] at C0
    go_wp2_with (fail)
    rw [← hw1, ← hbd]
    clear C0 hw1 hbd
    refine wp_laxW_list 6 (by kernel_rfl) (by kernel_rfl) (by kernel_rfl) (by kernel_rfl) (by kernel_rfl) ?_
    simp only [List.take_succ_cons, List.take_zero, List.drop_succ_cons, List.drop_zero]
    refine wpL_move (ptr p) rfl (by kernel_rfl) (by kernel_rfl) (by kernel_rfl) (by kernel_rfl) ?_
    refine wpL_run1 (x := .tmp 3) (.pointer (some ⟨b, 0, none⟩)) (.pointer (some ⟨b, 1, none⟩)) (by kernel_rfl) (by kernel_rfl) (by kernel_rfl) (by kernel_rfl) (by kernel_rfl) (fun wx ρ hwx h0 hc => by simp [go_sem, h0, hc]) ?_
    refine wpL_run1 (x := .tmp 11) (.pointer (some ⟨b, 1, none⟩)) (.int .i64 a.pos) (by kernel_rfl) (by kernel_rfl) (by kernel_rfl) (by kernel_rfl) (by kernel_rfl) (fun wx ρ hwx h0 hc => by simp [go_sem, h0, hc, C1.out wx hwx]) ?_
    refine wpL_run1 (x := .tmp 3) (.pointer (some ⟨b, 0, none⟩)) (.agg vs.toArray) (by kernel_rfl) (by kernel_rfl) (by kernel_rfl) (by kernel_rfl) (by kernel_rfl) (fun wx ρ hwx h0 hc => load_actV rfl VL.out BLK.out hwx ρ h0) ?_
    refine wpL_fnT (tyG (bytesOf a)) [.agg vs.toArray] rfl rfl (by kernel_rfl) (by kernel_rfl) (by kernel_rfl) (by kernel_rfl) (fun _ _ => by simp [go_sem]) (fun wx hwx => CB.out wx hwx) ?_
    refine wpL_conv (strV (bytesOf a)) rfl rfl (by kernel_rfl) (by kernel_rfl) (fun u wx hwx hu => tyG_str hu) ?_
    refine wpL_end (by kernel_rfl) (fun wd hwd => ?_)
    simp only [FinL, setL, List.set_cons_zero, List.set_cons_succ]
    intro v hv _
    have H2 := Lib.hid (H1.out.later hwd)
    clear hv hwd
    go_wp2_with (fail)
    refine (writeR_any H2.out OKS.out (by omega) a.pos (bytesOf a)).mono ?_
    rintro e w2 ⟨rfl, h2⟩
    have H9 := Lib.hid h2.drop2
    clear h2
    go_wp2
    go_ret
    exact ⟨rfl, H9.out⟩
  | 1, _ =>
    have hri0 : (a.kind.toNat : Int) % 5 = 1 := hri
    have HD : Hid (doAct s a = barrier s) := by
      show doAct s a = _
      unfold doAct
      rw [HR.out]
      rfl
    rw [HD.out]
    clear hri HD HR
    go_enter Try.func17, Try.ntmps17
    rw [hw1, hbd] at C0
    go_wp2_with (fail)
    rw [← hw1]
    clear C0 hw1 hbd
    refine (barrierR_any H1.out OKS.out (by omega)).mono ?_
    rintro e w2 ⟨rfl, h2⟩
    have H9 := Lib.hid h2.drop2
    clear h2
    go_wp2
    go_ret
    exact ⟨rfl, H9.out⟩
  | 2, _ =>
    have hri0 : (a.kind.toNat : Int) % 5 = 2 := hri
    have HD : Hid (doAct s a = (cut s a.n, 0)) := by
      show doAct s a = _
      unfold doAct
      rw [HR.out]
      rfl
    rw [HD.out]
    clear hri HD HR
    have D := C2.out w1 (Below.refl _ _)
    go_enter Try.func17, Try.ntmps17
    rw [hw1, hbd] at C0 D
    go_wp2_with (fail)
    rw [← hw1]
    clear C0 hw1 hbd D
    refine (cutR_any H1.out a.n NB.out).mono ?_
    rintro e w2 ⟨rfl, h2⟩
    have H9 := Lib.hid h2.drop2
    clear h2
    go_wp2
    go_ret
    exact ⟨rfl, H9.out⟩
  | 3, _ =>
    have hri0 : (a.kind.toNat : Int) % 5 = 3 := hri
    have HD : Hid (doAct s a = (crash s a.there, 0)) := by
      show doAct s a = _
      unfold doAct
      rw [HR.out]
      rfl
    rw [HD.out]
    clear hri HD HR
    have D := C5.out w1 (Below.refl _ _)
    go_enter Try.func17, Try.ntmps17
    rw [hw1, hbd] at C0 D
    go_wp2_with (fail)
    rw [← hw1]
    clear C0 hw1 hbd D
    refine (crashR_any H1.out OKS.out (by omega) a.there TB.out).mono ?_
    rintro e w2 ⟨rfl, h2⟩
    have H9 := Lib.hid h2.drop2
    clear h2
    go_wp2
    go_ret
    exact ⟨rfl, H9.out⟩
  | 4, _ =>
    have hri0 : (a.kind.toNat : Int) % 5 = 4 := hri
    have HD : Hid (doAct s a = (s, 0)) := by
      show doAct s a = _
      unfold doAct
      rw [HR.out]
      rfl
    rw [HD.out]
    clear hri HD HR
    go_enter Try.func17, Try.ntmps17
    rw [hw1, hbd] at C0
    go_wp2_with (fail)
    go_ret
    rw [← hw1]
    exact ⟨rfl, H1.out.drop2⟩

theorem flip_byteB (c : UInt8) : bits .xor .u8 (c.toNat : Int) 255 = ((c ^^^ 255).toNat : Int) := by
  have e := u8_xor_nat c.toNat 255 c.toNat_lt (by decide)
  rw [UInt8.toNat_xor]
  exact e
theorem ref_cells {B : Nat} {w0 w : World} {Ps : List Asn} {q : Nat} {vS : Value} {s : DS} (H : Own.St B w0 w Ps) (i : Nat) (hi : Ps[i]? = some (ARef q vS s)) :
    w.cell? ⟨q, 0, none⟩ = some vS ∧ w.cell? ⟨q, 2, none⟩ = some (.bool s.off) ∧ w.cell? ⟨q, 4, none⟩ = some (natV s.n) ∧ ∃ aS cS, vS = .slice aS s.safe.length cS := by
  obtain ⟨vL, h⟩ := ref_open (H.front i hi)
  obtain ⟨aS, cS, rfl⟩ := h.rowForm 1 rfl
  exact ⟨(h.cellV 0 rfl 0 rfl).1, (h.cellV 0 rfl 2 rfl).1, (h.cellV 0 rfl 4 rfl).1, aS, cS, rfl⟩
theorem act_len {s : DS} {N : Nat} (h : Ok s N) (a : ActD) : (doAct s a).1.safe.length = s.safe.length := by
  have sh := fun t => (shape_all t s.L s.safe 0 h.shape h.puts).len
  unfold doAct
  split
  · unfold write
    split
    · rfl
    · split
      · exact congrArg List.length (trip_same s).1
      · exact congrArg List.length (trip_same s).1
  · unfold barrier
    split
    · exact congrArg List.length (trip_same s).1
    · show (doAll full (trip s).safe 0 (trip s).L).length = _
      rw [(trip_same s).1, (trip_same s).2.1]
      exact sh full
  · unfold cut; split <;> rfl
  · exact sh a.there
  · rfl

set_option maxRecDepth 6000 in
set_option maxHeartbeats 32000000 in
theorem walk_plays (num : Int) (wn : (Lit.int .i64 num).wf = true) (a0 : Option Addr) (len0 cap0 : Nat) (l : List ActD) {w : World} (w0 : inSlice 6 inAct l w.heap.size w [.slice a0 len0 cap0]) (K : Kept w) :
    Calls Try.prog 3 #[.int .i64 num, .slice a0 len0 cap0] w (RetYes w) := by
  have hn := i64_in wn
  obtain ⟨hlen, hcap, hmax, _, hat⟩ := acts_in w0
  have SH := Lib.hid (shown_any K (Below.refl _ _))
  have HF := Lib.hid (few_any a0 len0 cap0 hcap hmax)
  have HAT := Lib.hid hat
  have HLEN := Lib.hid hlen
  have hmax2 : cap0 ≤ 9223372036854775807 := by unfold maxLen at hmax; omega
  have HN := Lib.hid hn
  clear hat hlen w0 hmax wn hn
  go_enter Try.func3, Try.ntmps3
  go_wp2_with (fail)
  refine SH.out.mono ?_
  rintro e w1 ⟨rfl, h1⟩
  have H1 := Lib.hid ((Own.St.start w).later h1)
  clear h1 SH
  by_cases hm : mayBe num = true
  · have N1 := Lib.hid (K.new num H1.out.below H1.out HN.out)
    simp only [hm, if_true] at N1
    go_wp2_with (fail)
    refine N1.out.mono ?_
    clear N1
    rintro e w2 ⟨p, rfl, h2⟩
    have H2 := Lib.hid h2
    clear h2 H1
    have N2 := Lib.hid (newR_any H2.out num HN.out)
    simp only [hm, if_true] at N2
    have OK0 := Lib.hid (ok_fresh num.toNat (by have := hm; simp [mayBe] at this; omega))
    go_wp2_with (fail)
    refine N2.out.mono ?_
    clear N2
    rintro e w3 ⟨q, vS, rfl, h3⟩
    obtain ⟨s0, hs0⟩ : ∃ s0, s0 = fresh num.toNat := ⟨_, rfl⟩
    rw [← hs0] at h3 OK0
    have H3 := Lib.hid h3.swap2
    obtain ⟨_, _, _, aS, cS, rfl⟩ := ref_cells H3.out 1 rfl
    obtain ⟨nS, hnS⟩ : ∃ n, n = s0.safe.length := ⟨_, rfl⟩
    have hnsb : nS ≤ 4096 := by rw [hnS]; exact OK0.out.len
    have HNS0 := Lib.hid hnS.symm
    rw [← hnS] at H3
    obtain ⟨mS, hmS⟩ : ∃ m, m = min 10 nS := ⟨_, rfl⟩
    have minS : ∀ wx, (Builtin.min_ #[3, 3] 3 #[.int .i64 10, .int .i64 (nS : Int)]).run Try.prog wx = .ok (.int .i64 (mS : Int)) wx := by
      intro wx
      rw [show (mS : Int) = min 10 (nS : Int) by omega]
      simp [Builtin.min_, Builtin.min2, go_sem]
      try omega
    have hmS6 : mS ≤ 10 := by omega
    clear h3 H2 hs0 hm hnS hmS
    go_wp2_with (fail)
    refine (HF.out w3).mono ?_
    rintro e w4 ⟨rfl, rfl⟩
    obtain ⟨k, hk⟩ : ∃ k, k = min len0 100 := ⟨_, rfl⟩
    rw [← hk]
    have hk1 : k ≤ len0 := by omega
    have hk2 : k ≤ 100 := by omega
    clear hk
    go_wp2
    go_loopw [6, 52] (fun v6 v52 wr => ∃ (i pt : Nat) (s : DS), i ≤ k ∧ v6 = ptr pt ∧ v52 = .int .i64 (i : Int) ∧ Own.St w.heap.size w wr [K.A pt s, ARef q (.slice aS nS cS) s] ∧ Ok s i ∧ s.safe.length = nS) (fun _ v52 _ => k - (intOf v52).toNat)
    case atStart => exact ⟨0, p, s0, Nat.zero_le _, rfl, rfl, H3.out, OK0.out, HNS0.out⟩
    case round =>
      obtain ⟨i, p, s, hik, rfl, rfl, hH, hok, hns⟩ := hrel
      have H := Lib.hid hH
      have OK := Lib.hid hok
      have HNS := Lib.hid hns
      clear hH hok hns H3 OK0 HNS0
      by_cases hi : (i : Int) < (k : Int)
      · have hil : i < l.length := by rw [← HLEN.out]; omega
        obtain ⟨b, o, rfl, hb, hact⟩ := HAT.out (by intro e; rw [e] at hil; simp at hil)
        obtain ⟨a, ha⟩ : ∃ a, a = l[i] := ⟨_, rfl⟩
        have hat1 := hact wr (fun k hk => H.out.below.block k hk) i hil
        rw [← ha] at hat1
        obtain ⟨vs, RA0⟩ := round_act H.out hat1
        have RA := Lib.hid RA0
        obtain ⟨bb, hbb⟩ : ∃ bb, bb = wr.heap.size := ⟨_, rfl⟩
        obtain ⟨w5, hw5⟩ : ∃ w5, w5 = (wr.alloc (.cells zeroAct.toArray 34)).setCells wr.heap.size 0 vs := ⟨_, rfl⟩
        have hst := RA.out.st
        rw [List.toList_toArray] at hst
        rw [← hw5, ← hbb] at hst
        have H5 := Lib.hid hst.swap2
        have c0 := (H5.out.cellV 1 rfl 0 (v := .int .u8 (a.kind.toNat : Int)) (by rw [RA.out.vs_]; rfl)).1
        obtain ⟨r, hr⟩ : ∃ r, r = a.kind.toNat % 5 := ⟨_, rfl⟩
        have hri : (a.kind.toNat : Int) % 5 = (r : Int) := by omega
        have hr6 : r < 5 := by omega
        have hkb : a.kind.toNat < 256 := a.kind.toNat_lt
        have NB := Lib.hid RA.out.fits
        have VSL : Hid (vs.length = 6) := RA.out.len
        have hk80 : i < 100 := by omega
        clear hst hact hat1 RA0 ha hr
        rw [hw5, hbb] at c0
        obtain ⟨s2, hs2⟩ : ∃ s2, s2 = (doAct s a).1 := ⟨_, rfl⟩
        obtain ⟨er, her⟩ : ∃ er, er = (doAct s a).2 := ⟨_, rfl⟩
        have OK2 : Hid (Ok s2 (i + 1)) := by rw [hs2]; exact ok_act OK.out a NB.out.n
        have HNS2 : Hid (s2.safe.length = nS) := by show _ = _; rw [hs2, act_len OK.out a]; exact HNS.out
        have HDA : Hid (s2 = (doAct s a).1 ∧ er = (doAct s a).2) := ⟨hs2, her⟩
        clear hs2 her
        obtain ⟨fl, hfl⟩ : ∃ f, f = s2.off := ⟨_, rfl⟩
        obtain ⟨nn, hnn⟩ : ∃ n, n = s2.n := ⟨_, rfl⟩
        have HFN : Hid (fl = s2.off ∧ nn = s2.n) := ⟨hfl, hnn⟩
        have hnnb : nn ≤ 10000 := by rw [hnn]; have := OK2.out.n; omega
        clear hfl hnn
        have TAIL : ∀ (pt : Nat) (wt : World), Own.St w.heap.size w wt [K.A pt s, AVals bb 34 vs, ARef q (.slice aS nS cS) s] → True := fun _ _ _ => trivial
        clear TAIL
        by_cases h4 : r = 4
        · subst h4
          go_wp2_with (first
            | (refine wpList_load_mid rfl 34 (.tmp 54) rfl b (o + i * 6) rfl vs _ RA.out.range Try.underlying34 rfl RA.out.info ?_)
            | (refine wpList_store_mid rfl 34 (.tmp 11) (.tmp 55) rfl wr.heap.size 0 vs.toArray rfl rfl RA.out.there RA.out.info2 RA.out.one ?_))
          rw [← hw5, ← hbb]
          clear hw5 c0 hbb
          refine (K.copy H5.out.below H5.out OK.out (by omega)).mono ?_
          rintro e wc ⟨pc, rfl, hc⟩
          have G1 := Lib.hid hc.swap2
          clear hc H5
          go_wp2_with (fail)
          refine (K.crash 0 G1.out.below G1.out OK.out (by omega) (by omega)).mono ?_
          rintro e wd ⟨rfl, hd⟩
          have G2 := Lib.hid hd
          have OKB := Lib.hid (ok_crash OK.out 0)
          clear hd G1
          go_wp2_with (fail)
          refine (block_any 9 G2.out).mono ?_
          rintro e wf ⟨g, rfl, hf⟩
          have G4 := Lib.hid hf.swap2
          have LP := Lib.hid (lies_part (k := 0) G4.out (by omega))
          clear hf G2
          go_wp2_with (fail)
          refine (K.write 0 (some ⟨g, 0, none⟩) 256 256 (List.replicate 256 9) G4.out.below G4.out OKB.out (by omega) (by decide) LP.out (by decide)).mono ?_
          rintro e wt ⟨rfl, hg⟩
          have HT := Lib.hid (hg.drop 2)
          clear hg G4 OKB LP
          obtain ⟨p, hp⟩ : ∃ p, p = pc := ⟨_, rfl⟩
          rw [← hp] at HT ⊢
          clear hp
          go_wp2
          obtain ⟨CC, hCC⟩ : ∃ CC : Nat → World → Prop, CC = fun j wx => Own.St w.heap.size w wx [K.A p (if j = 0 then s else s2), AVals bb 34 vs, ARef q (.slice aS nS cS) (if j ≤ 1 then s else s2)] := ⟨_, rfl⟩
          have LDA : Hid (∀ j wx, CC j wx → ∀ (ρ : Operand → Value) (o : Oper) (x : Tmp), o.op = .load 34 (.tmp x) → ρ (.tmp x) = .pointer (some ⟨bb, 0, none⟩) → (execOp ρ o).run Try.prog wx = .ok (.value (.agg vs.toArray)) wx) := by
            intro j wx hC ρ o x ho h0
            rw [hCC] at hC
            exact load_actV ho VSL.out (Own.St.rowV hC 1 rfl) (Below.refl _ _) ρ h0
          have DOES : Hid (∀ wx, CC 0 wx → Calls Try.prog 16 #[ptr p, .agg vs.toArray] wx fun e w' => e = .returned (errW er) ∧ CC 1 w') := by
            intro wx hC
            rw [hCC] at hC ⊢
            have h : Own.St w.heap.size w wx [K.A p s, AVals bb 34 vs, ARef q (.slice aS nS cS) s] := hC
            have hd := does_any K a h.below h OK.out (by omega) NB.out
            rw [← RA.out.vs_, ← HDA.out.1, ← HDA.out.2] at hd
            exact hd
          have MODEL : Hid (∀ wx, CC 1 wx → Calls Try.prog 17 #[ptr q, .agg vs.toArray] wx fun e w' => e = .returned (errW er) ∧ CC 2 w') := by
            intro wx hC
            rw [hCC] at hC ⊢
            have h : Own.St w.heap.size w wx [K.A p s2, AVals bb 34 vs, ARef q (.slice aS nS cS) s] := hC
            have hd := model_any a (h.front 2 rfl) OK.out (by omega) NB.out
            rw [← RA.out.vs_, ← HDA.out.1, ← HDA.out.2] at hd
            refine hd.mono ?_
            rintro e w' ⟨he, h'⟩
            exact ⟨he, Own.St.back (Ps := [K.A p s2, AVals bb 34 vs, ARef q (.slice aS nS cS) s]) 2 (by simp) h'⟩
          have CC2 : ∀ j wx, 2 ≤ j → CC j wx → Own.St w.heap.size w wx [K.A p s2, AVals bb 34 vs, ARef q (.slice aS nS cS) s2] := by
            intro j wx hj hC
            rw [hCC] at hC
            simp only [show ¬ j = 0 by omega, show ¬ j ≤ 1 by omega, if_false] at hC
            exact hC
          have CB2 : ∀ j wx w', 2 ≤ j → CC j wx → Below wx.heap.size wx w' → CC j w' := by
            intro j wx w' hj hC hb
            rw [hCC] at hC ⊢
            exact Own.St.later hC hb
          have BLKS : Hid (∀ j wx, 2 ≤ j → CC j wx → Calls Try.prog 18 #[ptr p] wx fun e w' => e = .returned (errW nS) ∧ CC j w') := by
            intro j wx hj hC
            have h := CC2 j wx hj hC
            refine (K.blocks h.below h OK2.out (by omega)).mono ?_
            rintro e w' ⟨he, hb⟩
            rw [HNS2.out] at he
            exact ⟨he, CB2 j wx w' hj hC hb⟩
          have DEAD : Hid (∀ j wx, 2 ≤ j → CC j wx → Calls Try.prog 19 #[ptr p] wx fun e w' => e = .returned (.bool fl) ∧ CC j w') := by
            intro j wx hj hC
            have h := CC2 j wx hj hC
            refine (K.dead h.below h OK2.out (by omega)).mono ?_
            rintro e w' ⟨he, hb⟩
            rw [← HFN.out.1] at he
            exact ⟨he, CB2 j wx w' hj hC hb⟩
          have DONE : Hid (∀ j wx, 2 ≤ j → CC j wx → Calls Try.prog 20 #[ptr p] wx fun e w' => e = .returned (errW nn) ∧ CC j w') := by
            intro j wx hj hC
            have h := CC2 j wx hj hC
            refine (K.done h.below h OK2.out (by omega)).mono ?_
            rintro e w' ⟨he, hb⟩
            rw [← HFN.out.2] at he
            exact ⟨he, CB2 j wx w' hj hC hb⟩
          have R0 : Hid (∀ j wx, 2 ≤ j → CC j wx → wx.cell? ⟨q, 0, none⟩ = some (.slice aS nS cS) ∧ wx.cell? ⟨q, 2, none⟩ = some (.bool fl) ∧ wx.cell? ⟨q, 4, none⟩ = some (errW nn)) := by
            intro j wx hj hC
            obtain ⟨r0, r2, r4, _⟩ := ref_cells (CC2 j wx hj hC) 2 rfl
            rw [HFN.out.1, HFN.out.2]
            exact ⟨r0, r2, r4⟩
          have FIN : Hid (∀ wx, CC 2 wx → Own.St w.heap.size w wx [K.A p s2, ARef q (.slice aS nS cS) s2]) := fun wx hC => (CC2 2 wx (Nat.le_refl _) hC).drop2
          have START : CC 0 { wt with drawn := wt.drawn + 1 } := by
            rw [hCC]
            exact Own.St.drewN HT.out 1
          refine wp_chain_list [5, 8] CC (by kernel_rfl) (by kernel_rfl) (by kernel_rfl) (by kernel_rfl) START ?_
          clear hCC START HT CC2 CB2
          refine wpG_move (qtr p) rfl (by kernel_rfl) (by kernel_rfl) (by kernel_rfl) ?_
          refine wpG_run1 (x := .tmp 68) (qtr p) (.bool false) (by kernel_rfl) (by kernel_rfl) (by kernel_rfl) (by kernel_rfl) (fun j wx ρ hC h0 hc => by simp [go_sem, h0, hc]) ?_
          refine wpG_move (.bool false) rfl (by kernel_rfl) (by kernel_rfl) (by kernel_rfl) ?_
          refine wpG_move (qtr p) rfl (by kernel_rfl) (by kernel_rfl) (by kernel_rfl) ?_
          refine wpG_run1 (x := .tmp 11) (.pointer (some ⟨bb, 0, none⟩)) (.agg vs.toArray) (by kernel_rfl) (by kernel_rfl) (by kernel_rfl) (by kernel_rfl) (fun j wx ρ hC h0 hc => LDA.out j wx hC ρ _ _ rfl h0) ?_
          refine wpG_fn 0 (errW er) [qtr p, .agg vs.toArray] (by kernel_rfl) (by kernel_rfl) rfl rfl (by kernel_rfl) (by kernel_rfl) (fun _ _ => by simp [go_sem]) (fun wx hC => DOES.out wx hC) ?_
          refine wpG_move (qtr q) rfl (by kernel_rfl) (by kernel_rfl) (by kernel_rfl) ?_
          refine wpG_run1 (x := .tmp 11) (.pointer (some ⟨bb, 0, none⟩)) (.agg vs.toArray) (by kernel_rfl) (by kernel_rfl) (by kernel_rfl) (by kernel_rfl) (fun j wx ρ hC h0 hc => LDA.out j wx hC ρ _ _ rfl h0) ?_
          refine wpG_fn 1 (errW er) [qtr q, .agg vs.toArray] (by kernel_rfl) (by kernel_rfl) rfl rfl (by kernel_rfl) (by kernel_rfl) (fun _ _ => by simp [go_sem]) (fun wx hC => MODEL.out wx hC) ?_
          refine wpG_run2 (x := .tmp 73) (y := .tmp 76) (errW er) (errW er) (.bool false) (by kernel_rfl) (by kernel_rfl) (by kernel_rfl) (by kernel_rfl) (by kernel_rfl) (fun j wx ρ hC h0 h1 hc => by simp [go_sem, h0, h1, hc]) ?_
          refine wpG_run2 (x := .tmp 70) (y := .tmp 77) (.bool false) (.bool false) (.bool false) (by kernel_rfl) (by kernel_rfl) (by kernel_rfl) (by kernel_rfl) (by kernel_rfl) (fun j wx ρ hC h0 h1 hc => by simp [go_sem, h0, h1]) ?_
          refine wpG_move (.bool false) rfl (by kernel_rfl) (by kernel_rfl) (by kernel_rfl) ?_
          refine wpG_move (qtr p) rfl (by kernel_rfl) (by kernel_rfl) (by kernel_rfl) ?_
          refine wpG_fnA 1 (errW nS) [qtr p] (by kernel_rfl) (by kernel_rfl) (by kernel_rfl) (by kernel_rfl) rfl (by kernel_rfl) (by kernel_rfl) (fun _ _ => by simp [go_sem]) (fun j wx hj hC => BLKS.out j wx hj hC) ?_
          refine wpG_move (qtr q) rfl (by kernel_rfl) (by kernel_rfl) (by kernel_rfl) ?_
          refine wpG_run1 (x := .tmp 82) (qtr q) (qtr q) (by kernel_rfl) (by kernel_rfl) (by kernel_rfl) (by kernel_rfl) (fun j wx ρ hC h0 hc => by simp [go_sem, h0, hc]) ?_
          refine wpG_run1 (x := .tmp 83) (qtr q) (qtr q) (by kernel_rfl) (by kernel_rfl) (by kernel_rfl) (by kernel_rfl) (fun j wx ρ hC h0 hc => by simp [go_sem, h0, hc]) ?_
          refine wpG_runA1 (x := .tmp 84) 1 (qtr q) (.slice aS nS cS) (by kernel_rfl) (by kernel_rfl) (by kernel_rfl) (by kernel_rfl) (by kernel_rfl) (by kernel_rfl) (by kernel_rfl) (fun j wx ρ hj hC h0 hc => by simp [h0, hc, go_sem, (R0.out j wx hj hC).1]) ?_
          refine wpG_run1 (x := .tmp 85) (.slice aS nS cS) (errW nS) (by kernel_rfl) (by kernel_rfl) (by kernel_rfl) (by kernel_rfl) (fun j wx ρ hC h0 hc => by simp [go_sem, h0, hc]) ?_
          refine wpG_run2 (x := .tmp 81) (y := .tmp 86) (errW nS) (errW nS) (.bool false) (by kernel_rfl) (by kernel_rfl) (by kernel_rfl) (by kernel_rfl) (by kernel_rfl) (fun j wx ρ hC h0 h1 hc => by simp [go_sem, h0, h1, hc]) ?_
          refine wpG_run2 (x := .tmp 79) (y := .tmp 87) (.bool false) (.bool false) (.bool false) (by kernel_rfl) (by kernel_rfl) (by kernel_rfl) (by kernel_rfl) (by kernel_rfl) (fun j wx ρ hC h0 h1 hc => by simp [go_sem, h0, h1]) ?_
          refine wpG_move (.bool false) rfl (by kernel_rfl) (by kernel_rfl) (by kernel_rfl) ?_
          refine wpG_move (qtr p) rfl (by kernel_rfl) (by kernel_rfl) (by kernel_rfl) ?_
          refine wpG_fnA 1 (.bool fl) [qtr p] (by kernel_rfl) (by kernel_rfl) (by kernel_rfl) (by kernel_rfl) rfl (by kernel_rfl) (by kernel_rfl) (fun _ _ => by simp [go_sem]) (fun j wx hj hC => DEAD.out j wx hj hC) ?_
          refine wpG_move (qtr q) rfl (by kernel_rfl) (by kernel_rfl) (by kernel_rfl) ?_
          refine wpG_run1 (x := .tmp 92) (qtr q) (qtr q) (by kernel_rfl) (by kernel_rfl) (by kernel_rfl) (by kernel_rfl) (fun j wx ρ hC h0 hc => by simp [go_sem, h0, hc]) ?_
          refine wpG_run1 (x := .tmp 93) (qtr q) (.pointer (some ⟨q, 2, none⟩)) (by kernel_rfl) (by kernel_rfl) (by kernel_rfl) (by kernel_rfl) (fun j wx ρ hC h0 hc => by simp [go_sem, h0, hc]) ?_
          refine wpG_runA1 (x := .tmp 94) 1 (.pointer (some ⟨q, 2, none⟩)) (.bool fl) (by kernel_rfl) (by kernel_rfl) (by kernel_rfl) (by kernel_rfl) (by kernel_rfl) (by kernel_rfl) (by kernel_rfl) (fun j wx ρ hj hC h0 hc => by simp [h0, hc, go_sem, (R0.out j wx hj hC).2.1]) ?_
          refine wpG_run2 (x := .tmp 91) (y := .tmp 95) (.bool fl) (.bool fl) (.bool false) (by kernel_rfl) (by kernel_rfl) (by kernel_rfl) (by kernel_rfl) (by kernel_rfl) (fun j wx ρ hC h0 h1 hc => by simp [go_sem, h0, h1, hc]) ?_
          refine wpG_run2 (x := .tmp 89) (y := .tmp 96) (.bool false) (.bool false) (.bool false) (by kernel_rfl) (by kernel_rfl) (by kernel_rfl) (by kernel_rfl) (by kernel_rfl) (fun j wx ρ hC h0 h1 hc => by simp [go_sem, h0, h1]) ?_
          refine wpG_move (.bool false) rfl (by kernel_rfl) (by kernel_rfl) (by kernel_rfl) ?_
          refine wpG_move (qtr p) rfl (by kernel_rfl) (by kernel_rfl) (by kernel_rfl) ?_
          refine wpG_fnA 1 (errW nn) [qtr p] (by kernel_rfl) (by kernel_rfl) (by kernel_rfl) (by kernel_rfl) rfl (by kernel_rfl) (by kernel_rfl) (fun _ _ => by simp [go_sem]) (fun j wx hj hC => DONE.out j wx hj hC) ?_
          refine wpG_move (qtr q) rfl (by kernel_rfl) (by kernel_rfl) (by kernel_rfl) ?_
          refine wpG_run1 (x := .tmp 101) (qtr q) (qtr q) (by kernel_rfl) (by kernel_rfl) (by kernel_rfl) (by kernel_rfl) (fun j wx ρ hC h0 hc => by simp [go_sem, h0, hc]) ?_
          refine wpG_run1 (x := .tmp 102) (qtr q) (.pointer (some ⟨q, 4, none⟩)) (by kernel_rfl) (by kernel_rfl) (by kernel_rfl) (by kernel_rfl) (fun j wx ρ hC h0 hc => by simp [go_sem, h0, hc]) ?_
          refine wpG_runA1 (x := .tmp 103) 1 (.pointer (some ⟨q, 4, none⟩)) (errW nn) (by kernel_rfl) (by kernel_rfl) (by kernel_rfl) (by kernel_rfl) (by kernel_rfl) (by kernel_rfl) (by kernel_rfl) (fun j wx ρ hj hC h0 hc => by simp [h0, hc, go_sem, (R0.out j wx hj hC).2.2]) ?_
          refine wpG_run2 (x := .tmp 100) (y := .tmp 104) (errW nn) (errW nn) (.bool false) (by kernel_rfl) (by kernel_rfl) (by kernel_rfl) (by kernel_rfl) (by kernel_rfl) (fun j wx ρ hC h0 h1 hc => by simp [go_sem, h0, h1, hc]) ?_
          refine wpG_run2 (x := .tmp 98) (y := .tmp 105) (.bool false) (.bool false) (.bool false) (by kernel_rfl) (by kernel_rfl) (by kernel_rfl) (by kernel_rfl) (by kernel_rfl) (fun j wx ρ hC h0 h1 hc => by simp [go_sem, h0, h1]) ?_
          refine wpG_end (fun w9 hw9 => ?_)
          have H9 := Lib.hid (FIN.out w9 hw9)
          clear hw9 LDA DOES MODEL BLKS DEAD DONE R0 FIN H hri
          simp only [setL, List.set_cons_zero, List.set_cons_succ]
          go_wp2
          go_loopw [13] (fun v13 wr => ∃ ii : Int, -1 ≤ ii ∧ ii ≤ (mS : Int) + 1 ∧ v13 = .int .i64 ii ∧ Own.St w.heap.size w wr [K.A p s2, ARef q (.slice aS nS cS) s2]) (fun v13 _ => (100 - intOf v13).toNat)
          case atStart => exact ⟨-1, by omega, by omega, rfl, H9.out⟩
          case round =>
            obtain ⟨ii, hi1, hi2, rfl, hG⟩ := hrel
            have G := Lib.hid hG
            clear hG H9
            obtain ⟨r0, _, _, _⟩ := ref_cells G.out 1 rfl
            by_cases hle : ii ≤ (mS : Int)
            · obtain ⟨y, ry, hy⟩ : ∃ y ry, BakM.read s2 ii = (y, ry) := ⟨_, _, rfl⟩
              have RD := Lib.hid (K.read ii G.out.below G.out OK2.out (by omega) ⟨by omega, by omega⟩)
              rw [hy] at RD
              have HY := Lib.hid hy
              obtain ⟨n, hn⟩ : ∃ n, n = y.length := ⟨_, rfl⟩
              simp only at RD
              rw [← hn] at RD
              clear hy hn
              go_wp2_with (fail)
              refine RD.out.mono ?_
              clear RD
              rintro e w3 ⟨ab, cb, rfl, h3⟩
              have H3 := Lib.hid h3
              clear h3 G r0
              have RR := Lib.hid (readR_any (H3.out.front 2 rfl) OK2.out (by omega) ii)
              rw [HY.out] at RR
              go_wp2_with (fail)
              refine RR.out.mono ?_
              clear RR
              rintro e w4 ⟨rfl, h4⟩
              have H4 := Lib.hid (H3.out.later h4)
              clear h4 H3
              have hst := ab_str H4.out 0 rfl
              have hlen := ab_len H4.out 0 rfl
              have hn : n ≤ 9223372036854775807 := by have := hlen.2.1; have := hlen.2.2.1; unfold maxLen at this; omega
              have HLEN := Lib.hid hlen
              clear hlen
              go_wp2_with (refine wpList_val rfl (neq_str rfl y y false (by simp) _ _ rfl rfl) ?_)
              clear hst
              go_loopw [140] (fun v wr => ∃ (j : Nat) (l' : Bs), j ≤ n ∧ v = .int .i64 (j : Int) ∧ Own.St w.heap.size w wr [AB ab n cb l', K.A p s2, ARef q (.slice aS nS cS) s2]) (fun v _ => n - (intOf v).toNat)
              case atStart => exact ⟨0, y, Nat.zero_le _, rfl, H4.out⟩
              case round =>
                obtain ⟨j, l', hjn, rfl, hG⟩ := hrel
                have G5 := Lib.hid hG
                clear hG H4
                by_cases hj : j < n
                · obtain ⟨g, rfl, cb_, fb_, put⟩ := ab_byte G5.out 0 rfl j hj
                  obtain ⟨c, hc⟩ : ∃ c, c = l'.getD j 0 := ⟨_, rfl⟩
                  rw [← hc] at cb_
                  have P6 := Lib.hid (put (c ^^^ 255))
                  have hx := flip_byteB c
                  clear put hc
                  go_wp2
                  clear cb_ fb_
                  go_roundw
                  case rel => exact ⟨j + 1, _, by omega, by go_num, P6.out⟩
                  case measure => simp [intOf]; omega
                · have G6 := Lib.hid (G5.out.drop 1)
                  clear G5
                  go_wp2
                  go_roundw
                  case rel => exact ⟨ii + 1, by omega, by omega, by go_num, G6.out⟩
                  case measure => simp [intOf]; omega
            · go_wp2
              go_roundw
              case rel => exact ⟨i + 1, p, s2, by omega, rfl, by go_num, G.out, OK2.out, HNS2.out⟩
              case measure => simp [intOf]; omega
        · have h5' : ((r : Int) == 4) = false := by simp; omega
          go_wp2_with (first
            | (refine wpList_load_mid rfl 34 (.tmp 54) rfl b (o + i * 6) rfl vs _ RA.out.range Try.underlying34 rfl RA.out.info ?_)
            | (refine wpList_store_mid rfl 34 (.tmp 11) (.tmp 55) rfl wr.heap.size 0 vs.toArray rfl rfl RA.out.there RA.out.info2 RA.out.one ?_))
          rw [← hw5, ← hbb]
          clear hw5 c0 hbb
          obtain ⟨wt, hwt⟩ : ∃ wt, wt = w5 := ⟨_, rfl⟩
          have HT := H5
          rw [← hwt] at HT ⊢
          clear hwt H5
          obtain ⟨CC, hCC⟩ : ∃ CC : Nat → World → Prop, CC = fun j wx => Own.St w.heap.size w wx [K.A p (if j = 0 then s else s2), AVals bb 34 vs, ARef q (.slice aS nS cS) (if j ≤ 1 then s else s2)] := ⟨_, rfl⟩
          have LDA : Hid (∀ j wx, CC j wx → ∀ (ρ : Operand → Value) (o : Oper) (x : Tmp), o.op = .load 34 (.tmp x) → ρ (.tmp x) = .pointer (some ⟨bb, 0, none⟩) → (execOp ρ o).run Try.prog wx = .ok (.value (.agg vs.toArray)) wx) := by
            intro j wx hC ρ o x ho h0
            rw [hCC] at hC
            exact load_actV ho VSL.out (Own.St.rowV hC 1 rfl) (Below.refl _ _) ρ h0
          have DOES : Hid (∀ wx, CC 0 wx → Calls Try.prog 16 #[ptr p, .agg vs.toArray] wx fun e w' => e = .returned (errW er) ∧ CC 1 w') := by
            intro wx hC
            rw [hCC] at hC ⊢
            have h : Own.St w.heap.size w wx [K.A p s, AVals bb 34 vs, ARef q (.slice aS nS cS) s] := hC
            have hd := does_any K a h.below h OK.out (by omega) NB.out
            rw [← RA.out.vs_, ← HDA.out.1, ← HDA.out.2] at hd
            exact hd
          have MODEL : Hid (∀ wx, CC 1 wx → Calls Try.prog 17 #[ptr q, .agg vs.toArray] wx fun e w' => e = .returned (errW er) ∧ CC 2 w') := by
            intro wx hC
            rw [hCC] at hC ⊢
            have h : Own.St w.heap.size w wx [K.A p s2, AVals bb 34 vs, ARef q (.slice aS nS cS) s] := hC
            have hd := model_any a (h.front 2 rfl) OK.out (by omega) NB.out
            rw [← RA.out.vs_, ← HDA.out.1, ← HDA.out.2] at hd
            refine hd.mono ?_
            rintro e w' ⟨he, h'⟩
            exact ⟨he, Own.St.back (Ps := [K.A p s2, AVals bb 34 vs, ARef q (.slice aS nS cS) s]) 2 (by simp) h'⟩
          have CC2 : ∀ j wx, 2 ≤ j → CC j wx → Own.St w.heap.size w wx [K.A p s2, AVals bb 34 vs, ARef q (.slice aS nS cS) s2] := by
            intro j wx hj hC
            rw [hCC] at hC
            simp only [show ¬ j = 0 by omega, show ¬ j ≤ 1 by omega, if_false] at hC
            exact hC
          have CB2 : ∀ j wx w', 2 ≤ j → CC j wx → Below wx.heap.size wx w' → CC j w' := by
            intro j wx w' hj hC hb
            rw [hCC] at hC ⊢
            exact Own.St.later hC hb
          have BLKS : Hid (∀ j wx, 2 ≤ j → CC j wx → Calls Try.prog 18 #[ptr p] wx fun e w' => e = .returned (errW nS) ∧ CC j w') := by
            intro j wx hj hC
            have h := CC2 j wx hj hC
            refine (K.blocks h.below h OK2.out (by omega)).mono ?_
            rintro e w' ⟨he, hb⟩
            rw [HNS2.out] at he
            exact ⟨he, CB2 j wx w' hj hC hb⟩
          have DEAD : Hid (∀ j wx, 2 ≤ j → CC j wx → Calls Try.prog 19 #[ptr p] wx fun e w' => e = .returned (.bool fl) ∧ CC j w') := by
            intro j wx hj hC
            have h := CC2 j wx hj hC
            refine (K.dead h.below h OK2.out (by omega)).mono ?_
            rintro e w' ⟨he, hb⟩
            rw [← HFN.out.1] at he
            exact ⟨he, CB2 j wx w' hj hC hb⟩
          have DONE : Hid (∀ j wx, 2 ≤ j → CC j wx → Calls Try.prog 20 #[ptr p] wx fun e w' => e = .returned (errW nn) ∧ CC j w') := by
            intro j wx hj hC
            have h := CC2 j wx hj hC
            refine (K.done h.below h OK2.out (by omega)).mono ?_
            rintro e w' ⟨he, hb⟩
            rw [← HFN.out.2] at he
            exact ⟨he, CB2 j wx w' hj hC hb⟩
          have R0 : Hid (∀ j wx, 2 ≤ j → CC j wx → wx.cell? ⟨q, 0, none⟩ = some (.slice aS nS cS) ∧ wx.cell? ⟨q, 2, none⟩ = some (.bool fl) ∧ wx.cell? ⟨q, 4, none⟩ = some (errW nn)) := by
            intro j wx hj hC
            obtain ⟨r0, r2, r4, _⟩ := ref_cells (CC2 j wx hj hC) 2 rfl
            rw [HFN.out.1, HFN.out.2]
            exact ⟨r0, r2, r4⟩
          have FIN : Hid (∀ wx, CC 2 wx → Own.St w.heap.size w wx [K.A p s2, ARef q (.slice aS nS cS) s2]) := fun wx hC => (CC2 2 wx (Nat.le_refl _) hC).drop2
          have START : CC 0 { wt with drawn := wt.drawn + 1 } := by
            rw [hCC]
            exact Own.St.drewN HT.out 1
          refine wp_chain_list [5, 8] CC (by kernel_rfl) (by kernel_rfl) (by kernel_rfl) (by kernel_rfl) START ?_
          clear hCC START HT CC2 CB2
          refine wpG_move (qtr p) rfl (by kernel_rfl) (by kernel_rfl) (by kernel_rfl) ?_
          refine wpG_run1 (x := .tmp 68) (qtr p) (.bool false) (by kernel_rfl) (by kernel_rfl) (by kernel_rfl) (by kernel_rfl) (fun j wx ρ hC h0 hc => by simp [go_sem, h0, hc]) ?_
          refine wpG_move (.bool false) rfl (by kernel_rfl) (by kernel_rfl) (by kernel_rfl) ?_
          refine wpG_move (qtr p) rfl (by kernel_rfl) (by kernel_rfl) (by kernel_rfl) ?_
          refine wpG_run1 (x := .tmp 11) (.pointer (some ⟨bb, 0, none⟩)) (.agg vs.toArray) (by kernel_rfl) (by kernel_rfl) (by kernel_rfl) (by kernel_rfl) (fun j wx ρ hC h0 hc => LDA.out j wx hC ρ _ _ rfl h0) ?_
          refine wpG_fn 0 (errW er) [qtr p, .agg vs.toArray] (by kernel_rfl) (by kernel_rfl) rfl rfl (by kernel_rfl) (by kernel_rfl) (fun _ _ => by simp [go_sem]) (fun wx hC => DOES.out wx hC) ?_
          refine wpG_move (qtr q) rfl (by kernel_rfl) (by kernel_rfl) (by kernel_rfl) ?_
          refine wpG_run1 (x := .tmp 11) (.pointer (some ⟨bb, 0, none⟩)) (.agg vs.toArray) (by kernel_rfl) (by kernel_rfl) (by kernel_rfl) (by kernel_rfl) (fun j wx ρ hC h0 hc => LDA.out j wx hC ρ _ _ rfl h0) ?_
          refine wpG_fn 1 (errW er) [qtr q, .agg vs.toArray] (by kernel_rfl) (by kernel_rfl) rfl rfl (by kernel_rfl) (by kernel_rfl) (fun _ _ => by simp [go_sem]) (fun wx hC => MODEL.out wx hC) ?_
          refine wpG_run2 (x := .tmp 73) (y := .tmp 76) (errW er) (errW er) (.bool false) (by kernel_rfl) (by kernel_rfl) (by kernel_rfl) (by kernel_rfl) (by kernel_rfl) (fun j wx ρ hC h0 h1 hc => by simp [go_sem, h0, h1, hc]) ?_
          refine wpG_run2 (x := .tmp 70) (y := .tmp 77) (.bool false) (.bool false) (.bool false) (by kernel_rfl) (by kernel_rfl) (by kernel_rfl) (by kernel_rfl) (by kernel_rfl) (fun j wx ρ hC h0 h1 hc => by simp [go_sem, h0, h1]) ?_
          refine wpG_move (.bool false) rfl (by kernel_rfl) (by kernel_rfl) (by kernel_rfl) ?_
          refine wpG_move (qtr p) rfl (by kernel_rfl) (by kernel_rfl) (by kernel_rfl) ?_
          refine wpG_fnA 1 (errW nS) [qtr p] (by kernel_rfl) (by kernel_rfl) (by kernel_rfl) (by kernel_rfl) rfl (by kernel_rfl) (by kernel_rfl) (fun _ _ => by simp [go_sem]) (fun j wx hj hC => BLKS.out j wx hj hC) ?_
          refine wpG_move (qtr q) rfl (by kernel_rfl) (by kernel_rfl) (by kernel_rfl) ?_
          refine wpG_run1 (x := .tmp 82) (qtr q) (qtr q) (by kernel_rfl) (by kernel_rfl) (by kernel_rfl) (by kernel_rfl) (fun j wx ρ hC h0 hc => by simp [go_sem, h0, hc]) ?_
          refine wpG_run1 (x := .tmp 83) (qtr q) (qtr q) (by kernel_rfl) (by kernel_rfl) (by kernel_rfl) (by kernel_rfl) (fun j wx ρ hC h0 hc => by simp [go_sem, h0, hc]) ?_
          refine wpG_runA1 (x := .tmp 84) 1 (qtr q) (.slice aS nS cS) (by kernel_rfl) (by kernel_rfl) (by kernel_rfl) (by kernel_rfl) (by kernel_rfl) (by kernel_rfl) (by kernel_rfl) (fun j wx ρ hj hC h0 hc => by simp [h0, hc, go_sem, (R0.out j wx hj hC).1]) ?_
          refine wpG_run1 (x := .tmp 85) (.slice aS nS cS) (errW nS) (by kernel_rfl) (by kernel_rfl) (by kernel_rfl) (by kernel_rfl) (fun j wx ρ hC h0 hc => by simp [go_sem, h0, hc]) ?_
          refine wpG_run2 (x := .tmp 81) (y := .tmp 86) (errW nS) (errW nS) (.bool false) (by kernel_rfl) (by kernel_rfl) (by kernel_rfl) (by kernel_rfl) (by kernel_rfl) (fun j wx ρ hC h0 h1 hc => by simp [go_sem, h0, h1, hc]) ?_
          refine wpG_run2 (x := .tmp 79) (y := .tmp 87) (.bool false) (.bool false) (.bool false) (by kernel_rfl) (by kernel_rfl) (by kernel_rfl) (by kernel_rfl) (by kernel_rfl) (fun j wx ρ hC h0 h1 hc => by simp [go_sem, h0, h1]) ?_
          refine wpG_move (.bool false) rfl (by kernel_rfl) (by kernel_rfl) (by kernel_rfl) ?_
          refine wpG_move (qtr p) rfl (by kernel_rfl) (by kernel_rfl) (by kernel_rfl) ?_
          refine wpG_fnA 1 (.bool fl) [qtr p] (by kernel_rfl) (by kernel_rfl) (by kernel_rfl) (by kernel_rfl) rfl (by kernel_rfl) (by kernel_rfl) (fun _ _ => by simp [go_sem]) (fun j wx hj hC => DEAD.out j wx hj hC) ?_
          refine wpG_move (qtr q) rfl (by kernel_rfl) (by kernel_rfl) (by kernel_rfl) ?_
          refine wpG_run1 (x := .tmp 92) (qtr q) (qtr q) (by kernel_rfl) (by kernel_rfl) (by kernel_rfl) (by kernel_rfl) (fun j wx ρ hC h0 hc => by simp [go_sem, h0, hc]) ?_
          refine wpG_run1 (x := .tmp 93) (qtr q) (.pointer (some ⟨q, 2, none⟩)) (by kernel_rfl) (by kernel_rfl) (by kernel_rfl) (by kernel_rfl) (fun j wx ρ hC h0 hc => by simp [go_sem, h0, hc]) ?_
          refine wpG_runA1 (x := .tmp 94) 1 (.pointer (some ⟨q, 2, none⟩)) (.bool fl) (by kernel_rfl) (by kernel_rfl) (by kernel_rfl) (by kernel_rfl) (by kernel_rfl) (by kernel_rfl) (by kernel_rfl) (fun j wx ρ hj hC h0 hc => by simp [h0, hc, go_sem, (R0.out j wx hj hC).2.1]) ?_
          refine wpG_run2 (x := .tmp 91) (y := .tmp 95) (.bool fl) (.bool fl) (.bool false) (by kernel_rfl) (by kernel_rfl) (by kernel_rfl) (by kernel_rfl) (by kernel_rfl) (fun j wx ρ hC h0 h1 hc => by simp [go_sem, h0, h1, hc]) ?_
          refine wpG_run2 (x := .tmp 89) (y := .tmp 96) (.bool false) (.bool false) (.bool false) (by kernel_rfl) (by kernel_rfl) (by kernel_rfl) (by kernel_rfl) (by kernel_rfl) (fun j wx ρ hC h0 h1 hc => by simp [go_sem, h0, h1]) ?_
          refine wpG_move (.bool false) rfl (by kernel_rfl) (by kernel_rfl) (by kernel_rfl) ?_
          refine wpG_move (qtr p) rfl (by kernel_rfl) (by kernel_rfl) (by kernel_rfl) ?_
          refine wpG_fnA 1 (errW nn) [qtr p] (by kernel_rfl) (by kernel_rfl) (by kernel_rfl) (by kernel_rfl) rfl (by kernel_rfl) (by kernel_rfl) (fun _ _ => by simp [go_sem]) (fun j wx hj hC => DONE.out j wx hj hC) ?_
          refine wpG_move (qtr q) rfl (by kernel_rfl) (by kernel_rfl) (by kernel_rfl) ?_
          refine wpG_run1 (x := .tmp 101) (qtr q) (qtr q) (by kernel_rfl) (by kernel_rfl) (by kernel_rfl) (by kernel_rfl) (fun j wx ρ hC h0 hc => by simp [go_sem, h0, hc]) ?_
          refine wpG_run1 (x := .tmp 102) (qtr q) (.pointer (some ⟨q, 4, none⟩)) (by kernel_rfl) (by kernel_rfl) (by kernel_rfl) (by kernel_rfl) (fun j wx ρ hC h0 hc => by simp [go_sem, h0, hc]) ?_
          refine wpG_runA1 (x := .tmp 103) 1 (.pointer (some ⟨q, 4, none⟩)) (errW nn) (by kernel_rfl) (by kernel_rfl) (by kernel_rfl) (by kernel_rfl) (by kernel_rfl) (by kernel_rfl) (by kernel_rfl) (fun j wx ρ hj hC h0 hc => by simp [h0, hc, go_sem, (R0.out j wx hj hC).2.2]) ?_
          refine wpG_run2 (x := .tmp 100) (y := .tmp 104) (errW nn) (errW nn) (.bool false) (by kernel_rfl) (by kernel_rfl) (by kernel_rfl) (by kernel_rfl) (by kernel_rfl) (fun j wx ρ hC h0 h1 hc => by simp [go_sem, h0, h1, hc]) ?_
          refine wpG_run2 (x := .tmp 98) (y := .tmp 105) (.bool false) (.bool false) (.bool false) (by kernel_rfl) (by kernel_rfl) (by kernel_rfl) (by kernel_rfl) (by kernel_rfl) (fun j wx ρ hC h0 h1 hc => by simp [go_sem, h0, h1]) ?_
          refine wpG_end (fun w9 hw9 => ?_)
          have H9 := Lib.hid (FIN.out w9 hw9)
          clear h5' h4
          clear hw9 LDA DOES MODEL BLKS DEAD DONE R0 FIN H hri
          simp only [setL, List.set_cons_zero, List.set_cons_succ]
          go_wp2
          go_loopw [13] (fun v13 wr => ∃ ii : Int, -1 ≤ ii ∧ ii ≤ (mS : Int) + 1 ∧ v13 = .int .i64 ii ∧ Own.St w.heap.size w wr [K.A p s2, ARef q (.slice aS nS cS) s2]) (fun v13 _ => (100 - intOf v13).toNat)
          case atStart => exact ⟨-1, by omega, by omega, rfl, H9.out⟩
          case round =>
            obtain ⟨ii, hi1, hi2, rfl, hG⟩ := hrel
            have G := Lib.hid hG
            clear hG H9
            obtain ⟨r0, _, _, _⟩ := ref_cells G.out 1 rfl
            by_cases hle : ii ≤ (mS : Int)
            · obtain ⟨y, ry, hy⟩ : ∃ y ry, BakM.read s2 ii = (y, ry) := ⟨_, _, rfl⟩
              have RD := Lib.hid (K.read ii G.out.below G.out OK2.out (by omega) ⟨by omega, by omega⟩)
              rw [hy] at RD
              have HY := Lib.hid hy
              obtain ⟨n, hn⟩ : ∃ n, n = y.length := ⟨_, rfl⟩
              simp only at RD
              rw [← hn] at RD
              clear hy hn
              go_wp2_with (fail)
              refine RD.out.mono ?_
              clear RD
              rintro e w3 ⟨ab, cb, rfl, h3⟩
              have H3 := Lib.hid h3
              clear h3 G r0
              have RR := Lib.hid (readR_any (H3.out.front 2 rfl) OK2.out (by omega) ii)
              rw [HY.out] at RR
              go_wp2_with (fail)
              refine RR.out.mono ?_
              clear RR
              rintro e w4 ⟨rfl, h4⟩
              have H4 := Lib.hid (H3.out.later h4)
              clear h4 H3
              have hst := ab_str H4.out 0 rfl
              have hlen := ab_len H4.out 0 rfl
              have hn : n ≤ 9223372036854775807 := by have := hlen.2.1; have := hlen.2.2.1; unfold maxLen at this; omega
              have HLEN := Lib.hid hlen
              clear hlen
              go_wp2_with (refine wpList_val rfl (neq_str rfl y y false (by simp) _ _ rfl rfl) ?_)
              clear hst
              go_loopw [140] (fun v wr => ∃ (j : Nat) (l' : Bs), j ≤ n ∧ v = .int .i64 (j : Int) ∧ Own.St w.heap.size w wr [AB ab n cb l', K.A p s2, ARef q (.slice aS nS cS) s2]) (fun v _ => n - (intOf v).toNat)
              case atStart => exact ⟨0, y, Nat.zero_le _, rfl, H4.out⟩
              case round =>
                obtain ⟨j, l', hjn, rfl, hG⟩ := hrel
                have G5 := Lib.hid hG
                clear hG H4
                by_cases hj : j < n
                · obtain ⟨g, rfl, cb_, fb_, put⟩ := ab_byte G5.out 0 rfl j hj
                  obtain ⟨c, hc⟩ : ∃ c, c = l'.getD j 0 := ⟨_, rfl⟩
                  rw [← hc] at cb_
                  have P6 := Lib.hid (put (c ^^^ 255))
                  have hx := flip_byteB c
                  clear put hc
                  go_wp2
                  clear cb_ fb_
                  go_roundw
                  case rel => exact ⟨j + 1, _, by omega, by go_num, P6.out⟩
                  case measure => simp [intOf]; omega
                · have G6 := Lib.hid (G5.out.drop 1)
                  clear G5
                  go_wp2
                  go_roundw
                  case rel => exact ⟨ii + 1, by omega, by omega, by go_num, G6.out⟩
                  case measure => simp [intOf]; omega
            · go_wp2
              go_roundw
              case rel => exact ⟨i + 1, p, s2, by omega, rfl, by go_num, G.out, OK2.out, HNS2.out⟩
              case measure => simp [intOf]; omega
      · go_wp2
        go_ret
        exact ⟨rfl, H.out.below⟩
  · have N1 := Lib.hid (K.new num H1.out.below H1.out HN.out)
    have hm' : mayBe num = false := by simpa using hm
    simp only [hm', Bool.false_eq_true, if_false] at N1
    go_wp2_with (fail)
    refine N1.out.mono ?_
    clear N1
    rintro e w2 ⟨rfl, h2⟩
    have H2 := Lib.hid h2
    clear h2 H1
    have N2 := Lib.hid (newR_any H2.out num HN.out)
    simp only [hm', Bool.false_eq_true, if_false] at N2
    go_wp2_with (fail)
    refine N2.out.mono ?_
    clear N2
    rintro e w3 ⟨rfl, h3⟩
    have H3 := Lib.hid h3
    clear h3 H2 hm hm'
    go_wp2
    go_ret
    exact ⟨rfl, H3.out.below⟩
end Bak
end Go.Proofs.Ytkddeccgoamopaa
