/- FlashLast: the walk. -/
import Derived.Test.YtepllhfofhehaaaFlaG
namespace Go.Proofs.Ytepllhfofhehaaa
open Go.RowKit Go.Own
namespace Fla
open Go.FlaM Byt

set_option maxRecDepth 6000 in
set_option maxHeartbeats 16000000 in
theorem walk_last (a0 : Option Addr) (len0 cap0 : Nat) (l : List ActD) {w : World} (w0 : inSlice 7 inAct l w.heap.size w [.slice a0 len0 cap0]) (K : Kept w) :
    Calls Try.prog 10 #[.slice a0 len0 cap0] w (RetYes w) := by
  obtain ⟨hlen, hcap, hmax, _, hat⟩ := acts_in w0
  have SH := Lib.hid (shown_any K (Below.refl _ _))
  have HF := Lib.hid (few_any w0)
  have HAT := Lib.hid hat
  have HLEN := Lib.hid hlen
  have hmax2 : cap0 ≤ 9223372036854775807 := by unfold maxLen at hmax; omega
  have PG : Hid (∀ wx, Calls Try.prog 19 #[.int .u8 255] wx fun e w' => ∃ v, e = .returned v ∧ (tyG FlaM.blank).holds v w' ∧ Below wx.heap.size wx w') := fun wx => page_ty 255 wx
  clear hat hlen w0 hmax
  go_enter Try.func10, Try.ntmps10
  go_wp2_with (fail)
  refine SH.out.mono ?_
  rintro e w1 ⟨rfl, h1⟩
  have H1 := Lib.hid ((Own.St.start w).later h1)
  clear h1
  go_wp2_with (fail)
  refine (new44 K w1 H1.out).mono ?_
  rintro e w2 ⟨p, rfl, h2⟩
  obtain ⟨bg, hbg⟩ : ∃ b, b = w2.heap.size := ⟨_, rfl⟩
  have H3 : Hid (Own.St w.heap.size w (w2.alloc (.cells (List.replicate 16 (Value.string (strB []))).toArray 61)) [K.A p (fresh 4 4), AVals bg 61 (gridV (fillG 0))]) := by
    have h := (h2.boxV 61 (gridV (fillG 0))).swap2
    rw [← hbg] at h
    exact h
  have HBG := Lib.hid hbg
  clear h2 H1
  go_wp2
  rw [← hbg]
  clear hbg
  go_loopw [27] (fun v wr => ∃ i : Nat, i ≤ 4 ∧ v = .int .i64 (i : Int) ∧ Own.St w.heap.size w wr [K.A p (fresh 4 4), AVals bg 61 (gridV (fillG (i * 4)))]) (fun v _ => 4 - (intOf v).toNat)
  case atStart => exact ⟨0, Nat.zero_le _, rfl, H3.out⟩
  case round =>
    obtain ⟨i, hi4', rfl, hH⟩ := hrel
    have H := Lib.hid hH
    clear hH H3 HBG
    by_cases hi : (i : Int) < 4
    · have hi4 : i < 4 := by omega
      obtain ⟨wa, hwa⟩ : ∃ wa, wa = wr := ⟨_, rfl⟩
      go_wp2
      go_loopw [30] (fun v wx => ∃ k : Nat, k ≤ 4 ∧ v = .int .i64 (k : Int) ∧ Own.St w.heap.size w wx [K.A p (fresh 4 4), AVals bg 61 (gridV (fillG (i * 4 + k)))]) (fun v _ => 4 - (intOf v).toNat)
      case atStart => exact ⟨0, Nat.zero_le _, rfl, H.out⟩
      case round =>
        obtain ⟨k, hk4', rfl, hG⟩ := hrel
        have G := Lib.hid hG
        clear hG H hwa
        by_cases hk : (k : Int) < 4
        · have hk4 : k < 4 := by omega
          go_wp2_with (fail)
          refine wp_laxW_list 6 (by kernel_rfl) (by kernel_rfl) (by kernel_rfl) (by kernel_rfl) (by kernel_rfl) ?_
          simp only [List.take_succ_cons, List.take_zero, List.drop_succ_cons, List.drop_zero]
          refine wpL_move (.int .i64 (i : Int)) rfl (by kernel_rfl) (by kernel_rfl) (by kernel_rfl) (by kernel_rfl) ?_
          refine wpL_move (.int .i64 (k : Int)) rfl (by kernel_rfl) (by kernel_rfl) (by kernel_rfl) (by kernel_rfl) ?_
          refine wpL_fnT (tyG FlaM.blank) [.int .u8 255] rfl rfl (by kernel_rfl) (by kernel_rfl) (by kernel_rfl) (by kernel_rfl) (fun _ _ => by simp [go_sem]) (fun wx hwx => PG.out wx) ?_
          refine wpL_conv (.string (strB FlaM.blank)) rfl rfl (by kernel_rfl) (by kernel_rfl) (fun u wx hwx hu => tyG_str hu) ?_
          refine wpL_run2 (x := .tmp 6) (y := .tmp 33) (.pointer (some ⟨bg, 0, none⟩)) (.int .i64 (i : Int)) (.pointer (some ⟨bg, i * 4, none⟩)) (by kernel_rfl) (by kernel_rfl) (by kernel_rfl) (by kernel_rfl) (by kernel_rfl) (by kernel_rfl) (fun wx ρ hwx h0 h1 hc => idxR rfl hi4 bg ρ wx h0 h1) ?_
          refine wpL_run2 (x := .tmp 37) (y := .tmp 34) (.pointer (some ⟨bg, i * 4, none⟩)) (.int .i64 (k : Int)) (.pointer (some ⟨bg, i * 4 + k, none⟩)) (by kernel_rfl) (by kernel_rfl) (by kernel_rfl) (by kernel_rfl) (by kernel_rfl) (by kernel_rfl) (fun wx ρ hwx h0 h1 hc => idxC rfl hk4 bg i ρ wx h0 h1) ?_
          refine wpL_end (by kernel_rfl) (fun w9 hw9 => ?_)
          simp only [FinL, setL, List.set_cons_zero, List.set_cons_succ]
          intro u _ _
          have G9 := G.out.later hw9
          obtain ⟨cw, fw⟩ := G9.cellV 1 rfl (i * 4 + k) (gridV_at (fillG (i * 4 + k)) hi4 hk4)
          have G10 : Hid (Own.St w.heap.size w (w9.setCell ⟨bg, i * 4 + k, none⟩ (.string (strB FlaM.blank))) [K.A p (fresh 4 4), AVals bg 61 (gridV (fillG (i * 4 + (k + 1))))]) := by
            have h := G9.storeV 1 rfl (i * 4 + k) (.string (strB FlaM.blank))
            simp only [List.set_cons_succ, List.set_cons_zero] at h
            rw [gridV_set _ hi4 hk4, fillG_next hi4 hk4] at h
            exact h
          clear hw9 G9 G
          go_wp2
          clear cw fw
          go_roundw
          case rel => exact ⟨k + 1, by omega, by go_num, G10.out⟩
          case measure => simp [intOf]; omega
        · have hk44 : k = 4 := by omega
          have G9 : Hid (Own.St w.heap.size w wr [K.A p (fresh 4 4), AVals bg 61 (gridV (fillG ((i + 1) * 4)))]) := by
            have h := G.out
            rw [hk44, show i * 4 + 4 = (i + 1) * 4 from by omega] at h
            exact h
          clear G hk44
          go_wp2
          go_roundw
          case rel => exact ⟨i + 1, by omega, by go_num, G9.out⟩
          case measure => simp [intOf]; omega
    · have H4 : Hid (Own.St w.heap.size w wr [K.A p (fresh 4 4), AVals bg 61 (gridV (fun i k => now (fresh 4 4) i k))]) := by
        have h := H.out
        have e : i = 4 := by omega
        rw [e, fillG_all] at h
        exact h
      clear H
      go_wp2_with (fail)
      refine (HF.out wr H4.out.below).mono ?_
      rintro e w4 ⟨k, hk1, hk2, hk3, rfl, rfl⟩
      have HK3 := Lib.hid hk3
      clear hk3
      have O0 := Lib.hid ok44
      have Z0 : Hid (Size (fresh 4 4) 4 4) := ⟨rfl, rfl⟩
      have F0 : Hid ((fresh 4 4).off = false ∧ (fresh 4 4).left = -1) := ⟨rfl, rfl⟩
      go_wp2
      go_loopw [44] (fun v wr => ∃ (i : Nat) (s : FS), i ≤ k ∧ v = .int .i64 (i : Int) ∧ Own.St w.heap.size w wr [K.A p s, AVals bg 61 (gridV (fun i k => now s i k))] ∧ Ok s i ∧ Size s 4 4 ∧ s.off = false ∧ s.left = -1) (fun v _ => k - (intOf v).toNat)
      case atStart => exact ⟨0, _, Nat.zero_le _, rfl, H4.out, O0.out, Z0.out, F0.out.1, F0.out.2⟩
      case round =>
        obtain ⟨i, s, hik, rfl, hH, hok, hsz, hon⟩ := hrel
        have H := Lib.hid hH
        have OK := Lib.hid hok
        have SZ := Lib.hid hsz
        have ON := Lib.hid hon
        clear hH hok hsz hon H4 O0 Z0 F0
        by_cases hi : (i : Int) < (k : Int)
        · have hil : i < l.length := by rw [← HLEN.out]; omega
          obtain ⟨b, o, rfl, hb, hact⟩ := HAT.out (by intro e; rw [e] at hil; simp at hil)
          obtain ⟨a, ha⟩ : ∃ a, a = l[i] := ⟨_, rfl⟩
          have hat1 := hact wr (fun k hk => H.out.below.block k hk) H.out.below.size i hil
          rw [← ha] at hat1
          have hbl : a.b.length ≤ 10000 := by rw [ha]; exact HK3.out i hil (by omega)
          obtain ⟨ab, af, cb, cf, vs, RA0⟩ := round_act H.out hat1
          have RA := Lib.hid RA0
          obtain ⟨bb, hbb⟩ : ∃ bb, bb = wr.heap.size := ⟨_, rfl⟩
          obtain ⟨w5, hw5⟩ : ∃ w5, w5 = (wr.alloc (.cells zeroAct.toArray 35)).setCells wr.heap.size 0 vs := ⟨_, rfl⟩
          have hst := RA.out.st
          rw [List.toList_toArray] at hst
          rw [← hw5, ← hbb] at hst
          have H5 := Lib.hid hst.swap2
          have LD5 : Hid (∀ (ρ : Operand → Value) (o : Oper) (x : Tmp), o.op = .load 35 (.tmp x) → ρ (.tmp x) = .pointer (some ⟨wr.heap.size, 0, none⟩) → (execOp ρ o).run Try.prog ((wr.alloc (.cells zeroAct.toArray 35)).setCells wr.heap.size 0 vs) = .ok (.value (.agg vs.toArray)) ((wr.alloc (.cells zeroAct.toArray 35)).setCells wr.heap.size 0 vs)) := by
            intro ρ o x ho h0
            rw [← hw5]
            rw [← hbb] at h0
            exact load_actV ho RA.out.len (hst.rowV 0 rfl) (Below.refl _ _) ρ h0
          have c0 := (hst.cellV 0 rfl 0 (v := .int .u8 (a.kind.toNat : Int)) (by rw [RA.out.vs_]; rfl)).1
          obtain ⟨r, hr⟩ : ∃ r, r = a.kind.toNat % 6 := ⟨_, rfl⟩
          have hri : (a.kind.toNat : Int) % 6 = (r : Int) := by omega
          have hr6 : r < 6 := by omega
          have hkb : a.kind.toNat < 256 := a.kind.toNat_lt
          have HR := Lib.hid hr
          have HIN := Lib.hid (RA.out.inn w5 hst.below hst.size)
          obtain ⟨_, _, _, _, _, _, _, _, _, _, i11⟩ := actIn_of HIN.out
          have NB := Lib.hid i11
          clear hst hr hact hat1 RA0 ha i11
          rw [hw5, hbb] at c0
          by_cases h2 : (2 : Int) < (r : Int)
          · go_wp2_with (first
              | (refine wpList_load_mid rfl 35 (.tmp 46) rfl b (o + i * 7) rfl vs _ RA.out.range Try.underlying35 rfl RA.out.info ?_)
              | (refine wpList_store_mid rfl 35 (.tmp 10) (.tmp 47) rfl wr.heap.size 0 vs.toArray rfl rfl RA.out.there RA.out.info2 RA.out.one ?_))
            rw [← hw5]
            clear hw5 c0
            go_wp2
            go_roundw
            case rel => exact ⟨i + 1, s, by omega, by go_num, H5.out.drop2, OK.out.more (by omega), SZ.out, ON.out.1, ON.out.2⟩
            case measure => simp [intOf]; omega
          · have hk2 : a.kind.toNat % 6 ≤ 2 := by rw [← HR.out]; omega
            have q6 := ok_act OK.out a NB.out
            have q7 := size_act OK.out SZ.out a
            have q8 := on_act a hk2 ON.out
            obtain ⟨s2, hs2⟩ : ∃ s2, s2 = (doAct s a).1 := ⟨_, rfl⟩
            obtain ⟨er, her⟩ : ∃ er, er = (doAct s a).2 := ⟨_, rfl⟩
            rw [← hs2] at q6 q7 q8
            have OK2 := Lib.hid q6
            have SZ2 := Lib.hid q7
            have ON2 := Lib.hid q8
            have hNb : s.n ≤ 1000 := by have := OK.out.n; omega
            have DO : Hid (Calls Try.prog 20 #[ptr p, .agg vs.toArray] w5 fun e w' => e = .returned (.int .i64 (er : Int)) ∧ Own.St w.heap.size w w' [K.A p s2, AVals bb 35 vs, AVals bg 61 (gridV (fun i k => now s i k))]) := by
              rw [her, hs2, RA.out.vs_]
              have hwx' := H5.out
              rw [RA.out.vs_] at hwx'
              exact does_any K a ab af cb cf hwx'.below hwx' OK.out (by omega) hbl HIN.out
            have BY : Hid (∀ wx, Below w.heap.size w wx → w.heap.size ≤ wx.heap.size → a.b.length ≤ 128 → Calls Try.prog 24 #[.agg vs.toArray] wx fun e w' => ∃ v, e = .returned v ∧ (tyG (bytesOf a)).holds v w' ∧ Below wx.heap.size wx w') := by
              intro wx h1 h2 h3
              rw [RA.out.vs_]
              exact bytes_ty a ab af cb cf wx h2 (RA.out.inn wx h1 h2) h3
            have VLEN : Hid (vs.length = 7) := RA.out.len
            have SEGC : Hid (vs[1]? = some (.int .i64 a.seg)) := by rw [RA.out.vs_]; exact rfl
            have PAGEC : Hid (vs[2]? = some (.int .i64 a.page)) := by rw [RA.out.vs_]; exact rfl
            have KINDC : Hid (vs[0]? = some (.int .u8 (a.kind.toNat : Int))) := by rw [RA.out.vs_]; exact rfl
            have HS2 := Lib.hid hs2
            have HER := Lib.hid her
            clear q6 q7 q8 hs2 her NB
            go_wp2_with (first
              | (refine wpList_load_mid rfl 35 (.tmp 46) rfl b (o + i * 7) rfl vs _ RA.out.range Try.underlying35 rfl RA.out.info ?_)
              | (refine wpList_store_mid rfl 35 (.tmp 10) (.tmp 47) rfl wr.heap.size 0 vs.toArray rfl rfl RA.out.there RA.out.info2 RA.out.one ?_)
              | (refine Byt.wpList_val rfl (LD5.out _ _ _ rfl rfl) ?_))
            rw [← hw5, ← hbb]
            clear hw5 hbb LD5 RA H c0
            refine DO.out.mono ?_
            rintro e w6 ⟨rfl, h6⟩
            have H6 := Lib.hid h6
            clear h6 H5 DO
            have HK2 := Lib.hid hk2
            clear hk2
            by_cases he : er = 0
            · have NOW : Hid (gridV (stepG a 4 (fun i k => now s i k)) = gridV (fun i k => now s2 i k)) := by
                show _ = _
                rw [HS2.out]
                exact stepG_all OK.out SZ.out a HK2.out (HER.out.symm.trans he)
              have TH := Lib.hid (act_there SZ.out a (HER.out.symm.trans he))
              have TL : Hid (r = 0 → a.b.length ≤ 128) := by
                intro h0
                exact act_len a (HR.out.symm.trans h0) (HER.out.symm.trans he)
              have hr012 : r = 0 ∨ r = 1 ∨ r = 2 := by omega
              rcases hr012 with h0 | h0 | h0
              · skip
                have g0 : ((r : Int) == 0) = true := by simp [h0]
                have g1 : ((r : Int) == 1) = false := by simp; omega
                have g2 : (r : Int) < 2 := by omega
                have H00 := Lib.hid h0
                have HNE : Hid (r ≠ 1) := by show r ≠ 1; omega
                have HBL := Lib.hid (TL.out h0)
                obtain ⟨sg, pg, hsg, hpg, hsg4, hpg4⟩ := TH.out.1 (HR.out.symm.trans h0)
                have HSG := Lib.hid hsg
                have HPG := Lib.hid hpg
                have hs0 : ¬ (sg : Int) < 0 := by omega
                have hs3 : ¬ (3 : Int) < (sg : Int) := by omega
                have hp0 : ¬ (pg : Int) < 0 := by omega
                have hp3 : ¬ (3 : Int) < (pg : Int) := by omega
                have c0 := (H6.out.cellV 1 rfl 0 KINDC.out).1
                have c1 := (H6.out.cellV 1 rfl 1 SEGC.out).1
                have c2 := (H6.out.cellV 1 rfl 2 PAGEC.out).1
                rw [hsg] at c1
                rw [hpg] at c2
                clear h0 TH TL hsg hpg
                go_wp2
                clear c0 c1 c2
                go_loopw [88] (fun v wx => ∃ m : Nat, m ≤ 4 ∧ v = .int .i64 (m : Int) ∧ Own.St w.heap.size w wx [K.A p s2, AVals bb 35 vs, AVals bg 61 (gridV (stepG a m (fun i k => now s i k)))]) (fun v _ => 4 - (intOf v).toNat)
                case atStart => exact ⟨0, Nat.zero_le _, rfl, by have h := H6.out; rw [← stepG_zero a (fun i k => now s i k)] at h; exact h⟩
                case round =>
                  obtain ⟨m, hm, rfl, hG⟩ := hrel
                  have G := Lib.hid hG
                  clear hG H6
                  by_cases hm4 : (m : Int) < 4
                  · have c0 := (G.out.cellV 1 rfl 0 KINDC.out).1
                    have hm44 : m < 4 := by omega
                    have c2 := (G.out.cellV 1 rfl 2 PAGEC.out).1
                    rw [HPG.out] at c2
                    by_cases hpm : pg = m
                    · have gp : ((pg : Int) == (m : Int)) = true := by simp [hpm]
                      have HPM := Lib.hid hpm
                      clear hpm
                      have C1 := Lib.hid (fun wx (hwx : Below wr.heap.size wr wx) => ((G.out.later hwx).cellV 1 rfl 1 SEGC.out).1)
                      have BLK : Hid (wr.heap[bb]? = some (.cells vs.toArray 35 (0, 0))) := G.out.rowV 1 rfl
                      have BY2 : Hid (∀ wx, Below wr.heap.size wr wx → Calls Try.prog 24 #[.agg vs.toArray] wx fun e w' => ∃ v, e = .returned v ∧ (tyG (bytesOf a)).holds v w' ∧ Below wx.heap.size wx w') := fun wx hwx => BY.out wx (G.out.later hwx).below (G.out.later hwx).size HBL.out
                      go_wp2_with (fail)
                      refine wp_laxW_list 8 (by kernel_rfl) (by kernel_rfl) (by kernel_rfl) (by kernel_rfl) (by kernel_rfl) ?_
                      simp only [List.take_succ_cons, List.take_zero, List.drop_succ_cons, List.drop_zero]
                      refine wpL_run1 (x := .tmp 10) (.pointer (some ⟨bb, 0, none⟩)) (.pointer (some ⟨bb, 1, none⟩)) (by kernel_rfl) (by kernel_rfl) (by kernel_rfl) (by kernel_rfl) (by kernel_rfl) (fun wx ρ hwx h0 hc => by simp [go_sem, h0, hc]) ?_
                      refine wpL_run1 (x := .tmp 112) (.pointer (some ⟨bb, 1, none⟩)) (.int .i64 (sg : Int)) (by kernel_rfl) (by kernel_rfl) (by kernel_rfl) (by kernel_rfl) (by kernel_rfl) (fun wx ρ hwx h0 hc => by simp [go_sem, h0, hc, C1.out wx hwx, HSG.out]) ?_
                      refine wpL_move (.int .i64 (m : Int)) rfl (by kernel_rfl) (by kernel_rfl) (by kernel_rfl) (by kernel_rfl) ?_
                      refine wpL_run1 (x := .tmp 10) (.pointer (some ⟨bb, 0, none⟩)) (.agg vs.toArray) (by kernel_rfl) (by kernel_rfl) (by kernel_rfl) (by kernel_rfl) (by kernel_rfl) (fun wx ρ hwx h0 hc => load_actV rfl VLEN.out BLK.out hwx ρ h0) ?_
                      refine wpL_fnT (tyG (bytesOf a)) [.agg vs.toArray] rfl rfl (by kernel_rfl) (by kernel_rfl) (by kernel_rfl) (by kernel_rfl) (fun _ _ => by simp [go_sem]) (fun wx hwx => BY2.out wx hwx) ?_
                      refine wpL_conv (.string (strB (bytesOf a))) rfl rfl (by kernel_rfl) (by kernel_rfl) (fun u wx hwx hu => tyG_str hu) ?_
                      refine wpL_run2 (x := .tmp 6) (y := .tmp 113) (.pointer (some ⟨bg, 0, none⟩)) (.int .i64 (sg : Int)) (.pointer (some ⟨bg, sg * 4, none⟩)) (by kernel_rfl) (by kernel_rfl) (by kernel_rfl) (by kernel_rfl) (by kernel_rfl) (by kernel_rfl) (fun wx ρ hwx h0 h1 hc => idxR rfl hsg4 bg ρ wx h0 h1) ?_
                      refine wpL_run2 (x := .tmp 118) (y := .tmp 114) (.pointer (some ⟨bg, sg * 4, none⟩)) (.int .i64 (m : Int)) (.pointer (some ⟨bg, sg * 4 + m, none⟩)) (by kernel_rfl) (by kernel_rfl) (by kernel_rfl) (by kernel_rfl) (by kernel_rfl) (by kernel_rfl) (fun wx ρ hwx h0 h1 hc => idxC rfl hm44 bg sg ρ wx h0 h1) ?_
                      refine wpL_end (by kernel_rfl) (fun w9 hw9 => ?_)
                      simp only [FinL, setL, List.set_cons_zero, List.set_cons_succ]
                      intro u _ _
                      have G9 := G.out.later hw9
                      obtain ⟨cw, fw⟩ := G9.cellV 2 rfl (sg * 4 + m) (gridV_at (stepG a m (fun i k => now s i k)) hsg4 hm44)
                      have G10 : Hid (Own.St w.heap.size w (w9.setCell ⟨bg, sg * 4 + m, none⟩ (.string (strB (bytesOf a)))) [K.A p s2, AVals bb 35 vs, AVals bg 61 (gridV (stepG a (m + 1) (fun i k => now s i k)))]) := by
                        have h := G9.storeV 2 rfl (sg * 4 + m) (.string (strB (bytesOf a)))
                        simp only [List.set_cons_succ, List.set_cons_zero] at h
                        rw [gridV_set _ hsg4 hm44, stepG_prog _ (HR.out.symm.trans H00.out) HSG.out (HPG.out.trans (by rw [HPM.out]))] at h
                        exact h
                      clear hw9 G9 G c0 c2
                      go_wp2
                      clear cw fw
                      go_roundw
                      case rel => exact ⟨m + 1, by omega, by go_num, G10.out⟩
                      case measure => simp [intOf]; omega
                    · have gp : ((pg : Int) == (m : Int)) = false := by simp; omega
                      have HPM := Lib.hid hpm
                      have G10 : Hid (Own.St w.heap.size w wr [K.A p s2, AVals bb 35 vs, AVals bg 61 (gridV (stepG a (m + 1) (fun i k => now s i k)))]) := by
                        have h := G.out
                        rw [stepG_same _ (by rw [← HR.out]; exact HNE.out) (fun hh => HPM.out (by have h1 := hh.2; rw [HPG.out] at h1; omega))] at h
                        exact h
                      clear G hpm
                      go_wp2
                      clear c0 c2
                      go_roundw
                      case rel => exact ⟨m + 1, by omega, by go_num, G10.out⟩
                      case measure => simp [intOf]; omega
                  · have G9 : Hid (Own.St w.heap.size w wr [K.A p s2, AVals bb 35 vs, AVals bg 61 (gridV (fun i k => now s2 i k))]) := by
                      have h := G.out
                      have e : m = 4 := by omega
                      rw [e, NOW.out] at h
                      exact h
                    clear G
                    go_wp2
                    go_roundw
                    case rel => exact ⟨i + 1, s2, by omega, by go_num, G9.out.drop2, OK2.out, SZ2.out, ON2.out.1, ON2.out.2⟩
                    case measure => simp [intOf]; omega
              · skip
                have g0 : ((r : Int) == 0) = false := by simp; omega
                have g1 : ((r : Int) == 1) = true := by simp [h0]
                have g2 : (r : Int) < 2 := by omega
                have H01 := Lib.hid h0
                obtain ⟨sg, hsg, hsg4⟩ := TH.out.2 (HR.out.symm.trans h0)
                have HSG := Lib.hid hsg
                have hs0 : ¬ (sg : Int) < 0 := by omega
                have hs3 : ¬ (3 : Int) < (sg : Int) := by omega
                have c0 := (H6.out.cellV 1 rfl 0 KINDC.out).1
                have c1 := (H6.out.cellV 1 rfl 1 SEGC.out).1
                rw [hsg] at c1
                clear h0 TH TL hsg
                go_wp2
                clear c0 c1
                go_loopw [88] (fun v wx => ∃ m : Nat, m ≤ 4 ∧ v = .int .i64 (m : Int) ∧ Own.St w.heap.size w wx [K.A p s2, AVals bb 35 vs, AVals bg 61 (gridV (stepG a m (fun i k => now s i k)))]) (fun v _ => 4 - (intOf v).toNat)
                case atStart => exact ⟨0, Nat.zero_le _, rfl, by have h := H6.out; rw [← stepG_zero a (fun i k => now s i k)] at h; exact h⟩
                case round =>
                  obtain ⟨m, hm, rfl, hG⟩ := hrel
                  have G := Lib.hid hG
                  clear hG H6
                  by_cases hm4 : (m : Int) < 4
                  · have c0 := (G.out.cellV 1 rfl 0 KINDC.out).1
                    have hm44 : m < 4 := by omega
                    have C1 := Lib.hid (fun wx (hwx : Below wr.heap.size wr wx) => ((G.out.later hwx).cellV 1 rfl 1 SEGC.out).1)
                    go_wp2_with (fail)
                    refine wp_laxW_list 7 (by kernel_rfl) (by kernel_rfl) (by kernel_rfl) (by kernel_rfl) (by kernel_rfl) ?_
                    simp only [List.take_succ_cons, List.take_zero, List.drop_succ_cons, List.drop_zero]
                    refine wpL_run1 (x := .tmp 10) (.pointer (some ⟨bb, 0, none⟩)) (.pointer (some ⟨bb, 1, none⟩)) (by kernel_rfl) (by kernel_rfl) (by kernel_rfl) (by kernel_rfl) (by kernel_rfl) (fun wx ρ hwx h0 hc => by simp [go_sem, h0, hc]) ?_
                    refine wpL_run1 (x := .tmp 95) (.pointer (some ⟨bb, 1, none⟩)) (.int .i64 (sg : Int)) (by kernel_rfl) (by kernel_rfl) (by kernel_rfl) (by kernel_rfl) (by kernel_rfl) (fun wx ρ hwx h0 hc => by simp [go_sem, h0, hc, C1.out wx hwx, HSG.out]) ?_
                    refine wpL_move (.int .i64 (m : Int)) rfl (by kernel_rfl) (by kernel_rfl) (by kernel_rfl) (by kernel_rfl) ?_
                    refine wpL_fnT (tyG FlaM.blank) [.int .u8 255] rfl rfl (by kernel_rfl) (by kernel_rfl) (by kernel_rfl) (by kernel_rfl) (fun _ _ => by simp [go_sem]) (fun wx hwx => PG.out wx) ?_
                    refine wpL_conv (.string (strB FlaM.blank)) rfl rfl (by kernel_rfl) (by kernel_rfl) (fun u wx hwx hu => tyG_str hu) ?_
                    refine wpL_run2 (x := .tmp 6) (y := .tmp 96) (.pointer (some ⟨bg, 0, none⟩)) (.int .i64 (sg : Int)) (.pointer (some ⟨bg, sg * 4, none⟩)) (by kernel_rfl) (by kernel_rfl) (by kernel_rfl) (by kernel_rfl) (by kernel_rfl) (by kernel_rfl) (fun wx ρ hwx h0 h1 hc => idxR rfl hsg4 bg ρ wx h0 h1) ?_
                    refine wpL_run2 (x := .tmp 100) (y := .tmp 97) (.pointer (some ⟨bg, sg * 4, none⟩)) (.int .i64 (m : Int)) (.pointer (some ⟨bg, sg * 4 + m, none⟩)) (by kernel_rfl) (by kernel_rfl) (by kernel_rfl) (by kernel_rfl) (by kernel_rfl) (by kernel_rfl) (fun wx ρ hwx h0 h1 hc => idxC rfl hm44 bg sg ρ wx h0 h1) ?_
                    refine wpL_end (by kernel_rfl) (fun w9 hw9 => ?_)
                    simp only [FinL, setL, List.set_cons_zero, List.set_cons_succ]
                    intro u _ _
                    have G9 := G.out.later hw9
                    obtain ⟨cw, fw⟩ := G9.cellV 2 rfl (sg * 4 + m) (gridV_at (stepG a m (fun i k => now s i k)) hsg4 hm44)
                    have G10 : Hid (Own.St w.heap.size w (w9.setCell ⟨bg, sg * 4 + m, none⟩ (.string (strB FlaM.blank))) [K.A p s2, AVals bb 35 vs, AVals bg 61 (gridV (stepG a (m + 1) (fun i k => now s i k)))]) := by
                      have h := G9.storeV 2 rfl (sg * 4 + m) (.string (strB FlaM.blank))
                      simp only [List.set_cons_succ, List.set_cons_zero] at h
                      rw [gridV_set _ hsg4 hm44, stepG_erase _ (HR.out.symm.trans H01.out) HSG.out] at h
                      exact h
                    have c0' := (G10.out.cellV 1 rfl 0 KINDC.out).1
                    clear hw9 G9 G c0
                    go_wp2
                    clear cw fw c0'
                    go_roundw
                    case rel => exact ⟨m + 1, by omega, by go_num, G10.out⟩
                    case measure => simp [intOf]; omega
                  · have G9 : Hid (Own.St w.heap.size w wr [K.A p s2, AVals bb 35 vs, AVals bg 61 (gridV (fun i k => now s2 i k))]) := by
                      have h := G.out
                      have e : m = 4 := by omega
                      rw [e, NOW.out] at h
                      exact h
                    clear G
                    go_wp2
                    go_roundw
                    case rel => exact ⟨i + 1, s2, by omega, by go_num, G9.out.drop2, OK2.out, SZ2.out, ON2.out.1, ON2.out.2⟩
                    case measure => simp [intOf]; omega
              · skip
                have g0 : ((r : Int) == 0) = false := by simp; omega
                have g1 : ((r : Int) == 1) = false := by simp; omega
                have g2 : ¬ (r : Int) < 2 := by omega
                have HNE : Hid (r ≠ 1) := by show r ≠ 1; omega
                have HN0 : Hid (r ≠ 0) := by show r ≠ 0; omega
                have c0 := (H6.out.cellV 1 rfl 0 KINDC.out).1
                clear h0 TH TL
                go_wp2
                clear c0
                go_loopw [88] (fun v wx => ∃ m : Nat, m ≤ 4 ∧ v = .int .i64 (m : Int) ∧ Own.St w.heap.size w wx [K.A p s2, AVals bb 35 vs, AVals bg 61 (gridV (stepG a m (fun i k => now s i k)))]) (fun v _ => 4 - (intOf v).toNat)
                case atStart => exact ⟨0, Nat.zero_le _, rfl, by have h := H6.out; rw [← stepG_zero a (fun i k => now s i k)] at h; exact h⟩
                case round =>
                  obtain ⟨m, hm, rfl, hG⟩ := hrel
                  have G := Lib.hid hG
                  clear hG H6
                  by_cases hm4 : (m : Int) < 4
                  · have c0 := (G.out.cellV 1 rfl 0 KINDC.out).1
                    have G10 : Hid (Own.St w.heap.size w wr [K.A p s2, AVals bb 35 vs, AVals bg 61 (gridV (stepG a (m + 1) (fun i k => now s i k)))]) := by
                      have h := G.out
                      rw [stepG_same _ (by rw [← HR.out]; exact HNE.out) (fun hh => HN0.out (HR.out.trans hh.1))] at h
                      exact h
                    clear G
                    go_wp2
                    go_roundw
                    case rel => exact ⟨m + 1, by omega, by go_num, G10.out⟩
                    case measure => simp [intOf]; omega
                  · have G9 : Hid (Own.St w.heap.size w wr [K.A p s2, AVals bb 35 vs, AVals bg 61 (gridV (fun i k => now s2 i k))]) := by
                      have h := G.out
                      have e : m = 4 := by omega
                      rw [e, NOW.out] at h
                      exact h
                    clear G
                    go_wp2
                    go_roundw
                    case rel => exact ⟨i + 1, s2, by omega, by go_num, G9.out.drop2, OK2.out, SZ2.out, ON2.out.1, ON2.out.2⟩
                    case measure => simp [intOf]; omega
            · have SAME : Hid (Own.St w.heap.size w w6 [K.A p s2, AVals bb 35 vs, AVals bg 61 (gridV (fun i k => now s2 i k))]) := by
                have h := H6.out
                have e : gridV (fun i k => now s i k) = gridV (fun i k => now s2 i k) := by
                  apply gridV_congr
                  intro i k _ _
                  rw [HS2.out, now_same (op_act s a HK2.out) (fun h => he (HER.out.trans h))]
                rw [e] at h
                exact h
              clear H6
              go_wp2
              go_roundw
              case rel => exact ⟨i + 1, s2, by omega, by go_num, SAME.out.drop2, OK2.out, SZ2.out, ON2.out.1, ON2.out.2⟩
              case measure => simp [intOf]; omega
        · go_wp2
          go_loopw [122] (fun v wx => ∃ t : Nat, t ≤ 4 ∧ v = .int .i64 (t : Int) ∧ Own.St w.heap.size w wx [K.A p s, AVals bg 61 (gridV (fun i k => now s i k))]) (fun v _ => 4 - (intOf v).toNat)
          case atStart => exact ⟨0, Nat.zero_le _, rfl, H.out⟩
          case round =>
            obtain ⟨t, ht, rfl, hG⟩ := hrel
            have G := Lib.hid hG
            clear hG H
            by_cases hti : (t : Int) < 4
            · have ht4 : t < 4 := by omega
              go_wp2
              go_loopw [125] (fun v wx => ∃ q : Nat, q ≤ 4 ∧ v = .int .i64 (q : Int) ∧ Own.St w.heap.size w wx [K.A p s, AVals bg 61 (gridV (fun i k => now s i k))]) (fun v _ => 4 - (intOf v).toNat)
              case atStart => exact ⟨0, Nat.zero_le _, rfl, G.out⟩
              case round =>
                obtain ⟨q, hq, rfl, hG⟩ := hrel
                clear G
                have G := Lib.hid hG
                clear hG
                by_cases hqi : (q : Int) < 4
                · have hq4 : q < 4 := by omega
                  obtain ⟨x, hx⟩ : ∃ x, x = now s t q := ⟨_, rfl⟩
                  obtain ⟨n, hn⟩ : ∃ n, n = x.length := ⟨_, rfl⟩
                  have RD : Hid (Calls Try.prog 23 #[ptr p, .int .i64 (t : Int), .int .i64 (q : Int)] wr fun e w' => ∃ ao cap, e = .returned (.tuple #[.slice ao n cap, .int .i64 0]) ∧ Own.St w.heap.size w w' [AB ao n cap x, K.A p s, AVals bg 61 (gridV (fun i k => now s i k))]) := by
                    have h := K.read (t : Int) (q : Int) G.out.below G.out OK.out (by omega) ⟨by omega, by omega⟩ ⟨by omega, by omega⟩
                    have e2 : FlaM.read s (t : Int) (q : Int) = (x, 0) := by
                      rw [read_at SZ.out ht4 hq4, if_neg (by rw [ON.out.1]; decide), ← hx]
                    rw [e2] at h
                    rw [hn]
                    exact h
                  go_wp2_with (fail)
                  refine RD.out.mono ?_
                  rintro e w8 ⟨ar, cr, rfl, h8⟩
                  have G8 := Lib.hid h8
                  have GB : Hid (Given w8 ar n cr x) := given_own h8 0 rfl
                  have CJ : Hid (∀ wx, Below w8.heap.size w8 wx → wx.cell? ⟨bg, t * 4 + q, none⟩ = some (.string (strB x))) := by
                    intro wx hwx
                    rw [hx]
                    exact ((G8.out.later hwx).cellV 2 rfl (t * 4 + q) (gridV_at (fun i k => now s i k) ht4 hq4)).1
                  clear h8 G RD hx hn
                  go_wp2_with (fail)
                  refine wp_lax_list (by kernel_rfl) (by kernel_rfl) (by kernel_rfl) ?_
                  refine wpL_move (.int .i64 0) rfl (by kernel_rfl) (by kernel_rfl) (by kernel_rfl) (by kernel_rfl) ?_
                  refine wpL_run1 (x := .tmp 135) (.int .i64 0) (.bool false) (by kernel_rfl) (by kernel_rfl) (by kernel_rfl) (by kernel_rfl) (by kernel_rfl) (fun wx ρ hwx h0 hc => by simp [go_sem, h0, hc]) ?_
                  refine wpL_move (.bool false) rfl (by kernel_rfl) (by kernel_rfl) (by kernel_rfl) (by kernel_rfl) ?_
                  refine wpL_move (.slice ar n cr) rfl (by kernel_rfl) (by kernel_rfl) (by kernel_rfl) (by kernel_rfl) ?_
                  refine wpL_convK (.slice ar n cr) (.string (strB x)) rfl (by kernel_rfl) (by kernel_rfl) (by kernel_rfl) (by kernel_rfl) (fun wx hwx => given_str (GB.out.later hwx)) ?_
                  refine wpL_move (.int .i64 (t : Int)) rfl (by kernel_rfl) (by kernel_rfl) (by kernel_rfl) (by kernel_rfl) ?_
                  refine wpL_move (.int .i64 (q : Int)) rfl (by kernel_rfl) (by kernel_rfl) (by kernel_rfl) (by kernel_rfl) ?_
                  refine wpL_run2 (x := .tmp 6) (y := .tmp 140) (.pointer (some ⟨bg, 0, none⟩)) (.int .i64 (t : Int)) (.pointer (some ⟨bg, t * 4, none⟩)) (by kernel_rfl) (by kernel_rfl) (by kernel_rfl) (by kernel_rfl) (by kernel_rfl) (by kernel_rfl) (fun wx ρ hwx h0 h1 hc => idxR rfl ht4 bg ρ wx h0 h1) ?_
                  refine wpL_run2 (x := .tmp 142) (y := .tmp 141) (.pointer (some ⟨bg, t * 4, none⟩)) (.int .i64 (q : Int)) (.pointer (some ⟨bg, t * 4 + q, none⟩)) (by kernel_rfl) (by kernel_rfl) (by kernel_rfl) (by kernel_rfl) (by kernel_rfl) (by kernel_rfl) (fun wx ρ hwx h0 h1 hc => idxC rfl hq4 bg t ρ wx h0 h1) ?_
                  refine wpL_run1 (x := .tmp 143) (.pointer (some ⟨bg, t * 4 + q, none⟩)) (.string (strB x)) (by kernel_rfl) (by kernel_rfl) (by kernel_rfl) (by kernel_rfl) (by kernel_rfl) (fun wx ρ hwx h0 hc => load_st rfl (CJ.out wx hwx) h0) ?_
                  refine wpL_run2 (x := .tmp 139) (y := .tmp 144) (.string (strB x)) (.string (strB x)) (.bool false) (by kernel_rfl) (by kernel_rfl) (by kernel_rfl) (by kernel_rfl) (by kernel_rfl) (by kernel_rfl) (fun wx ρ hwx h0 h1 hc => by simp [go_sem, h0, h1, hc]) ?_
                  refine wpL_run2 (x := .tmp 137) (y := .tmp 145) (.bool false) (.bool false) (.bool false) (by kernel_rfl) (by kernel_rfl) (by kernel_rfl) (by kernel_rfl) (by kernel_rfl) (by kernel_rfl) (fun wx ρ hwx h0 h1 hc => by simp [go_sem, h0, h1]) ?_
                  refine wpL_end (by kernel_rfl) (fun w9 hw9 => ?_)
                  simp only [FinL, setL, List.set_cons_zero, List.set_cons_succ]
                  have G9 := Lib.hid ((G8.out.later hw9).drop 1)
                  clear hw9 GB G8 CJ
                  go_wp2
                  go_roundw
                  case rel => exact ⟨q + 1, by omega, by go_num, G9.out⟩
                  case measure => simp [intOf]; omega
                · go_wp2
                  go_roundw
                  case rel => exact ⟨t + 1, by omega, by go_num, G.out⟩
                  case measure => simp [intOf]; omega
            · go_wp2
              go_ret
              exact ⟨rfl, G.out.below⟩
end Fla
end Go.Proofs.Ytepllhfofhehaaa
