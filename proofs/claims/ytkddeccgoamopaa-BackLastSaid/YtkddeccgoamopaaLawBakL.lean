/- BackLast: the walk. -/
import Derived.Test.YtkddeccgoamopaaBakK
namespace Go.Proofs.Ytkddeccgoamopaa
open Go.RowKit Go.Own
namespace Bak
open Go.BakM Byt

set_option maxRecDepth 6000 in
set_option maxHeartbeats 16000000 in
theorem walk_last (a0 : Option Addr) (len0 cap0 : Nat) (l : List ActD) {w : World} (w0 : inSlice 6 inAct l w.heap.size w [.slice a0 len0 cap0]) (K : Kept w) :
    Calls Try.prog 7 #[.slice a0 len0 cap0] w (RetYes w) := by
  obtain ⟨hlen, hcap, hmax, _, hat⟩ := acts_in w0
  have SH := Lib.hid (shown_any K (Below.refl _ _))
  have HF := Lib.hid (few_any a0 len0 cap0 hcap hmax)
  have HAT := Lib.hid hat
  have HLEN := Lib.hid hlen
  have hmax2 : cap0 ≤ 9223372036854775807 := by unfold maxLen at hmax; omega
  have PZ : Hid (∀ wx, Calls Try.prog 15 #[.int .u8 0] wx fun e w' => ∃ v, e = .returned v ∧ (tyG BakM.blank).holds v w' ∧ Below wx.heap.size wx w') := fun wx => block_ty 0 wx
  clear hat hlen w0 hmax
  go_enter Try.func7, Try.ntmps7
  go_wp2_with (fail)
  refine SH.out.mono ?_
  rintro e w1 ⟨rfl, h1⟩
  have H1 := Lib.hid ((Own.St.start w).later h1)
  clear h1
  go_wp2_with (fail)
  refine (new10 K H1.out.below H1.out).mono ?_
  rintro e w2 ⟨p, rfl, h2⟩
  obtain ⟨bg, hbg⟩ : ∃ b, b = w2.heap.size := ⟨_, rfl⟩
  have H3 : Hid (Own.St w.heap.size w (w2.alloc (.cells (List.replicate 10 (Value.string (strB []))).toArray 52)) [K.A p (fresh 10), AVals bg 52 (rowB (fillB 0))]) := by
    have h := (h2.boxV 52 (rowB (fillB 0))).swap2
    rw [← hbg] at h
    exact h
  clear h2 H1
  go_wp2
  rw [← hbg]
  clear hbg
  go_loopw [25] (fun v wr => ∃ i : Nat, i ≤ 10 ∧ v = .int .i64 (i : Int) ∧ Own.St w.heap.size w wr [K.A p (fresh 10), AVals bg 52 (rowB (fillB i))]) (fun v _ => 10 - (intOf v).toNat)
  case atStart => exact ⟨0, Nat.zero_le _, rfl, H3.out⟩
  case round =>
    obtain ⟨i, hi10', rfl, hH⟩ := hrel
    have H := Lib.hid hH
    clear hH H3
    by_cases hi : (i : Int) < 10
    · have hi10 : i < 10 := by omega
      obtain ⟨bl, hbl⟩ : ∃ bl, bl = BakM.blank := ⟨_, rfl⟩
      go_wp2_with (fail)
      refine (block_any 0 H.out).mono ?_
      rintro e w5 ⟨g, rfl, h5⟩
      have H5 := Lib.hid h5
      have hcv : (convert 38 9 (.slice (some ⟨g, 0, none⟩) 256 256)).run Try.prog w5 = .ok (.string (strB bl)) w5 := by rw [hbl]; exact ab_str H5.out 0 rfl
      obtain ⟨cw, fw⟩ := H5.out.cellV 2 rfl i (rowB_at (fillB i) hi10)
      have G10 : Hid (Own.St w.heap.size w (w5.setCell ⟨bg, i, none⟩ (.string (strB bl))) [K.A p (fresh 10), AVals bg 52 (rowB (fillB (i + 1)))]) := by
        have h := H5.out.storeV 2 rfl i (.string (strB bl))
        simp only [List.set_cons_succ, List.set_cons_zero] at h
        rw [hbl, rowB_set, fillB_next] at h
        rw [hbl]
        exact h.drop 1
      clear h5 H5 H hbl
      go_wp2
      clear hcv cw fw
      go_roundw
      case rel => exact ⟨i + 1, by omega, by go_num, G10.out⟩
      case measure => simp [intOf]; omega
    · have H4 : Hid (Own.St w.heap.size w wr [K.A p (fresh 10), AVals bg 52 (rowB (now (fresh 10)))]) := by
        have h := H.out
        have e : i = 10 := by omega
        rw [e, fillB_all] at h
        exact h
      clear H
      go_wp2_with (fail)
      refine (HF.out wr).mono ?_
      rintro e w4 ⟨rfl, rfl⟩
      obtain ⟨k, hk⟩ : ∃ k, k = min len0 100 := ⟨_, rfl⟩
      rw [← hk]
      have hk1 : k ≤ len0 := by omega
      have hk2 : k ≤ 100 := by omega
      have O0 := Lib.hid ok10
      have L0 := Lib.hid lit_fresh
      clear hk
      go_wp2
      go_loopw [36] (fun v wr => ∃ (i : Nat) (s : DS), i ≤ k ∧ v = .int .i64 (i : Int) ∧ Own.St w.heap.size w wr [K.A p s, AVals bg 52 (rowB (now s))] ∧ Ok s i ∧ Lit10 s) (fun v _ => k - (intOf v).toNat)
      case atStart => exact ⟨0, _, Nat.zero_le _, rfl, H4.out, O0.out, L0.out⟩
      case round =>
        obtain ⟨i, s, hik, rfl, hH, hok, hlt⟩ := hrel
        have H := Lib.hid hH
        have OK := Lib.hid hok
        have LT := Lib.hid hlt
        clear hH hok hlt H4 O0 L0
        by_cases hi : (i : Int) < (k : Int)
        · have hil : i < l.length := by rw [← HLEN.out]; omega
          obtain ⟨b, o, rfl, hb, hact⟩ := HAT.out (by intro e; rw [e] at hil; simp at hil)
          obtain ⟨a, ha⟩ : ∃ a, a = l[i] := ⟨_, rfl⟩
          have hat1 := hact wr (fun k hk => H.out.below.block k hk) i hil
          rw [← ha] at hat1
          obtain ⟨vs, RA0⟩ := round_act H.out hat1
          have RA := Lib.hid RA0
          obtain ⟨bb, hbb⟩ : ∃ bb, bb = wr.heap.size := ⟨_, rfl⟩
          obtain ⟨w5, hw5⟩ : ∃ w5, w5 = (wr.alloc (.cells zeroAct.toArray 34)).setCells wr.heap.size 0 vs := ⟨_, rfl⟩
          have hst := RA.out.st
          rw [List.toList_toArray] at hst
          rw [← hw5, ← hbb] at hst
          have H5 := Lib.hid hst.swap2
          have LD5 : Hid (∀ (ρ : Operand → Value) (o : Oper) (x : Tmp), o.op = .load 34 (.tmp x) → ρ (.tmp x) = .pointer (some ⟨wr.heap.size, 0, none⟩) → (execOp ρ o).run Try.prog ((wr.alloc (.cells zeroAct.toArray 34)).setCells wr.heap.size 0 vs) = .ok (.value (.agg vs.toArray)) ((wr.alloc (.cells zeroAct.toArray 34)).setCells wr.heap.size 0 vs)) := by
            intro ρ o x ho h0
            rw [← hw5]
            rw [← hbb] at h0
            exact load_actV ho RA.out.len (hst.rowV 0 rfl) (Below.refl _ _) ρ h0
          have c0 := (hst.cellV 0 rfl 0 (v := .int .u8 (a.kind.toNat : Int)) (by rw [RA.out.vs_]; rfl)).1
          obtain ⟨r, hr⟩ : ∃ r, r = a.kind.toNat % 5 := ⟨_, rfl⟩
          have hri : (a.kind.toNat : Int) % 5 = (r : Int) := by omega
          have hr5 : r < 5 := by omega
          have hkb : a.kind.toNat < 256 := a.kind.toNat_lt
          have HR := Lib.hid hr
          have FITS := Lib.hid RA.out.fits
          clear hst hr hact hat1 RA0 ha
          rw [hw5, hbb] at c0
          by_cases h2 : (1 : Int) < (r : Int)
          · go_wp2_with (first
              | (refine wpList_load_mid rfl 34 (.tmp 38) rfl b (o + i * 6) rfl vs _ RA.out.range Try.underlying34 rfl RA.out.info ?_)
              | (refine wpList_store_mid rfl 34 (.tmp 9) (.tmp 39) rfl wr.heap.size 0 vs.toArray rfl rfl RA.out.there RA.out.info2 RA.out.one ?_))
            rw [← hw5]
            clear hw5 c0
            go_wp2
            go_roundw
            case rel => exact ⟨i + 1, s, by omega, by go_num, H5.out.drop2, OK.out.more (by omega), LT.out⟩
            case measure => simp [intOf]; omega
          · have hk2 : a.kind.toNat % 5 ≤ 1 := by rw [← HR.out]; omega
            have q6 := ok_act OK.out a FITS.out.n
            have q7 := lit_act OK.out LT.out a hk2
            obtain ⟨s2, hs2⟩ : ∃ s2, s2 = (doAct s a).1 := ⟨_, rfl⟩
            obtain ⟨er, her⟩ : ∃ er, er = (doAct s a).2 := ⟨_, rfl⟩
            rw [← hs2] at q6 q7
            rw [← her] at q7
            obtain ⟨q7, q8⟩ := q7
            have OK2 := Lib.hid q6
            have LT2 := Lib.hid q7
            have CASE := Lib.hid q8
            have DO : Hid (Calls Try.prog 16 #[qtr p, .agg vs.toArray] w5 fun e w' => e = .returned (.int .i64 (er : Int)) ∧ Own.St w.heap.size w w' [K.A p s2, AVals bb 34 vs, AVals bg 52 (rowB (now s))]) := by
              rw [her, hs2, RA.out.vs_]
              have hwx' := H5.out
              rw [RA.out.vs_] at hwx'
              exact does_any K a hwx'.below hwx' OK.out (by omega) FITS.out
            have BY : Hid (∀ wx, Calls Try.prog 24 #[.agg vs.toArray] wx fun e w' => ∃ v, e = .returned v ∧ (tyG (bytesOf a)).holds v w' ∧ Below wx.heap.size wx w') := by
              intro wx
              rw [RA.out.vs_]
              exact bytes_ty a wx
            have VLEN : Hid (vs.length = 6) := RA.out.len
            have POSC : Hid (vs[1]? = some (.int .i64 a.pos)) := by rw [RA.out.vs_]; exact rfl
            have KINDC : Hid (vs[0]? = some (.int .u8 (a.kind.toNat : Int))) := by rw [RA.out.vs_]; exact rfl
            clear q6 q7 q8 hs2 her
            go_wp2_with (first
              | (refine wpList_load_mid rfl 34 (.tmp 38) rfl b (o + i * 6) rfl vs _ RA.out.range Try.underlying34 rfl RA.out.info ?_)
              | (refine wpList_store_mid rfl 34 (.tmp 9) (.tmp 39) rfl wr.heap.size 0 vs.toArray rfl rfl RA.out.there RA.out.info2 RA.out.one ?_)
              | (refine Byt.wpList_val rfl (LD5.out _ _ _ rfl rfl) ?_))
            rw [← hw5, ← hbb]
            clear hw5 hbb LD5 RA H c0
            refine DO.out.mono ?_
            rintro e w6 ⟨rfl, h6⟩
            have H6 := Lib.hid h6
            have c0 := (h6.cellV 1 rfl 0 KINDC.out).1
            have c1 := (h6.cellV 1 rfl 1 POSC.out).1
            clear h6 H5 DO hk2
            have NXT : Hid (∀ wx, (∀ j, j < 10 → now s2 j = now s j) → Own.St w.heap.size w wx [K.A p s2, AVals bb 34 vs, AVals bg 52 (rowB (now s))] → Own.St w.heap.size w wx [K.A p s2, AVals bg 52 (rowB (now s2))]) := by
              intro wx h h3
              rw [rowB_congr h]
              exact h3.drop2
            rcases CASE.out with ⟨he, hn⟩ | ⟨he, h1, hn⟩ | ⟨he, h0, pg, hp, hp10, hn⟩
            · have G := Lib.hid (NXT.out w6 (fun j _ => hn j) H6.out)
              subst he
              clear hn
              go_wp2
              go_roundw
              case rel => exact ⟨i + 1, s2, by omega, by go_num, G.out, OK2.out, LT2.out⟩
              case measure => simp [intOf]; omega
            · have G := Lib.hid (NXT.out w6 (fun j _ => hn j) H6.out)
              subst he
              have r1 : r = 1 := HR.out.trans h1
              have hri0 : (a.kind.toNat : Int) % 5 = 1 := by omega
              clear hn h1 hri
              go_wp2
              go_roundw
              case rel => exact ⟨i + 1, s2, by omega, by go_num, G.out, OK2.out, LT2.out⟩
              case measure => simp [intOf]; omega
            · subst he
              have r0 : r = 0 := HR.out.trans h0
              have hri0 : (a.kind.toNat : Int) % 5 = 0 := by omega
              rw [hp] at c1
              have hp0 : ¬ (pg : Int) < 0 := by omega
              have hp9 : ¬ (9 : Int) < (pg : Int) := by omega
              have HN := Lib.hid hn
              have C1 := Lib.hid (fun wx (hwx : Below w6.heap.size w6 wx) => cellLater c1 hwx)
              have BLK : Hid (w6.heap[bb]? = some (.cells vs.toArray 34 (0, 0))) := H6.out.rowV 1 rfl
              clear hn h0 hri hp
              go_wp2_with (fail)
              clear c0 c1
              refine wp_laxW_list 6 (by kernel_rfl) (by kernel_rfl) (by kernel_rfl) (by kernel_rfl) (by kernel_rfl) ?_
              simp only [List.take_succ_cons, List.take_zero, List.drop_succ_cons, List.drop_zero]
              refine wpL_run1 (x := .tmp 9) (.pointer (some ⟨bb, 0, none⟩)) (.pointer (some ⟨bb, 1, none⟩)) (by kernel_rfl) (by kernel_rfl) (by kernel_rfl) (by kernel_rfl) (by kernel_rfl) (fun wx ρ hwx h0 hc => by simp [go_sem, h0, hc]) ?_
              refine wpL_run1 (x := .tmp 69) (.pointer (some ⟨bb, 1, none⟩)) (.int .i64 (pg : Int)) (by kernel_rfl) (by kernel_rfl) (by kernel_rfl) (by kernel_rfl) (by kernel_rfl) (fun wx ρ hwx h0 hc => by simp [go_sem, h0, hc, C1.out wx hwx]) ?_
              refine wpL_run1 (x := .tmp 9) (.pointer (some ⟨bb, 0, none⟩)) (.agg vs.toArray) (by kernel_rfl) (by kernel_rfl) (by kernel_rfl) (by kernel_rfl) (by kernel_rfl) (fun wx ρ hwx h0 hc => load_actV rfl VLEN.out BLK.out hwx ρ h0) ?_
              refine wpL_fnT (tyG (bytesOf a)) [.agg vs.toArray] rfl rfl (by kernel_rfl) (by kernel_rfl) (by kernel_rfl) (by kernel_rfl) (fun _ _ => by simp [go_sem]) (fun wx hwx => BY.out wx) ?_
              refine wpL_conv (.string (strB (bytesOf a))) rfl rfl (by kernel_rfl) (by kernel_rfl) (fun u wx hwx hu => tyG_str hu) ?_
              refine wpL_run2 (x := .tmp 6) (y := .tmp 70) (.pointer (some ⟨bg, 0, none⟩)) (.int .i64 (pg : Int)) (.pointer (some ⟨bg, pg, none⟩)) (by kernel_rfl) (by kernel_rfl) (by kernel_rfl) (by kernel_rfl) (by kernel_rfl) (by kernel_rfl) (fun wx ρ hwx h0 h1 hc => idxB rfl hp10 bg ρ wx h0 h1) ?_
              refine wpL_end (by kernel_rfl) (fun w9 hw9 => ?_)
              simp only [FinL, setL, List.set_cons_zero, List.set_cons_succ]
              intro u _ _
              have G9 := H6.out.later hw9
              obtain ⟨cw, fw⟩ := G9.cellV 2 rfl pg (rowB_at (now s) hp10)
              have G10 : Hid (Own.St w.heap.size w (w9.setCell ⟨bg, pg, none⟩ (.string (strB (bytesOf a)))) [K.A p s2, AVals bg 52 (rowB (now s2))]) := by
                have h := G9.storeV 2 rfl pg (.string (strB (bytesOf a)))
                simp only [List.set_cons_succ, List.set_cons_zero] at h
                rw [rowB_set, ← rowB_congr (fun j _ => HN.out j)] at h
                exact h.drop2
              clear hw9 G9 H6 NXT
              go_wp2
              clear cw fw
              go_roundw
              case rel => exact ⟨i + 1, s2, by omega, by go_num, G10.out, OK2.out, LT2.out⟩
              case measure => simp [intOf]; omega
        · go_wp2
          go_loopw [76] (fun v wx => ∃ t : Nat, t ≤ 10 ∧ v = .int .i64 (t : Int) ∧ Own.St w.heap.size w wx [K.A p s, AVals bg 52 (rowB (now s))]) (fun v _ => 10 - (intOf v).toNat)
          case atStart => exact ⟨0, Nat.zero_le _, rfl, H.out⟩
          case round =>
            obtain ⟨t, ht, rfl, hG⟩ := hrel
            have G := Lib.hid hG
            clear hG H
            by_cases hti : (t : Int) < 10
            · have ht10 : t < 10 := by omega
              obtain ⟨x, hx⟩ : ∃ x, x = now s t := ⟨_, rfl⟩
              obtain ⟨n, hn⟩ : ∃ n, n = x.length := ⟨_, rfl⟩
              have RD : Hid (Calls Try.prog 21 #[qtr p, .int .i64 (t : Int)] wr fun e w' => ∃ ao cap, e = .returned (.tuple #[.slice ao n cap, .int .i64 0]) ∧ Own.St w.heap.size w w' [AB ao n cap x, K.A p s, AVals bg 52 (rowB (now s))]) := by
                have h := K.read (t : Int) G.out.below G.out OK.out (by omega) ⟨by omega, by omega⟩
                have e2 : BakM.read s (t : Int) = (x, 0) := by
                  unfold BakM.read
                  rw [if_neg (by unfold there; rw [LT.out.len]; simp; omega), if_neg (by rw [LT.out.off]; simp), hx]
                  rfl
                rw [e2] at h
                rw [hn]
                exact h
              go_wp2_with (fail)
              refine RD.out.mono ?_
              rintro e w8 ⟨ar, cr, rfl, h8⟩
              have G8 := Lib.hid h8
              have GB : Hid (Given w8 ar n cr x) := given_own h8 0 rfl
              have CJ : Hid (∀ wx, Below w8.heap.size w8 wx → wx.cell? ⟨bg, t, none⟩ = some (.string (strB x))) := by
                intro wx hwx
                rw [hx]
                exact ((G8.out.later hwx).cellV 2 rfl t (rowB_at (now s) ht10)).1
              clear h8 G RD hx hn
              go_wp2_with (fail)
              refine wp_lax_list (by kernel_rfl) (by kernel_rfl) (by kernel_rfl) ?_
              refine wpL_move (.int .i64 0) rfl (by kernel_rfl) (by kernel_rfl) (by kernel_rfl) (by kernel_rfl) ?_
              refine wpL_run1 (x := .tmp 85) (.int .i64 0) (.bool false) (by kernel_rfl) (by kernel_rfl) (by kernel_rfl) (by kernel_rfl) (by kernel_rfl) (fun wx ρ hwx h0 hc => by simp [go_sem, h0, hc]) ?_
              refine wpL_move (.bool false) rfl (by kernel_rfl) (by kernel_rfl) (by kernel_rfl) (by kernel_rfl) ?_
              refine wpL_move (.slice ar n cr) rfl (by kernel_rfl) (by kernel_rfl) (by kernel_rfl) (by kernel_rfl) ?_
              refine wpL_convK (.slice ar n cr) (.string (strB x)) rfl (by kernel_rfl) (by kernel_rfl) (by kernel_rfl) (by kernel_rfl) (fun wx hwx => given_str (GB.out.later hwx)) ?_
              refine wpL_move (.int .i64 (t : Int)) rfl (by kernel_rfl) (by kernel_rfl) (by kernel_rfl) (by kernel_rfl) ?_
              refine wpL_run2 (x := .tmp 6) (y := .tmp 90) (.pointer (some ⟨bg, 0, none⟩)) (.int .i64 (t : Int)) (.pointer (some ⟨bg, t, none⟩)) (by kernel_rfl) (by kernel_rfl) (by kernel_rfl) (by kernel_rfl) (by kernel_rfl) (by kernel_rfl) (fun wx ρ hwx h0 h1 hc => idxB rfl ht10 bg ρ wx h0 h1) ?_
              refine wpL_run1 (x := .tmp 91) (.pointer (some ⟨bg, t, none⟩)) (.string (strB x)) (by kernel_rfl) (by kernel_rfl) (by kernel_rfl) (by kernel_rfl) (by kernel_rfl) (fun wx ρ hwx h0 hc => load_st rfl (CJ.out wx hwx) h0) ?_
              refine wpL_run2 (x := .tmp 89) (y := .tmp 92) (.string (strB x)) (.string (strB x)) (.bool false) (by kernel_rfl) (by kernel_rfl) (by kernel_rfl) (by kernel_rfl) (by kernel_rfl) (by kernel_rfl) (fun wx ρ hwx h0 h1 hc => by simp [go_sem, h0, h1, hc]) ?_
              refine wpL_run2 (x := .tmp 87) (y := .tmp 93) (.bool false) (.bool false) (.bool false) (by kernel_rfl) (by kernel_rfl) (by kernel_rfl) (by kernel_rfl) (by kernel_rfl) (by kernel_rfl) (fun wx ρ hwx h0 h1 hc => by simp [go_sem, h0, h1, hc]) ?_
              refine wpL_end (by kernel_rfl) (fun w9 hw9 => ?_)
              simp only [FinL, setL, List.set_cons_zero, List.set_cons_succ]
              have G9 := Lib.hid ((G8.out.later hw9).drop 1)
              clear hw9 GB G8 CJ
              go_wp2
              go_roundw
              case rel => exact ⟨t + 1, by omega, by go_num, G9.out⟩
              case measure => simp [intOf]; omega
            · go_wp2
              go_ret
              exact ⟨rfl, G.out.below⟩
end Bak
end Go.Proofs.Ytkddeccgoamopaa
