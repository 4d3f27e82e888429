/- FlashWears: the walk. -/
import Derived.Test.YtepllhfofhehaaaLawFlaC
import Derived.Test.YtepllhfofhehaaaFlaE
namespace Go.Proofs.Ytepllhfofhehaaa
open Go.RowKit Go.Own
namespace Fla
open Go.FlaM Byt

theorem idx4 {o : Oper} {x y : Tmp} (ho : o.op = .indexAddr 59 (.tmp x) (.tmp y)) {k : Nat} (hk : k < 4) (b : Nat) (ρ : Operand → Value) (w : World) (h0 : ρ (.tmp x) = .pointer (some ⟨b, 0, none⟩)) (h1 : ρ (.tmp y) = .int .i64 (k : Int)) : (execOp ρ o).run Try.prog w = .ok (.value (.pointer (some ⟨b, k, none⟩))) w := by
  have hk' : (k : Int) < 4 := by omega
  simp [execOp, ho, h0, h1, go_sem, hk, hk']
theorem load_i {o : Oper} {x : Tmp} (ho : o.op = .load 3 (.tmp x)) {ad : Addr} {v : Int} {w : World} (hc : w.cell? ad = some (.int .i64 v)) {ρ : Operand → Value} (h0 : ρ (.tmp x) = .pointer (some ad)) : (execOp ρ o).run Try.prog w = .ok (.value (.int .i64 v)) w := by
  simp [execOp, ho, h0, go_sem, hc]

set_option maxRecDepth 4000 in
set_option maxHeartbeats 8000000 in
theorem walk_wears (a0 : Option Addr) (len0 cap0 : Nat) (l : List ActD) {w : World} (w0 : inSlice 7 inAct l w.heap.size w [.slice a0 len0 cap0]) (K : Kept w) :
    Calls Try.prog 9 #[.slice a0 len0 cap0] w (RetYes w) := by
  obtain ⟨hlen, hcap, hmax, _, hat⟩ := acts_in w0
  have SH := Lib.hid (shown_any K (Below.refl _ _))
  have HF := Lib.hid (few_any w0)
  have HAT := Lib.hid hat
  have HLEN := Lib.hid hlen
  have hmax2 : cap0 ≤ 9223372036854775807 := by unfold maxLen at hmax; omega
  have PG : Hid (∀ wx, Calls Try.prog 19 #[.int .u8 255] wx fun e w' => ∃ v, e = .returned v ∧ (tyG FlaM.blank).holds v w' ∧ Below wx.heap.size wx w') := fun wx => page_ty 255 wx
  clear hat hlen w0 hmax
  go_enter Try.func9, Try.ntmps9
  go_wp2_with (fail)
  refine SH.out.mono ?_
  rintro e w1 ⟨rfl, h1⟩
  have H1 := Lib.hid ((Own.St.start w).later h1)
  clear h1
  go_wp2_with (fail)
  refine (new44 K w1 H1.out).mono ?_
  rintro e w2 ⟨p, rfl, h2⟩
  have H2 := Lib.hid h2
  obtain ⟨bw, hbw⟩ : ∃ b, b = w2.heap.size := ⟨_, rfl⟩
  have hbx := (h2.boxV 59 ((fresh 4 4).wear.map natV)).swap2
  obtain ⟨w3, hw3⟩ : ∃ w3, w3 = w2.alloc (.cells ((fresh 4 4).wear.map natV).toArray 59) := ⟨_, rfl⟩
  rw [← hw3, ← hbw] at hbx
  have H3 := Lib.hid hbx
  clear h2 H1 hbx
  go_wp2_with (fail)
  change Calls Try.prog 14 _ (w2.alloc (.cells ((fresh 4 4).wear.map natV).toArray 59)) _
  rw [← hw3, ← hbw]
  clear hw3 hbw H2
  refine (HF.out w3 H3.out.below).mono ?_
  rintro e w4 ⟨k, hk1, hk2, hk3, rfl, rfl⟩
  have HK3 := Lib.hid hk3
  clear hk3
  have O0 := Lib.hid ok44
  have Z0 : Hid (Size (fresh 4 4) 4 4) := ⟨rfl, rfl⟩
  go_wp2
  go_loopw [27] (fun v wr => ∃ (i : Nat) (s : FS), i ≤ k ∧ v = .int .i64 (i : Int) ∧ Own.St w.heap.size w wr [K.A p s, AVals bw 59 (s.wear.map natV)] ∧ Ok s i ∧ Size s 4 4) (fun v _ => k - (intOf v).toNat)
  case atStart => exact ⟨0, _, Nat.zero_le _, rfl, H3.out, O0.out, Z0.out⟩
  case round =>
    obtain ⟨i, s, hik, rfl, hH, hok, hsz⟩ := hrel
    have H := Lib.hid hH
    have OK := Lib.hid hok
    have SZ := Lib.hid hsz
    clear hH hok hsz H3 O0 Z0
    by_cases hi : (i : Int) < (k : Int)
    · have hil : i < l.length := by rw [← HLEN.out]; omega
      obtain ⟨b, o, rfl, hb, hact⟩ := HAT.out (by intro e; rw [e] at hil; simp at hil)
      obtain ⟨a, ha⟩ : ∃ a, a = l[i] := ⟨_, rfl⟩
      have hat1 := hact wr (fun k hk => H.out.below.block k hk) H.out.below.size i hil
      rw [← ha] at hat1
      have hbl : a.b.length ≤ 10000 := by rw [ha]; exact HK3.out i hil (by omega)
      obtain ⟨ab, af, cb, cf, vs, RA0⟩ := round_act H.out hat1
      have RA := Lib.hid RA0
      obtain ⟨bb, hbb⟩ : ∃ bb, bb = wr.heap.size := ⟨_, rfl⟩
      obtain ⟨w5, hw5⟩ : ∃ w5, w5 = (wr.alloc (.cells zeroAct.toArray 35)).setCells wr.heap.size 0 vs := ⟨_, rfl⟩
      have hst := RA.out.st
      rw [List.toList_toArray] at hst
      rw [← hw5, ← hbb] at hst
      have H5 := Lib.hid hst.swap2
      have hsz5 : wr.heap.size ≤ w5.heap.size := by
        have := lt_of_block (hst.rowV 0 rfl)
        omega
      have LD5 : Hid (∀ (ρ : Operand → Value) (o : Oper) (x : Tmp), o.op = .load 35 (.tmp x) → ρ (.tmp x) = .pointer (some ⟨wr.heap.size, 0, none⟩) → (execOp ρ o).run Try.prog ((wr.alloc (.cells zeroAct.toArray 35)).setCells wr.heap.size 0 vs) = .ok (.value (.agg vs.toArray)) ((wr.alloc (.cells zeroAct.toArray 35)).setCells wr.heap.size 0 vs)) := by
        intro ρ o x ho h0
        rw [← hw5]
        rw [← hbb] at h0
        exact load_actV ho RA.out.len (hst.rowV 0 rfl) (Below.refl _ _) ρ h0
      obtain ⟨r, hr⟩ : ∃ r, r = a.kind.toNat % 6 := ⟨_, rfl⟩
      have hri : (a.kind.toNat : Int) % 6 = (r : Int) := by omega
      have hr6 : r < 6 := by omega
      have hkb : a.kind.toNat < 256 := a.kind.toNat_lt
      have HR := Lib.hid hr
      have HIN := Lib.hid (RA.out.inn w5 hst.below hst.size)
      obtain ⟨i1, _, _, _, _, _, _, _, i9, _, i11⟩ := actIn_of HIN.out
      have SEG := Lib.hid i9
      have NB := Lib.hid i11
      have q6 := ok_act OK.out a NB.out
      have q7 := size_act OK.out SZ.out a
      obtain ⟨s2, hs2⟩ : ∃ s2, s2 = (doAct s a).1 := ⟨_, rfl⟩
      obtain ⟨er, her⟩ : ∃ er, er = (doAct s a).2 := ⟨_, rfl⟩
      rw [← hs2] at q6 q7
      have OK2 := Lib.hid q6
      have SZ2 := Lib.hid q7
      have hNb : s.n ≤ 1000 := by have := OK.out.n; omega
      have DO : Hid (Calls Try.prog 20 #[ptr p, .agg vs.toArray] w5 fun e w' => e = .returned (.int .i64 (er : Int)) ∧ Own.St w.heap.size w w' [K.A p s2, AVals bb 35 vs, AVals bw 59 (s.wear.map natV)]) := by
        rw [her, hs2, RA.out.vs_]
        have hwx' := H5.out
        rw [RA.out.vs_] at hwx'
        exact does_any K a ab af cb cf hwx'.below hwx' OK.out (by omega) hbl HIN.out
      have SEGC : Hid (vs[1]? = some (.int .i64 a.seg)) := by rw [RA.out.vs_]; exact rfl
      have KINDC : Hid (vs[0]? = some (.int .u8 (a.kind.toNat : Int))) := by rw [RA.out.vs_]; exact rfl
      have HS2 := Lib.hid hs2
      have HER := Lib.hid her
      clear hst hr hact hat1 RA0 ha i1 i9 i11 q6 q7 hs2 her NB
      go_wp2_with (first
        | (refine wpList_load_mid rfl 35 (.tmp 29) rfl b (o + i * 7) rfl vs _ RA.out.range Try.underlying35 rfl RA.out.info ?_)
        | (refine wpList_store_mid rfl 35 (.tmp 8) (.tmp 30) rfl wr.heap.size 0 vs.toArray rfl rfl RA.out.there RA.out.info2 RA.out.one ?_)
        | (refine Byt.wpList_val rfl (LD5.out _ _ _ rfl rfl) ?_))
      rw [← hw5, ← hbb]
      clear hw5 hbb LD5 RA H
      refine DO.out.mono ?_
      rintro e w6 ⟨rfl, h6⟩
      have H6 := Lib.hid h6
      have c0 := (H6.out.cellV 1 rfl 0 KINDC.out).1
      have c1 := (H6.out.cellV 1 rfl 1 SEGC.out).1
      clear h6 H5 DO hsz5
      by_cases hskip : er = 0 ∧ r = 1
      · obtain ⟨he, hr1⟩ := hskip
        have hda : doAct s a = erase s a.seg := by
          unfold doAct
          rw [← HR.out, hr1]
          rfl
        obtain ⟨j, hsg, hj4, hbump, hread⟩ := erase_ok SZ.out a.seg (by rw [← hda, ← HER.out]; exact he)
        rw [← hda, ← HS2.out] at hbump hread
        have HRD := Lib.hid hread
        have hwl : s.wear.length = 4 := by rw [OK.out.wear, SZ.out.1]
        obtain ⟨x, hx⟩ : ∃ x, x = s.wear.getD j 0 := ⟨_, rfl⟩
        have hxb : x ≤ 1000 := by rw [hx]; exact Nat.le_trans (OK.out.worn j) hNb
        obtain ⟨cw, fw⟩ := H6.out.cellV 2 rfl j (v := .int .i64 (x : Int)) (by rw [List.getElem?_map, List.getElem?_eq_getElem (by omega)]; simp [natV, hx, List.getD, hwl, hj4])
        have hj4i : (j : Int) < 4 := by omega
        have H8 : Hid (Own.St w.heap.size w (w6.setCell ⟨bw, j, none⟩ (.int .i64 ((x : Int) + 1))) [K.A p s2, AVals bb 35 vs, AVals bw 59 (s2.wear.map natV)]) := by
          have h := H6.out.storeV 2 rfl j (natV (x + 1))
          have e1 : (s.wear.map natV).set j (natV (x + 1)) = s2.wear.map natV := by rw [hbump, hx]; unfold bump; rw [List.map_set]
          have e2 : natV (x + 1) = .int .i64 ((x : Int) + 1) := by unfold natV; simp
          simp only [List.set_cons_succ, List.set_cons_zero] at h
          rw [e1, e2] at h
          exact h
        clear hda hbump hread hx
        go_wp2
        clear cw fw c0 c1
        go_loopw [55] (fun v wx => ∃ t : Nat, t ≤ 4 ∧ v = .int .i64 (t : Int) ∧ Own.St w.heap.size w wx [K.A p s2, AVals bb 35 vs, AVals bw 59 (s2.wear.map natV)]) (fun v _ => 4 - (intOf v).toNat)
        case atStart => exact ⟨0, Nat.zero_le _, rfl, H8.out⟩
        case round =>
          obtain ⟨t, ht4, rfl, hG⟩ := hrel
          have G := Lib.hid hG
          clear hG H8 H6
          by_cases ht : (t : Int) < 4
          · have c1 := (G.out.cellV 1 rfl 1 SEGC.out).1
            have RD : Hid (Calls Try.prog 23 #[ptr p, .int .i64 (j : Int), .int .i64 (t : Int)] wr fun e w' => ∃ ao cap, e = .returned (.tuple #[.slice ao 128 cap, .int .i64 0]) ∧ Own.St w.heap.size w w' [AB ao 128 cap FlaM.blank, K.A p s2, AVals bb 35 vs, AVals bw 59 (s2.wear.map natV)]) := by
              have h := K.read (j : Int) (t : Int) G.out.below G.out OK2.out (by omega) ⟨by omega, by omega⟩ ⟨by omega, by omega⟩
              have er2 := HRD.out t (by omega)
              rw [hsg] at er2
              rw [er2] at h
              exact h
            go_wp2_with (fail)
            refine RD.out.mono ?_
            rintro e w8 ⟨ar, cr, rfl, h8⟩
            have G8 := Lib.hid h8
            have GB : Hid (Given w8 ar 128 cr FlaM.blank) := given_own h8 0 rfl
            clear h8 G RD c1
            go_wp2_with (fail)
            refine wp_lax_list (by kernel_rfl) (by kernel_rfl) (by kernel_rfl) ?_
            refine wpL_move (.int .i64 0) rfl (by kernel_rfl) (by kernel_rfl) (by kernel_rfl) (by kernel_rfl) ?_
            refine wpL_run1 (x := .tmp 66) (.int .i64 0) (.bool false) (by kernel_rfl) (by kernel_rfl) (by kernel_rfl) (by kernel_rfl) (by kernel_rfl) (fun wx ρ hwx h0 hc => by simp [go_sem, h0, hc]) ?_
            refine wpL_move (.bool false) rfl (by kernel_rfl) (by kernel_rfl) (by kernel_rfl) (by kernel_rfl) ?_
            refine wpL_move (.slice ar 128 cr) rfl (by kernel_rfl) (by kernel_rfl) (by kernel_rfl) (by kernel_rfl) ?_
            refine wpL_convK (.slice ar 128 cr) (.string (strB FlaM.blank)) rfl (by kernel_rfl) (by kernel_rfl) (by kernel_rfl) (by kernel_rfl) (fun wx hwx => given_str (GB.out.later hwx)) ?_
            refine wpL_fnT (tyG FlaM.blank) [.int .u8 255] rfl rfl (by kernel_rfl) (by kernel_rfl) (by kernel_rfl) (by kernel_rfl) (fun _ _ => by simp [go_sem]) (fun wx hwx => PG.out wx) ?_
            refine wpL_conv (.string (strB FlaM.blank)) rfl rfl (by kernel_rfl) (by kernel_rfl) (fun u wx hwx hu => tyG_str hu) ?_
            refine wpL_run2 (x := .tmp 70) (y := .tmp 72) (.string (strB FlaM.blank)) (.string (strB FlaM.blank)) (.bool false) (by kernel_rfl) (by kernel_rfl) (by kernel_rfl) (by kernel_rfl) (by kernel_rfl) (by kernel_rfl) (fun wx ρ hwx h0 h1 hc => by simp [go_sem, h0, h1, hc]) ?_
            refine wpL_run2 (x := .tmp 68) (y := .tmp 73) (.bool false) (.bool false) (.bool false) (by kernel_rfl) (by kernel_rfl) (by kernel_rfl) (by kernel_rfl) (by kernel_rfl) (by kernel_rfl) (fun wx ρ hwx h0 h1 hc => by simp [go_sem, h0, h1]) ?_
            refine wpL_end (by kernel_rfl) (fun w9 hw9 => ?_)
            simp only [FinL, setL, List.set_cons_zero, List.set_cons_succ]
            intro u _
            have G9 := Lib.hid ((G8.out.later hw9).drop 1)
            clear hw9 GB G8
            go_wp2
            go_roundw
            case rel => exact ⟨t + 1, by omega, by go_num, G9.out⟩
            case measure => simp [intOf]; omega
          · have G9 := Lib.hid G.out.drop2
            clear G
            go_wp2
            go_roundw
            case rel => exact ⟨i + 1, s2, by omega, by go_num, G9.out, OK2.out, SZ2.out⟩
            case measure => simp [intOf]; omega
      · have hwe : Hid (s2.wear = s.wear) := by
          show s2.wear = s.wear
          rw [HS2.out]
          exact wear_act s a (fun hh => hskip ⟨HER.out.trans hh.2, HR.out.trans hh.1⟩)
        have H7 : Hid (Own.St w.heap.size w w6 [K.A p s2, AVals bw 59 (s2.wear.map natV)]) := by
          rw [hwe.out]; exact H6.out.drop2
        by_cases he : er = 0
        · have hr1 : ¬ r = 1 := fun h => hskip ⟨he, h⟩
          clear hskip
          go_wp2
          go_roundw
          case rel => exact ⟨i + 1, s2, by omega, by go_num, H7.out, OK2.out, SZ2.out⟩
          case measure => simp [intOf]; omega
        · clear hskip
          go_wp2
          go_roundw
          case rel => exact ⟨i + 1, s2, by omega, by go_num, H7.out, OK2.out, SZ2.out⟩
          case measure => simp [intOf]; omega
    · have hwl : s.wear.length = 4 := by rw [OK.out.wear, SZ.out.1]
      have HWL := Lib.hid hwl
      clear hwl
      go_wp2
      go_loopw [77] (fun v wx => ∃ j : Nat, j ≤ 4 ∧ v = .int .i64 (j : Int) ∧ Own.St w.heap.size w wx [K.A p s, AVals bw 59 (s.wear.map natV)]) (fun v _ => 4 - (intOf v).toNat)
      case atStart => exact ⟨0, Nat.zero_le _, rfl, H.out⟩
      case round =>
        obtain ⟨j, hj, rfl, hG⟩ := hrel
        have G := Lib.hid hG
        clear hG H
        by_cases hji : (j : Int) < 4
        · have hj4 : j < 4 := by omega
          obtain ⟨v, hv⟩ : ∃ v, v = s.wear.getD j 0 := ⟨_, rfl⟩
          have CW : Hid (∀ wx, Below wr.heap.size wr wx → Calls Try.prog 28 #[ptr p, .int .i64 (j : Int)] wx fun e w' => e = .returned (errV v) ∧ Below wx.heap.size wx w') := fun wx hwx => by
            have h := K.wear (j : Int) (G.out.later hwx).below (G.out.later hwx) OK.out (by omega) ⟨by omega, by omega⟩
            rw [wearOf_nat, ← hv] at h
            exact h
          have CJ : Hid (∀ wx, Below wr.heap.size wr wx → wx.cell? ⟨bw, j, none⟩ = some (.int .i64 (v : Int))) := fun wx hwx => ((G.out.later hwx).cellV 1 rfl j (by rw [List.getElem?_map, List.getElem?_eq_getElem (by rw [HWL.out]; exact hj4)]; simp [natV, hv, List.getD, HWL.out, hj4])).1
          clear hv
          go_wp2_with (fail)
          refine wp_lax_list (by kernel_rfl) (by kernel_rfl) (by kernel_rfl) ?_
          refine wpL_move (ptr p) rfl (by kernel_rfl) (by kernel_rfl) (by kernel_rfl) (by kernel_rfl) ?_
          refine wpL_move (.int .i64 (j : Int)) rfl (by kernel_rfl) (by kernel_rfl) (by kernel_rfl) (by kernel_rfl) ?_
          refine wpL_fn (errV v) [ptr p, .int .i64 (j : Int)] rfl (by kernel_rfl) (by kernel_rfl) (by kernel_rfl) (by kernel_rfl) (fun _ _ => by simp [go_sem]) (fun wx hwx => CW.out wx hwx) ?_
          refine wpL_move (.int .i64 (j : Int)) rfl (by kernel_rfl) (by kernel_rfl) (by kernel_rfl) (by kernel_rfl) ?_
          refine wpL_run2 (x := .tmp 6) (y := .tmp 83) (.pointer (some ⟨bw, 0, none⟩)) (.int .i64 (j : Int)) (.pointer (some ⟨bw, j, none⟩)) (by kernel_rfl) (by kernel_rfl) (by kernel_rfl) (by kernel_rfl) (by kernel_rfl) (by kernel_rfl) (fun wx ρ hwx h0 h1 hc => idx4 rfl hj4 bw ρ wx h0 h1) ?_
          refine wpL_run1 (x := .tmp 84) (.pointer (some ⟨bw, j, none⟩)) (errV v) (by kernel_rfl) (by kernel_rfl) (by kernel_rfl) (by kernel_rfl) (by kernel_rfl) (fun wx ρ hwx h0 hc => load_i rfl (CJ.out wx hwx) h0) ?_
          refine wpL_run2 (x := .tmp 82) (y := .tmp 85) (errV v) (errV v) (.bool false) (by kernel_rfl) (by kernel_rfl) (by kernel_rfl) (by kernel_rfl) (by kernel_rfl) (by kernel_rfl) (fun wx ρ hwx h0 h1 hc => by simp [go_sem, h0, h1, hc]) ?_
          refine wpL_end (by kernel_rfl) (fun w9 hw9 => ?_)
          simp only [FinL, setL, List.set_cons_zero, List.set_cons_succ]
          have G9 := Lib.hid (G.out.later hw9)
          clear hw9 CW CJ G
          go_wp2
          go_roundw
          case rel => exact ⟨j + 1, by omega, by go_num, G9.out⟩
          case measure => simp [intOf]; omega
        · go_wp2
          go_ret
          exact ⟨rfl, G.out.below⟩
end Fla
end Go.Proofs.Ytepllhfofhehaaa
