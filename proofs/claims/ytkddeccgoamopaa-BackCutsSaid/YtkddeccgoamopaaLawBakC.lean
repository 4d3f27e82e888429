/- BackCuts: the walk. -/
import Derived.Test.YtkddeccgoamopaaBakC
namespace Go.Proofs.Ytkddeccgoamopaa
open Go.RowKit Go.Own
namespace Bak
open Go.BakM Byt

abbrev safeB (s : DS) : Nat → Bs := fun i => s.safe.getD i []
theorem tab_info (g : Nat → Bs) : (Try.prog.info? 52).map (·.size) = some (rowB g).length := by rw [rowB_len]; kernel_rfl
theorem tab_one (g : Nat → Bs) : (rowB g).toArray.all (·.oneCell') = true := all_oneCell_toArray (fun v hv => by obtain ⟨t, _, rfl⟩ := List.mem_map.1 hv; rfl)

set_option maxRecDepth 6000 in
set_option maxHeartbeats 16000000 in
theorem walk_cuts (a0 : Option Addr) (len0 cap0 : Nat) (l : List ActD) (n0 : Int) (wn : (Lit.int .u8 n0).wf = true) {w : World} (w0 : inSlice 6 inAct l w.heap.size w [.slice a0 len0 cap0]) (K : Kept w) :
    Calls Try.prog 5 #[.slice a0 len0 cap0, .int .u8 n0] w (RetYes w) := by
  obtain ⟨nc, rfl⟩ := u8_byte wn
  obtain ⟨n, hn⟩ : ∃ n, n = nc.toNat := ⟨_, rfl⟩
  have hnb : n < 256 := by rw [hn]; exact nc.toNat_lt
  rw [← hn]
  obtain ⟨hlen, hcap, hmax, _, hat⟩ := acts_in w0
  have SH := Lib.hid (shown_any K (Below.refl _ _))
  have HF := Lib.hid (few_any a0 len0 cap0 hcap hmax)
  have HAT := Lib.hid hat
  have HLEN := Lib.hid hlen
  have hmax2 : cap0 ≤ 9223372036854775807 := by unfold maxLen at hmax; omega
  clear hat hlen w0 hmax hn
  go_enter Try.func5, Try.ntmps5
  go_wp2_with (fail)
  refine SH.out.mono ?_
  rintro e w1 ⟨rfl, h1⟩
  have H1 := Lib.hid ((Own.St.start w).later h1)
  clear h1
  go_wp2_with (fail)
  refine (new10 K H1.out.below H1.out).mono ?_
  rintro e w2 ⟨p, rfl, h2⟩
  obtain ⟨s0, hs0⟩ : ∃ s0, s0 = cut (fresh 10) (n : Int) := ⟨_, rfl⟩
  have CU : Hid (Calls Try.prog 23 #[qtr p, .int .i64 (n : Int)] w2 fun e w' => e = .returned (.tuple #[]) ∧ Own.St w.heap.size w w' [K.A p s0]) := by
    rw [hs0]
    exact K.cut (n : Int) h2.below h2 ok10 (by decide) ⟨by omega, by omega⟩
  have O0 : Hid (Ok s0 0) := by show Ok s0 0; rw [hs0]; exact ok_cut ok10 _ (by omega)
  have C0 : Hid (CutI s0 n) := by show CutI s0 n; rw [hs0]; exact cuti_fresh n
  have N0 : Hid (now (fresh 10) = safeB s0 ∧ safeB s0 = now s0) := by show _ ∧ _; rw [hs0]; exact ⟨rfl, rfl⟩
  clear h2 H1 hs0
  go_wp2_with (fail)
  refine CU.out.mono ?_
  rintro e w3 ⟨rfl, h3⟩
  obtain ⟨bs, hbs⟩ : ∃ b, b = w3.heap.size := ⟨_, rfl⟩
  have H3 : Hid (Own.St w.heap.size w (w3.alloc (.cells (List.replicate 10 (Value.string (strB []))).toArray 52)) [K.A p s0, AVals bs 52 (rowB (fillB 0))]) := by
    have h := (h3.boxV 52 (rowB (fillB 0))).swap2
    rw [← hbs] at h
    exact h
  clear h3 CU
  go_wp2
  rw [← hbs]
  clear hbs
  go_loopw [33] (fun v wr => ∃ i : Nat, i ≤ 10 ∧ v = .int .i64 (i : Int) ∧ Own.St w.heap.size w wr [K.A p s0, AVals bs 52 (rowB (fillB i))]) (fun v _ => 10 - (intOf v).toNat)
  case atStart => exact ⟨0, Nat.zero_le _, rfl, H3.out⟩
  case round =>
    obtain ⟨i, hi10', rfl, hH⟩ := hrel
    have H := Lib.hid hH
    clear hH H3
    by_cases hi : (i : Int) < 10
    · have hi10 : i < 10 := by omega
      obtain ⟨bl, hbl⟩ : ∃ bl, bl = BakM.blank := ⟨_, rfl⟩
      go_wp2_with (fail)
      refine (block_any 0 H.out).mono ?_
      rintro e w5 ⟨g, rfl, h5⟩
      have H5 := Lib.hid h5
      have hcv : (convert 38 9 (.slice (some ⟨g, 0, none⟩) 256 256)).run Try.prog w5 = .ok (.string (strB bl)) w5 := by rw [hbl]; exact ab_str H5.out 0 rfl
      obtain ⟨cw, fw⟩ := H5.out.cellV 2 rfl i (rowB_at (fillB i) hi10)
      have G10 : Hid (Own.St w.heap.size w (w5.setCell ⟨bs, i, none⟩ (.string (strB bl))) [K.A p s0, AVals bs 52 (rowB (fillB (i + 1)))]) := by
        have h := H5.out.storeV 2 rfl i (.string (strB bl))
        simp only [List.set_cons_succ, List.set_cons_zero] at h
        rw [hbl, rowB_set, fillB_next] at h
        rw [hbl]
        exact h.drop 1
      clear h5 H5 H hbl
      go_wp2
      clear hcv cw fw
      go_roundw
      case rel => exact ⟨i + 1, by omega, by go_num, G10.out⟩
      case measure => simp [intOf]; omega
    · have H4 : Hid (Own.St w.heap.size w wr [K.A p s0, AVals bs 52 (rowB (now s0))]) := by
        have h := H.out
        have e : i = 10 := by omega
        rw [e, fillB_all, N0.out.1, N0.out.2] at h
        exact h
      obtain ⟨bn, hbn⟩ : ∃ b, b = wr.heap.size := ⟨_, rfl⟩
      obtain ⟨vt, hvt⟩ : ∃ vt, vt = rowB (now s0) := ⟨_, rfl⟩
      have hb2 := H4.out.boxV 52 (rowB (fillB 0))
      obtain ⟨r1, r2, r3⟩ := copy_tab hb2 2 rfl 0 rfl (by rw [rowB_len, rowB_len])
      have RG : Hid (wr.rangeAt bs 0 vt) := by
        rw [hvt]
        intro k v hv
        rw [Nat.zero_add]
        exact (H4.out.cellV 1 rfl k hv).1
      have TH : Hid ((wr.alloc (.cells #[Value.string ⟨#[]⟩, Value.string ⟨#[]⟩, Value.string ⟨#[]⟩, Value.string ⟨#[]⟩, Value.string ⟨#[]⟩, Value.string ⟨#[]⟩, Value.string ⟨#[]⟩, Value.string ⟨#[]⟩, Value.string ⟨#[]⟩, Value.string ⟨#[]⟩] 52)).there wr.heap.size 0 vt.toArray.size) := by rw [hvt]; exact r2
      have INF : Hid ((Try.prog.info? 52).map (·.size) = some vt.length) := by show _ = _; rw [hvt]; exact tab_info _
      have INF2 : Hid ((Try.prog.info? 52).map (·.size) = some vt.toArray.size) := by show _ = _; rw [hvt]; exact tab_info _
      have ONE : Hid (vt.toArray.all (·.oneCell') = true) := by show _ = _; rw [hvt]; exact tab_one _
      obtain ⟨w5, hw5⟩ : ∃ w5, w5 = (wr.alloc (.cells #[Value.string ⟨#[]⟩, Value.string ⟨#[]⟩, Value.string ⟨#[]⟩, Value.string ⟨#[]⟩, Value.string ⟨#[]⟩, Value.string ⟨#[]⟩, Value.string ⟨#[]⟩, Value.string ⟨#[]⟩, Value.string ⟨#[]⟩, Value.string ⟨#[]⟩] 52)).setCells wr.heap.size 0 vt := ⟨_, rfl⟩
      have H5 : Hid (Own.St w.heap.size w w5 [K.A p s0, AVals bs 52 (rowB (safeB s0)), AVals bn 52 (rowB (now s0))]) := by
        show Own.St _ _ _ _
        rw [hw5, hvt, N0.out.2, hbn]
        simp only [List.set_cons_zero] at r3
        exact Own.St.back (Ps := [K.A p s0, AVals bs 52 (rowB (now s0)), AVals wr.heap.size 52 (rowB (now s0))]) (Q := AVals wr.heap.size 52 (rowB (now s0))) 2 (by simp) r3
      clear H hb2 r1 r2 r3 hvt H4 N0
      go_wp2_with (first
        | (refine wpList_load_mid rfl 52 (.tmp 8) rfl bs 0 rfl vt _ RG.out Try.underlying52 rfl INF.out ?_)
        | (refine wpList_store_mid rfl 52 (.tmp 10) (.tmp 41) rfl wr.heap.size 0 vt.toArray rfl rfl TH.out INF2.out ONE.out ?_))
      rw [← hw5, ← hbn]
      clear hw5 hbn RG TH INF INF2 ONE
      refine (HF.out w5).mono ?_
      rintro e w4 ⟨rfl, rfl⟩
      obtain ⟨m, hm⟩ : ∃ m, m = min len0 100 := ⟨_, rfl⟩
      rw [← hm]
      have hm1 : m ≤ len0 := by omega
      have hm2 : m ≤ 100 := by omega
      clear hm
      go_wp2
      go_loopw [45] (fun v wr => ∃ (i : Nat) (s : DS), i ≤ m ∧ v = .int .i64 (i : Int) ∧ Own.St w.heap.size w wr [K.A p s, AVals bs 52 (rowB (safeB s)), AVals bn 52 (rowB (now s))] ∧ Ok s i ∧ CutI s n) (fun v _ => m - (intOf v).toNat)
      case atStart => exact ⟨0, s0, Nat.zero_le _, rfl, H5.out, O0.out, C0.out⟩
      case round =>
        obtain ⟨i, s, him, rfl, hH, hok, hci⟩ := hrel
        have H := Lib.hid hH
        have OK := Lib.hid hok
        have CI := Lib.hid hci
        clear hH hok hci H5 O0 C0
        by_cases hi : (i : Int) < (m : Int)
        · have hil : i < l.length := by rw [← HLEN.out]; omega
          obtain ⟨b, o, rfl, hb, hact⟩ := HAT.out (by intro e; rw [e] at hil; simp at hil)
          obtain ⟨a, ha⟩ : ∃ a, a = l[i] := ⟨_, rfl⟩
          have hat1 := hact wr (fun k hk => H.out.below.block k hk) i hil
          rw [← ha] at hat1
          obtain ⟨vs, RA0⟩ := round_act H.out hat1
          have RA := Lib.hid RA0
          obtain ⟨bb, hbb⟩ : ∃ bb, bb = wr.heap.size := ⟨_, rfl⟩
          obtain ⟨w5, hw5⟩ : ∃ w5, w5 = (wr.alloc (.cells zeroAct.toArray 34)).setCells wr.heap.size 0 vs := ⟨_, rfl⟩
          have hst := RA.out.st
          rw [List.toList_toArray] at hst
          rw [← hw5, ← hbb] at hst
          have H5 := Lib.hid hst.swap2
          have LD := Lib.hid (fun wx (hwx : Below w5.heap.size w5 wx) (ρ : Operand → Value) (o : Oper) (x : Tmp) (ho : o.op = .load 34 (.tmp x)) (h0 : ρ (.tmp x) = .pointer (some ⟨bb, 0, none⟩)) => load_actV ho RA.out.len (hst.rowV 0 rfl) hwx ρ h0)
          have c0 := (hst.cellV 0 rfl 0 (v := .int .u8 (a.kind.toNat : Int)) (by rw [RA.out.vs_]; rfl)).1
          obtain ⟨r, hr⟩ : ∃ r, r = a.kind.toNat % 5 := ⟨_, rfl⟩
          have hri : (a.kind.toNat : Int) % 5 = (r : Int) := by omega
          have hr5 : r < 5 := by omega
          have hkb : a.kind.toNat < 256 := a.kind.toNat_lt
          have HR := Lib.hid hr
          have FITS := Lib.hid RA.out.fits
          clear hst hr hact hat1 RA0 ha
          rw [hw5, hbb] at c0
          by_cases h2 : (1 : Int) < (r : Int)
          · go_wp2_with (first
              | (refine wpList_load_mid rfl 34 (.tmp 47) rfl b (o + i * 6) rfl vs _ RA.out.range Try.underlying34 rfl RA.out.info ?_)
              | (refine wpList_store_mid rfl 34 (.tmp 12) (.tmp 48) rfl wr.heap.size 0 vs.toArray rfl rfl RA.out.there RA.out.info2 RA.out.one ?_))
            rw [← hw5]
            clear hw5 c0
            go_wp2
            go_roundw
            case rel => exact ⟨i + 1, s, by omega, by go_num, H5.out.drop2, OK.out.more (by omega), CI.out⟩
            case measure => simp [intOf]; omega
          · have hk2 : a.kind.toNat % 5 ≤ 1 := by rw [← HR.out]; omega
            have q6 := ok_act OK.out a FITS.out.n
            have q7 := cut_act OK.out CI.out a hk2
            obtain ⟨s2, hs2⟩ : ∃ s2, s2 = (doAct s a).1 := ⟨_, rfl⟩
            obtain ⟨er, her⟩ : ∃ er, er = (doAct s a).2 := ⟨_, rfl⟩
            rw [← hs2] at q6 q7
            rw [← her] at q7
            obtain ⟨q7, q8⟩ := q7
            have OK2 := Lib.hid q6
            have CI2 := Lib.hid q7
            have CASE := Lib.hid q8
            have hle2 : s2.n ≤ n := q7.le
            have hNb : s.n ≤ 1000 := by have := OK.out.n; omega
            have D1 : Hid (∀ wx, Own.St w.heap.size w wx [K.A p s, AVals bb 34 vs, AVals bs 52 (rowB (safeB s)), AVals bn 52 (rowB (now s))] → Calls Try.prog 20 #[qtr p] wx fun e w' => e = .returned (.int .i64 (s.n : Int)) ∧ Below wx.heap.size wx w') := fun wx hwx => K.done hwx.below hwx OK.out (by omega)
            have DO : Hid (∀ wx, Own.St w.heap.size w wx [K.A p s, AVals bb 34 vs, AVals bs 52 (rowB (safeB s)), AVals bn 52 (rowB (now s))] → Calls Try.prog 16 #[qtr p, .agg vs.toArray] wx fun e w' => e = .returned (.int .i64 (er : Int)) ∧ Own.St w.heap.size w w' [K.A p s2, AVals bb 34 vs, AVals bs 52 (rowB (safeB s)), AVals bn 52 (rowB (now s))]) := by
              intro wx hwx
              rw [her, hs2, RA.out.vs_]
              have hwx' := hwx
              rw [RA.out.vs_] at hwx'
              exact does_any K a hwx'.below hwx' OK.out (by omega) FITS.out
            have D2 : Hid (∀ wx, Own.St w.heap.size w wx [K.A p s2, AVals bb 34 vs, AVals bs 52 (rowB (safeB s)), AVals bn 52 (rowB (now s))] → Calls Try.prog 20 #[qtr p] wx fun e w' => e = .returned (.int .i64 (s2.n : Int)) ∧ Below wx.heap.size wx w') := fun wx hwx => K.done hwx.below hwx OK2.out (by omega)
            have E2 : Hid (∀ wx, Own.St w.heap.size w wx [K.A p s2, AVals bb 34 vs, AVals bs 52 (rowB (safeB s)), AVals bn 52 (rowB (now s))] → Calls Try.prog 19 #[qtr p] wx fun e w' => e = .returned (.bool s2.off) ∧ Below wx.heap.size wx w') := fun wx hwx => K.dead hwx.below hwx OK2.out (by omega)
            have BY : Hid (∀ wx, Calls Try.prog 24 #[.agg vs.toArray] wx fun e w' => ∃ v, e = .returned v ∧ (tyG (bytesOf a)).holds v w' ∧ Below wx.heap.size wx w') := by
              intro wx
              rw [RA.out.vs_]
              exact bytes_ty a wx
            have VLEN : Hid (vs.length = 6) := RA.out.len
            have POSC : Hid (vs[1]? = some (.int .i64 a.pos)) := by rw [RA.out.vs_]; exact rfl
            have KINDC : Hid (vs[0]? = some (.int .u8 (a.kind.toNat : Int))) := by rw [RA.out.vs_]; exact rfl
            have SAME : Hid (∀ wx, (∀ j, now s2 j = now s j) → s2.safe = s.safe → Own.St w.heap.size w wx [K.A p s2, AVals bb 34 vs, AVals bs 52 (rowB (safeB s)), AVals bn 52 (rowB (now s))] → Own.St w.heap.size w wx [K.A p s2, AVals bs 52 (rowB (safeB s2)), AVals bn 52 (rowB (now s2))]) := by
              intro wx e1 e2 h
              have e3 : safeB s2 = safeB s := by funext j; show s2.safe.getD j [] = _; rw [e2]
              rw [e3, rowB_congr (fun j _ => e1 j)]
              exact h.drop2
            clear q6 q7 q8 hs2 her
            go_wp2_with (first
              | (refine wpList_load_mid rfl 34 (.tmp 47) rfl b (o + i * 6) rfl vs _ RA.out.range Try.underlying34 rfl RA.out.info ?_)
              | (refine wpList_store_mid rfl 34 (.tmp 12) (.tmp 48) rfl wr.heap.size 0 vs.toArray rfl rfl RA.out.there RA.out.info2 RA.out.one ?_))
            rw [← hw5, ← hbb]
            clear hw5 hbb RA H c0 hk2
            refine (D1.out w5 H5.out).mono ?_
            rintro e w6 ⟨rfl, h6⟩
            have H6 := Lib.hid (H5.out.later h6)
            have L6 := Lib.hid (fun (ρ : Operand → Value) (o : Oper) (x : Tmp) (ho : o.op = .load 34 (.tmp x)) (h0 : ρ (.tmp x) = .pointer (some ⟨bb, 0, none⟩)) => LD.out w6 h6 ρ o x ho h0)
            clear h6 D1 H5 LD
            go_wp2_with (refine Byt.wpList_val rfl (L6.out _ _ _ rfl rfl) ?_)
            refine (DO.out w6 H6.out).mono ?_
            rintro e w7 ⟨rfl, h7⟩
            have H7 := Lib.hid h7
            clear h7 H6 L6 DO
            rcases CASE.out with ⟨he, hn, e1, e2⟩ | ⟨he, hn, hn2, ho, e1, e2⟩ | ⟨he, hn, h1, e1, e2⟩ | ⟨he, hn, h0, ⟨pg, hp, hp10, e1⟩, e2⟩
            · subst he
              have E12 := Lib.hid (And.intro e1 e2)
              have f2 : ((s2.n : Int) == (s.n : Int) + 1) = false := by simp; omega
              have f3 : ¬ n < s2.n := by omega
              clear e1 e2 hn
              go_wp2_with (fail)
              refine (D2.out w7 H7.out).mono ?_
              rintro e w8 ⟨rfl, h⟩
              have H8 := Lib.hid (H7.out.later h)
              have kw8 := (H8.out.cellV 1 rfl 0 KINDC.out).1
              clear h H7
              go_wp2_with (fail)
              refine (D2.out w8 H8.out).mono ?_
              rintro e w9 ⟨rfl, h⟩
              have H9 := Lib.hid (H8.out.later h)
              have kw9 := (H9.out.cellV 1 rfl 0 KINDC.out).1
              clear h H8
              go_wp2
              go_roundw
              case rel => exact ⟨i + 1, s2, by omega, by go_num, SAME.out _ E12.out.1 E12.out.2 H9.out, OK2.out, CI2.out⟩
              case measure => simp [intOf]; omega
            · subst he
              have E12 := Lib.hid (And.intro e1 e2)
              have f2 : ((n : Int) == (s.n : Int) + 1) = false := by simp; omega
              have f3 : ¬ n < n := by omega
              rw [show s2.n = n by omega] at D2
              have f6 : s2.off = true := ho
              clear e1 e2 hn hn2 ho
              go_wp2_with (fail)
              refine (D2.out w7 H7.out).mono ?_
              rintro e w8 ⟨rfl, h⟩
              have H8 := Lib.hid (H7.out.later h)
              have kw8 := (H8.out.cellV 1 rfl 0 KINDC.out).1
              clear h H7
              go_wp2_with (fail)
              refine (D2.out w8 H8.out).mono ?_
              rintro e w9 ⟨rfl, h⟩
              have H9 := Lib.hid (H8.out.later h)
              have kw9 := (H9.out.cellV 1 rfl 0 KINDC.out).1
              clear h H8
              go_wp2_with (fail)
              refine (D2.out w9 H9.out).mono ?_
              rintro e w10 ⟨rfl, h⟩
              have H10 := Lib.hid (H9.out.later h)
              have kw10 := (H10.out.cellV 1 rfl 0 KINDC.out).1
              clear h H9
              go_wp2_with (fail)
              refine (E2.out w10 H10.out).mono ?_
              rintro e w11 ⟨rfl, h⟩
              have H11 := Lib.hid (H10.out.later h)
              have kw11 := (H11.out.cellV 1 rfl 0 KINDC.out).1
              clear h H10
              go_wp2
              go_roundw
              case rel => exact ⟨i + 1, s2, by omega, by go_num, SAME.out _ E12.out.1 E12.out.2 H11.out, OK2.out, CI2.out⟩
              case measure => simp [intOf]; omega
            · subst he
              have r1 : r = 1 := HR.out.trans h1
              have hri0 : (a.kind.toNat : Int) % 5 = 1 := by omega
              have f2 : ((s2.n : Int) == (s.n : Int) + 1) = true := by simp; omega
              have f3 : ¬ n < s2.n := by omega
              have E12 := Lib.hid (And.intro e1 e2)
              clear e1 e2 hn h1 hri
              go_wp2_with (fail)
              refine (D2.out w7 H7.out).mono ?_
              rintro e w8 ⟨rfl, h⟩
              have H8 := Lib.hid (H7.out.later h)
              have kw8 := (H8.out.cellV 1 rfl 0 KINDC.out).1
              clear h H7
              go_wp2_with (fail)
              refine (D2.out w8 H8.out).mono ?_
              rintro e w9 ⟨rfl, h⟩
              have H9 := Lib.hid (H8.out.later h)
              have kw9 := (H9.out.cellV 1 rfl 0 KINDC.out).1
              clear h H8
              obtain ⟨vt, hvt⟩ : ∃ vt, vt = rowB (now s) := ⟨_, rfl⟩
              obtain ⟨r1, r2, r3⟩ := copy_tab H9.out 3 rfl 2 rfl (by rw [rowB_len, rowB_len])
              rw [← hvt] at r1 r2 r3
              have RG := Lib.hid r1
              have TH := Lib.hid r2
              have INF : Hid ((Try.prog.info? 52).map (·.size) = some vt.length) := by show _ = _; rw [hvt]; exact tab_info _
              have INF2 : Hid ((Try.prog.info? 52).map (·.size) = some vt.toArray.size) := by show _ = _; rw [hvt]; exact tab_info _
              have ONE : Hid (vt.toArray.all (·.oneCell') = true) := by show _ = _; rw [hvt]; exact tab_one _
              have G10 : Hid (Own.St w.heap.size w (w9.setCells bs 0 vt) [K.A p s2, AVals bs 52 (rowB (safeB s2)), AVals bn 52 (rowB (now s2))]) := by
                have h := r3
                simp only [List.set_cons_succ, List.set_cons_zero] at h
                have e3 : rowB (safeB s2) = vt := by rw [hvt]; exact rowB_congr (fun j _ => E12.out.2 j)
                have e4 : rowB (now s2) = vt := by rw [hvt]; exact rowB_congr (fun j _ => E12.out.1 j)
                rw [e3, e4]
                exact h.drop2
              clear r1 r2 r3 hvt H9 SAME
              go_wp2_with (first
                | (refine wpList_load_mid rfl 52 (.tmp 10) rfl bn 0 rfl vt _ RG.out Try.underlying52 rfl INF.out ?_)
                | (refine wpList_store_mid rfl 52 (.tmp 8) (.tmp 111) rfl bs 0 vt.toArray rfl rfl TH.out INF2.out ONE.out ?_))
              go_roundw
              case rel => exact ⟨i + 1, s2, by omega, by go_num, G10.out, OK2.out, CI2.out⟩
              case measure => simp [intOf]; omega
            · subst he
              have r0 : r = 0 := HR.out.trans h0
              have hri0 : (a.kind.toNat : Int) % 5 = 0 := by omega
              have f2 : ((s2.n : Int) == (s.n : Int) + 1) = true := by simp; omega
              have f3 : ¬ n < s2.n := by omega
              have E12 := Lib.hid (And.intro e1 e2)
              have HP := Lib.hid hp
              clear e1 e2 hn h0 hri hp
              go_wp2_with (fail)
              refine (D2.out w7 H7.out).mono ?_
              rintro e w8 ⟨rfl, h⟩
              have H8 := Lib.hid (H7.out.later h)
              have kw8 := (H8.out.cellV 1 rfl 0 KINDC.out).1
              clear h H7
              go_wp2_with (fail)
              refine (D2.out w8 H8.out).mono ?_
              rintro e w9 ⟨rfl, h⟩
              have H9 := Lib.hid (H8.out.later h)
              have kw9 := (H9.out.cellV 1 rfl 0 KINDC.out).1
              clear h H8
              have c1 := (H9.out.cellV 1 rfl 1 POSC.out).1
              rw [HP.out] at c1
              have C1 := Lib.hid (fun wx (hwx : Below w9.heap.size w9 wx) => cellLater c1 hwx)
              have BLK : Hid (w9.heap[bb]? = some (.cells vs.toArray 34 (0, 0))) := H9.out.rowV 1 rfl
              go_wp2_with (fail)
              clear kw8 kw9 c1
              refine wp_laxW_list 6 (by kernel_rfl) (by kernel_rfl) (by kernel_rfl) (by kernel_rfl) (by kernel_rfl) ?_
              simp only [List.take_succ_cons, List.take_zero, List.drop_succ_cons, List.drop_zero]
              refine wpL_run1 (x := .tmp 12) (.pointer (some ⟨bb, 0, none⟩)) (.pointer (some ⟨bb, 1, none⟩)) (by kernel_rfl) (by kernel_rfl) (by kernel_rfl) (by kernel_rfl) (by kernel_rfl) (fun wx ρ hwx h0 hc => by simp [go_sem, h0, hc]) ?_
              refine wpL_run1 (x := .tmp 97) (.pointer (some ⟨bb, 1, none⟩)) (.int .i64 (pg : Int)) (by kernel_rfl) (by kernel_rfl) (by kernel_rfl) (by kernel_rfl) (by kernel_rfl) (fun wx ρ hwx h0 hc => by simp [go_sem, h0, hc, C1.out wx hwx]) ?_
              refine wpL_run1 (x := .tmp 12) (.pointer (some ⟨bb, 0, none⟩)) (.agg vs.toArray) (by kernel_rfl) (by kernel_rfl) (by kernel_rfl) (by kernel_rfl) (by kernel_rfl) (fun wx ρ hwx h0 hc => load_actV rfl VLEN.out BLK.out hwx ρ h0) ?_
              refine wpL_fnT (tyG (bytesOf a)) [.agg vs.toArray] rfl rfl (by kernel_rfl) (by kernel_rfl) (by kernel_rfl) (by kernel_rfl) (fun _ _ => by simp [go_sem]) (fun wx hwx => BY.out wx) ?_
              refine wpL_conv (.string (strB (bytesOf a))) rfl rfl (by kernel_rfl) (by kernel_rfl) (fun u wx hwx hu => tyG_str hu) ?_
              refine wpL_run2 (x := .tmp 10) (y := .tmp 98) (.pointer (some ⟨bn, 0, none⟩)) (.int .i64 (pg : Int)) (.pointer (some ⟨bn, pg, none⟩)) (by kernel_rfl) (by kernel_rfl) (by kernel_rfl) (by kernel_rfl) (by kernel_rfl) (by kernel_rfl) (fun wx ρ hwx h0 h1 hc => idxB rfl hp10 bn ρ wx h0 h1) ?_
              refine wpL_end (by kernel_rfl) (fun wz hwz => ?_)
              simp only [FinL, setL, List.set_cons_zero, List.set_cons_succ]
              intro u _ _
              have Gz := H9.out.later hwz
              obtain ⟨cw, fw⟩ := Gz.cellV 3 rfl pg (rowB_at (now s) hp10)
              have hz := Gz.storeV 3 rfl pg (.string (strB (bytesOf a)))
              simp only [List.set_cons_succ, List.set_cons_zero] at hz
              rw [rowB_set, ← rowB_congr (fun j _ => E12.out.1 j)] at hz
              have kz := (hz.cellV 1 rfl 0 KINDC.out).1
              have G10 : Hid (Own.St w.heap.size w (wz.setCell ⟨bn, pg, none⟩ (.string (strB (bytesOf a)))) [K.A p s2, AVals bs 52 (rowB (safeB s2)), AVals bn 52 (rowB (now s2))]) := by
                have e3 : safeB s2 = safeB s := by funext j; show s2.safe.getD j [] = _; rw [E12.out.2]
                rw [e3]
                exact hz.drop2
              clear hwz Gz H9 SAME hz
              go_wp2
              clear cw fw kz
              go_roundw
              case rel => exact ⟨i + 1, s2, by omega, by go_num, G10.out, OK2.out, CI2.out⟩
              case measure => simp [intOf]; omega
        · obtain ⟨x3, hx3⟩ : ∃ x3, x3 = crash s 0 := ⟨_, rfl⟩
          have K3 : Hid (Calls Try.prog 13 #[qtr p, .int .u64 0] wr fun e w' => e = .returned (.tuple #[]) ∧ Own.St w.heap.size w w' [K.A p x3, AVals bs 52 (rowB (safeB s)), AVals bn 52 (rowB (now s))]) := by
            rw [hx3]
            exact K.crash 0 H.out.below H.out OK.out (by omega) (by decide)
          have OK3 : Hid (Ok x3 i) := by show Ok x3 _; rw [hx3]; exact ok_crash OK.out 0
          have LT3 : Hid (Lit10 x3) := by
            show Lit10 x3
            rw [hx3]
            exact ⟨by show (some' s 0).safe.length = 10; exact (shape_all 0 s.L s.safe 0 OK.out.shape OK.out.puts).len.trans CI.out.len, rfl, rfl⟩
          have NW : Hid (∀ q, now x3 q = safeB s q) := by rw [hx3]; exact crash_zero s
          clear hx3
          go_wp2_with (fail)
          refine K3.out.mono ?_
          rintro e w11 ⟨rfl, h11⟩
          have H11 := Lib.hid h11
          clear h11 K3 H
          go_wp2
          go_loopw [115] (fun v wx => ∃ q : Nat, q ≤ 10 ∧ v = .int .i64 (q : Int) ∧ Own.St w.heap.size w wx [K.A p x3, AVals bs 52 (rowB (safeB s)), AVals bn 52 (rowB (now s))]) (fun v _ => 10 - (intOf v).toNat)
          case atStart => exact ⟨0, Nat.zero_le _, rfl, H11.out⟩
          case round =>
            obtain ⟨q, hqt, rfl, hG⟩ := hrel
            have G := Lib.hid hG
            clear hG H11
            by_cases hq : (q : Int) < 10
            · have hq10 : q < 10 := by omega
              obtain ⟨x, hx⟩ : ∃ x, x = now x3 q := ⟨_, rfl⟩
              obtain ⟨n1, hn1⟩ : ∃ n, n = x.length := ⟨_, rfl⟩
              have RD : Hid (Calls Try.prog 21 #[qtr p, .int .i64 (q : Int)] wr fun e w' => ∃ ao cap, e = .returned (.tuple #[.slice ao n1 cap, .int .i64 0]) ∧ Own.St w.heap.size w w' (AB ao n1 cap x :: [K.A p x3, AVals bs 52 (rowB (safeB s)), AVals bn 52 (rowB (now s))])) := by
                have h := K.read (q : Int) G.out.below G.out OK3.out (by omega) ⟨by omega, by omega⟩
                have e2 : BakM.read x3 (q : Int) = (x, 0) := by
                  unfold BakM.read
                  rw [if_neg (by unfold there; rw [LT3.out.len]; simp; omega), if_neg (by rw [LT3.out.off]; simp), hx]
                  rfl
                rw [e2] at h
                rw [hn1]
                exact h
              go_wp2_with (fail)
              refine RD.out.mono ?_
              rintro e w8 ⟨ar, cr, rfl, h8⟩
              have G8 := Lib.hid h8
              have GB : Hid (Given w8 ar n1 cr x) := given_own h8 0 rfl
              have CJ : Hid (∀ wx, Below w8.heap.size w8 wx → wx.cell? ⟨bs, q, none⟩ = some (.string (strB x))) := by
                intro wx hwx
                rw [hx, NW.out q]
                exact ((G8.out.later hwx).cellV 2 rfl q (rowB_at (safeB s) hq10)).1
              clear h8 G RD hx hn1
              go_wp2_with (fail)
              refine wp_lax_list (by kernel_rfl) (by kernel_rfl) (by kernel_rfl) ?_
              refine wpL_move (.int .i64 0) rfl (by kernel_rfl) (by kernel_rfl) (by kernel_rfl) (by kernel_rfl) ?_
              refine wpL_run1 (x := .tmp 124) (.int .i64 0) (.bool false) (by kernel_rfl) (by kernel_rfl) (by kernel_rfl) (by kernel_rfl) (by kernel_rfl) (fun wx ρ hwx h0 hc => by simp [go_sem, h0, hc]) ?_
              refine wpL_move (.bool false) rfl (by kernel_rfl) (by kernel_rfl) (by kernel_rfl) (by kernel_rfl) ?_
              refine wpL_move (.slice ar n1 cr) rfl (by kernel_rfl) (by kernel_rfl) (by kernel_rfl) (by kernel_rfl) ?_
              refine wpL_convK (.slice ar n1 cr) (.string (strB x)) rfl (by kernel_rfl) (by kernel_rfl) (by kernel_rfl) (by kernel_rfl) (fun wx hwx => given_str (GB.out.later hwx)) ?_
              refine wpL_move (.int .i64 (q : Int)) rfl (by kernel_rfl) (by kernel_rfl) (by kernel_rfl) (by kernel_rfl) ?_
              refine wpL_run2 (x := .tmp 8) (y := .tmp 129) (.pointer (some ⟨bs, 0, none⟩)) (.int .i64 (q : Int)) (.pointer (some ⟨bs, q, none⟩)) (by kernel_rfl) (by kernel_rfl) (by kernel_rfl) (by kernel_rfl) (by kernel_rfl) (by kernel_rfl) (fun wx ρ hwx h0 h1 hc => idxB rfl hq10 bs ρ wx h0 h1) ?_
              refine wpL_run1 (x := .tmp 130) (.pointer (some ⟨bs, q, none⟩)) (.string (strB x)) (by kernel_rfl) (by kernel_rfl) (by kernel_rfl) (by kernel_rfl) (by kernel_rfl) (fun wx ρ hwx h0 hc => load_st rfl (CJ.out wx hwx) h0) ?_
              refine wpL_run2 (x := .tmp 128) (y := .tmp 131) (.string (strB x)) (.string (strB x)) (.bool false) (by kernel_rfl) (by kernel_rfl) (by kernel_rfl) (by kernel_rfl) (by kernel_rfl) (by kernel_rfl) (fun wx ρ hwx h0 h1 hc => by simp [go_sem, h0, h1, hc]) ?_
              refine wpL_run2 (x := .tmp 126) (y := .tmp 132) (.bool false) (.bool false) (.bool false) (by kernel_rfl) (by kernel_rfl) (by kernel_rfl) (by kernel_rfl) (by kernel_rfl) (by kernel_rfl) (fun wx ρ hwx h0 h1 hc => by simp [go_sem, h0, h1, hc]) ?_
              refine wpL_end (by kernel_rfl) (fun w9 hw9 => ?_)
              simp only [FinL, setL, List.set_cons_zero, List.set_cons_succ]
              have G9 := Lib.hid ((G8.out.later hw9).drop 1)
              clear hw9 GB G8 CJ
              go_wp2
              go_roundw
              case rel => exact ⟨q + 1, by omega, by go_num, G9.out⟩
              case measure => simp [intOf]; omega
            · go_wp2
              go_ret
              exact ⟨rfl, G.out.below⟩
end Bak
end Go.Proofs.Ytkddeccgoamopaa
