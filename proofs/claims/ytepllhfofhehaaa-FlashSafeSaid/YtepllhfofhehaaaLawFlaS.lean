/- FlashSafe: the walk. -/
import Derived.Test.YtepllhfofhehaaaLawFlaC
import Derived.Test.YtepllhfofhehaaaFlaE
namespace Go.Proofs.Ytepllhfofhehaaa
open Go.RowKit Go.Own
namespace Fla
open Go.FlaM Byt

set_option maxRecDepth 6000 in
set_option maxHeartbeats 16000000 in
theorem walk_safe (a0 : Option Addr) (len0 cap0 : Nat) (l : List ActD) (at0 : Int) (wn : (Lit.int .u8 at0).wf = true) {w : World} (w0 : inSlice 7 inAct l w.heap.size w [.slice a0 len0 cap0]) (K : Kept w) :
    Calls Try.prog 5 #[.slice a0 len0 cap0, .int .u8 at0] w (RetYes w) := by
  obtain ⟨ac, rfl⟩ := u8_byte wn
  have hacb : ac.toNat < 256 := ac.toNat_lt
  obtain ⟨m16, hm16⟩ : ∃ m, m = ac.toNat % 16 := ⟨_, rfl⟩
  have e1 : (ac.toNat : Int) % 16 = (m16 : Int) := by omega
  obtain ⟨sg, hsg⟩ : ∃ m, m = m16 / 4 := ⟨_, rfl⟩
  have e2 : (m16 : Int) / 4 = (sg : Int) := by omega
  obtain ⟨kk, hkk⟩ : ∃ m, m = ac.toNat % 4 := ⟨_, rfl⟩
  have e3 : (ac.toNat : Int) % 4 = (kk : Int) := by omega
  have hsg4 : sg < 4 := by omega
  have hkk4 : kk < 4 := by omega
  have hm16b : m16 < 16 := by omega
  obtain ⟨hlen, hcap, hmax, _, hat⟩ := acts_in w0
  have SH := Lib.hid (shown_any K (Below.refl _ _))
  have HF := Lib.hid (few_any w0)
  have HAT := Lib.hid hat
  have HLEN := Lib.hid hlen
  have hmax2 : cap0 ≤ 9223372036854775807 := by unfold maxLen at hmax; omega
  clear hat hlen w0 hmax wn hm16 hsg hkk
  go_enter Try.func5, Try.ntmps5
  go_wp2_with (fail)
  refine SH.out.mono ?_
  rintro e w1 ⟨rfl, h1⟩
  have H1 := Lib.hid ((Own.St.start w).later h1)
  clear h1
  go_wp2_with (fail)
  refine (new44 K w1 H1.out).mono ?_
  rintro e w2 ⟨p, rfl, h2⟩
  have H3 := Lib.hid h2
  clear h2 H1
  go_wp2_with (fail)
  refine (HF.out w2 H3.out.below).mono ?_
  rintro e w4 ⟨k, hk1, hk2, hk3, rfl, rfl⟩
  have HK3 := Lib.hid hk3
  clear hk3
  have O0 := Lib.hid ok44
  have Z0 : Hid (Size (fresh 4 4) 4 4) := ⟨rfl, rfl⟩
  have P0 : Hid (Pristine (fresh 4 4) sg kk) := fun a ha => by cases ha
  go_wp2
  clear e1 e2 e3
  go_loopw [10, 39] (fun v10 v wr => ∃ (i : Nat) (s : FS) (tb : Bool), i ≤ k ∧ v = .int .i64 (i : Int) ∧ v10 = .bool tb ∧ Own.St w.heap.size w wr [K.A p s] ∧ Ok s i ∧ Size s 4 4 ∧ (tb = false → Pristine s sg kk)) (fun _ v _ => k - (intOf v).toNat)
  case atStart => exact ⟨0, _, false, Nat.zero_le _, rfl, rfl, H3.out, O0.out, Z0.out, fun _ => P0.out⟩
  case round =>
    obtain ⟨i, s, tb, hik, rfl, rfl, hH, hok, hsz, hpr⟩ := hrel
    have H := Lib.hid hH
    have OK := Lib.hid hok
    have SZ := Lib.hid hsz
    have PR := Lib.hid hpr
    clear hH hok hsz hpr H3 O0 Z0 P0
    by_cases hi : (i : Int) < (k : Int)
    · have hil : i < l.length := by rw [← HLEN.out]; omega
      obtain ⟨b, o, rfl, hb, hact⟩ := HAT.out (by intro e; rw [e] at hil; simp at hil)
      obtain ⟨a, ha⟩ : ∃ a, a = l[i] := ⟨_, rfl⟩
      have hat1 := hact wr (fun k hk => H.out.below.block k hk) H.out.below.size i hil
      rw [← ha] at hat1
      have hbl : a.b.length ≤ 10000 := by rw [ha]; exact HK3.out i hil (by omega)
      obtain ⟨ab, af, cb, cf, vs, RA0⟩ := round_act H.out hat1
      have RA := Lib.hid RA0
      obtain ⟨bb, hbb⟩ : ∃ bb, bb = wr.heap.size := ⟨_, rfl⟩
      obtain ⟨w5, hw5⟩ : ∃ w5, w5 = (wr.alloc (.cells zeroAct.toArray 35)).setCells wr.heap.size 0 vs := ⟨_, rfl⟩
      have hst := RA.out.st
      rw [List.toList_toArray] at hst
      rw [← hw5, ← hbb] at hst
      have H5 := Lib.hid hst.swap2
      have hsz5 : wr.heap.size ≤ w5.heap.size := by
        have := lt_of_block (hst.rowV 0 rfl)
        omega
      obtain ⟨r, hr⟩ : ∃ r, r = a.kind.toNat % 6 := ⟨_, rfl⟩
      have hri : (a.kind.toNat : Int) % 6 = (r : Int) := by omega
      have hr6 : r < 6 := by omega
      have hkb : a.kind.toNat < 256 := a.kind.toNat_lt
      have HR := Lib.hid hr
      have HIN := Lib.hid (RA.out.inn w5 hst.below hst.size)
      obtain ⟨i1, _, _, _, _, _, _, _, i9, i10, i11⟩ := actIn_of HIN.out
      have q6 := ok_act OK.out a i11
      have q7 := size_act OK.out SZ.out a
      obtain ⟨s2, hs2⟩ : ∃ s2, s2 = (doAct s a).1 := ⟨_, rfl⟩
      obtain ⟨er, her⟩ : ∃ er, er = (doAct s a).2 := ⟨_, rfl⟩
      rw [← hs2] at q6 q7
      have OK2 := Lib.hid q6
      have SZ2 := Lib.hid q7
      have hNb : s.n ≤ 1000 := by have := OK.out.n; omega
      obtain ⟨x1, g1, hrd1⟩ : ∃ x g, FlaM.read s (sg : Int) (kk : Int) = (x, g) := ⟨_, _, rfl⟩
      obtain ⟨x2, g2, hrd2⟩ : ∃ x g, FlaM.read s2 (sg : Int) (kk : Int) = (x, g) := ⟨_, _, rfl⟩
      obtain ⟨n1, hn1⟩ : ∃ n, n = x1.length := ⟨_, rfl⟩
      obtain ⟨n2, hn2⟩ : ∃ n, n = x2.length := ⟨_, rfl⟩
      have R1 : Hid (Calls Try.prog 23 #[ptr p, .int .i64 (sg : Int), .int .i64 (kk : Int)] w5 fun e w' => ∃ ao cap, e = .returned (.tuple #[.slice ao n1 cap, .int .i64 (g1 : Int)]) ∧ Own.St w.heap.size w w' [AB ao n1 cap x1, K.A p s, AVals bb 35 vs]) := by
        have h := K.read (sg : Int) (kk : Int) H5.out.below H5.out OK.out (by omega) ⟨by omega, by omega⟩ ⟨by omega, by omega⟩
        rw [hrd1] at h
        rw [hn1]
        exact h
      have R2 : Hid (∀ wx ao cap, Own.St w.heap.size w wx [K.A p s2, AB ao n1 cap x1, AVals bb 35 vs] → Calls Try.prog 23 #[ptr p, .int .i64 (sg : Int), .int .i64 (kk : Int)] wx fun e w' => ∃ ao2 cap2, e = .returned (.tuple #[.slice ao2 n2 cap2, .int .i64 (g2 : Int)]) ∧ Own.St w.heap.size w w' [AB ao2 n2 cap2 x2, K.A p s2, AB ao n1 cap x1, AVals bb 35 vs]) := by
        intro wx ao cap hwx
        have h := K.read (sg : Int) (kk : Int) hwx.below hwx OK2.out (by omega) ⟨by omega, by omega⟩ ⟨by omega, by omega⟩
        rw [hrd2] at h
        rw [hn2]
        exact h
      have DO : Hid (∀ wx ao cap, Own.St w.heap.size w wx [AB ao n1 cap x1, K.A p s, AVals bb 35 vs] → Calls Try.prog 20 #[ptr p, .agg vs.toArray] wx fun e w' => e = .returned (.int .i64 (er : Int)) ∧ Own.St w.heap.size w w' [K.A p s2, AB ao n1 cap x1, AVals bb 35 vs]) := by
        intro wx ao cap hwx
        have hh := hwx.swap2
        rw [her, hs2, RA.out.vs_]
        rw [RA.out.vs_] at hh
        exact does_any K a ab af cb cf hh.below hh OK.out (by omega) hbl (RA.out.inn wx hh.below hh.size)
      have LD : Hid (∀ wx ao cap, Own.St w.heap.size w wx [AB ao n1 cap x1, K.A p s, AVals bb 35 vs] → ∀ (ρ : Operand → Value) (o : Oper) (x : Tmp), o.op = .load 35 (.tmp x) → ρ (.tmp x) = .pointer (some ⟨bb, 0, none⟩) → (execOp ρ o).run Try.prog wx = .ok (.value (.agg vs.toArray)) wx) := fun wx ao cap hwx ρ o x ho h0 => load_actV ho RA.out.len (hwx.rowV 2 rfl) (Below.refl _ _) ρ h0
      have hcl : ∀ j v, vs[j]? = some v → w5.cell? ⟨bb, j, none⟩ = some v := fun j v hv => (hst.cellV 0 rfl j hv).1
      have c0 := hcl 0 (.int .u8 (a.kind.toNat : Int)) (by rw [RA.out.vs_]; rfl)
      have c1 := hcl 1 (.int .i64 a.seg) (by rw [RA.out.vs_]; rfl)
      have c2 := hcl 2 (.int .i64 a.page) (by rw [RA.out.vs_]; rfl)
      have HS2 := Lib.hid hs2
      have HER := Lib.hid her
      have RD1 := Lib.hid hrd1
      have RD2 := Lib.hid hrd2
      obtain ⟨tch, htch⟩ : ∃ t : Prop, t = (a.seg = (sg : Int) ∧ (r = 0 ∧ a.page = (kk : Int) ∨ r = 1)) := ⟨_, rfl⟩
      have PA : Hid (tb = false → ¬ (a.seg = (sg : Int) ∧ (r = 0 ∧ a.page = (kk : Int) ∨ r = 1)) → Pristine s2 sg kk) := by
        intro h1 h2
        rw [HS2.out]
        exact pris_act (PR.out h1) a (by rw [← HR.out]; exact h2)
      have PB : Hid (r = 2 → er = 0 → Pristine s2 sg kk) := by
        intro h1 h2
        have hd : doAct s a = barrier s := by unfold doAct; rw [← HR.out, h1]; rfl
        rw [HS2.out, hd]
        exact pris_barrier s sg kk (by rw [← hd, ← HER.out]; exact h2)
      have PC : Hid (r = 4 → er = 0 ∧ Pristine s2 sg kk ∧ (tb = false → g1 = 0 → g2 = 0 ∧ x2 = x1)) := by
        intro h1
        have hd : doAct s a = (crash s a.fates, 0) := by unfold doAct; rw [← HR.out, h1]; rfl
        refine ⟨by rw [HER.out, hd], by rw [HS2.out, hd]; exact pris_crash s sg kk _, fun h2 h3 => ?_⟩
        have h := safe_step OK.out SZ.out hsg4 hkk4 (PR.out h2) a.fates (by rw [RD1.out]; exact h3)
        have e2 : s2 = crash s a.fates := by rw [HS2.out, hd]
        rw [← e2, RD1.out, RD2.out] at h
        cases h
        exact ⟨h3, rfl⟩
      have PE : Hid (3 ≤ r → er = 0) := by
        intro h1
        have h3 : r = 3 ∨ r = 4 ∨ r = 5 := by omega
        rcases h3 with h | h | h <;> (rw [HER.out]; unfold doAct; rw [← HR.out, h]; rfl)
      rw [hw5, hbb] at c0 c1 c2
      clear hst hr hact hat1 RA0 ha i1 i11 q6 q7 hs2 her hrd1 hrd2 hcl htch hn1 hn2
      by_cases hr4 : r = 4
      · obtain ⟨p1, p2, p3⟩ := PC.out hr4
        have P2 := Lib.hid p2
        have ER0 := p1
        have hseg4 : ((a.seg == (sg : Int)) = true ∨ (a.seg == (sg : Int)) = false) := by cases (a.seg == (sg : Int)) <;> simp
        subst hr4
        clear PA PB PC PE p1 p2
        rcases hseg4 with hb1 | hb1
        · skip
          cases tb with
          | true =>
            clear p3
            go_wp2_with (first
              | (refine wpList_load_mid rfl 35 (.tmp 41) rfl b (o + i * 7) rfl vs _ RA.out.range Try.underlying35 rfl RA.out.info ?_)
              | (refine wpList_store_mid rfl 35 (.tmp 12) (.tmp 42) rfl wr.heap.size 0 vs.toArray rfl rfl RA.out.there RA.out.info2 RA.out.one ?_))
            rw [← hw5, ← hbb]
            clear hw5 hbb c0 c1 c2
            refine R1.out.mono ?_
            rintro e w6 ⟨au, cu, rfl, h6⟩
            have H6 := Lib.hid h6
            clear h6
            go_wp2_with (refine Byt.wpList_val rfl (LD.out w6 au cu H6.out _ _ _ rfl rfl) ?_)
            refine (DO.out w6 au cu H6.out).mono ?_
            rintro e w7 ⟨rfl, h7⟩
            have H7 := Lib.hid h7
            clear h7 H6 LD DO
            go_wp2_with (fail)
            refine (R2.out w7 au cu H7.out).mono ?_
            rintro e w8 ⟨av, cv, rfl, h8⟩
            have H8 := Lib.hid h8
            have HF8 := Lib.hid ((h8.drop 1).drop2.drop2)
            clear h8 H7 R2
            clear H8
            go_wp2
            go_roundw
            case rel => exact ⟨i + 1, s2, false, by omega, by go_num, rfl, HF8.out, OK2.out, SZ2.out, fun _ => P2.out⟩
            case measure => simp [intOf]; omega
          | false =>
            by_cases hg1 : g1 = 0
            · obtain ⟨hg2, hx⟩ := p3 rfl hg1
              have hx' := hx.symm
              subst hx'
              have hg1' : ((g1 : Int) == 0) = true := by simp [hg1]
              have hg2' : ((g2 : Int) == 0) = true := by simp [hg2]
              clear p3
              go_wp2_with (first
                | (refine wpList_load_mid rfl 35 (.tmp 41) rfl b (o + i * 7) rfl vs _ RA.out.range Try.underlying35 rfl RA.out.info ?_)
                | (refine wpList_store_mid rfl 35 (.tmp 12) (.tmp 42) rfl wr.heap.size 0 vs.toArray rfl rfl RA.out.there RA.out.info2 RA.out.one ?_))
              rw [← hw5, ← hbb]
              clear hw5 hbb c0 c1 c2
              refine R1.out.mono ?_
              rintro e w6 ⟨au, cu, rfl, h6⟩
              have H6 := Lib.hid h6
              clear h6
              go_wp2_with (refine Byt.wpList_val rfl (LD.out w6 au cu H6.out _ _ _ rfl rfl) ?_)
              refine (DO.out w6 au cu H6.out).mono ?_
              rintro e w7 ⟨rfl, h7⟩
              have H7 := Lib.hid h7
              clear h7 H6 LD DO
              go_wp2_with (fail)
              refine (R2.out w7 au cu H7.out).mono ?_
              rintro e w8 ⟨av, cv, rfl, h8⟩
              have H8 := Lib.hid h8
              have HF8 := Lib.hid ((h8.drop 1).drop2.drop2)
              clear h8 H7 R2
              have GU := Lib.hid (given_own H8.out 2 rfl)
              have GV := Lib.hid (given_own H8.out 0 rfl)
              go_wp2_with (first
                | (refine wpList_str8 rfl (.tmp 98) rfl au n1 cu rfl _ _ GU.out.view GU.out.size ?_)
                | (refine wpList_str8 rfl (.tmp 100) rfl av n2 cv rfl _ _ GV.out.view GV.out.size ?_))
              go_roundw
              case rel => exact ⟨i + 1, s2, false, by omega, by go_num, rfl, HF8.out, OK2.out, SZ2.out, fun _ => P2.out⟩
              case measure => simp [intOf]; omega
            · have hg1' : ((g1 : Int) == 0) = false := by simp; omega
              clear p3
              go_wp2_with (first
                | (refine wpList_load_mid rfl 35 (.tmp 41) rfl b (o + i * 7) rfl vs _ RA.out.range Try.underlying35 rfl RA.out.info ?_)
                | (refine wpList_store_mid rfl 35 (.tmp 12) (.tmp 42) rfl wr.heap.size 0 vs.toArray rfl rfl RA.out.there RA.out.info2 RA.out.one ?_))
              rw [← hw5, ← hbb]
              clear hw5 hbb c0 c1 c2
              refine R1.out.mono ?_
              rintro e w6 ⟨au, cu, rfl, h6⟩
              have H6 := Lib.hid h6
              clear h6
              go_wp2_with (refine Byt.wpList_val rfl (LD.out w6 au cu H6.out _ _ _ rfl rfl) ?_)
              refine (DO.out w6 au cu H6.out).mono ?_
              rintro e w7 ⟨rfl, h7⟩
              have H7 := Lib.hid h7
              clear h7 H6 LD DO
              go_wp2_with (fail)
              refine (R2.out w7 au cu H7.out).mono ?_
              rintro e w8 ⟨av, cv, rfl, h8⟩
              have H8 := Lib.hid h8
              have HF8 := Lib.hid ((h8.drop 1).drop2.drop2)
              clear h8 H7 R2
              clear H8
              go_wp2
              go_roundw
              case rel => exact ⟨i + 1, s2, false, by omega, by go_num, rfl, HF8.out, OK2.out, SZ2.out, fun _ => P2.out⟩
              case measure => simp [intOf]; omega
        · skip
          cases tb with
          | true =>
            clear p3
            go_wp2_with (first
              | (refine wpList_load_mid rfl 35 (.tmp 41) rfl b (o + i * 7) rfl vs _ RA.out.range Try.underlying35 rfl RA.out.info ?_)
              | (refine wpList_store_mid rfl 35 (.tmp 12) (.tmp 42) rfl wr.heap.size 0 vs.toArray rfl rfl RA.out.there RA.out.info2 RA.out.one ?_))
            rw [← hw5, ← hbb]
            clear hw5 hbb c0 c1 c2
            refine R1.out.mono ?_
            rintro e w6 ⟨au, cu, rfl, h6⟩
            have H6 := Lib.hid h6
            clear h6
            go_wp2_with (refine Byt.wpList_val rfl (LD.out w6 au cu H6.out _ _ _ rfl rfl) ?_)
            refine (DO.out w6 au cu H6.out).mono ?_
            rintro e w7 ⟨rfl, h7⟩
            have H7 := Lib.hid h7
            clear h7 H6 LD DO
            go_wp2_with (fail)
            refine (R2.out w7 au cu H7.out).mono ?_
            rintro e w8 ⟨av, cv, rfl, h8⟩
            have H8 := Lib.hid h8
            have HF8 := Lib.hid ((h8.drop 1).drop2.drop2)
            clear h8 H7 R2
            clear H8
            go_wp2
            go_roundw
            case rel => exact ⟨i + 1, s2, false, by omega, by go_num, rfl, HF8.out, OK2.out, SZ2.out, fun _ => P2.out⟩
            case measure => simp [intOf]; omega
          | false =>
            by_cases hg1 : g1 = 0
            · obtain ⟨hg2, hx⟩ := p3 rfl hg1
              have hx' := hx.symm
              subst hx'
              have hg1' : ((g1 : Int) == 0) = true := by simp [hg1]
              have hg2' : ((g2 : Int) == 0) = true := by simp [hg2]
              clear p3
              go_wp2_with (first
                | (refine wpList_load_mid rfl 35 (.tmp 41) rfl b (o + i * 7) rfl vs _ RA.out.range Try.underlying35 rfl RA.out.info ?_)
                | (refine wpList_store_mid rfl 35 (.tmp 12) (.tmp 42) rfl wr.heap.size 0 vs.toArray rfl rfl RA.out.there RA.out.info2 RA.out.one ?_))
              rw [← hw5, ← hbb]
              clear hw5 hbb c0 c1 c2
              refine R1.out.mono ?_
              rintro e w6 ⟨au, cu, rfl, h6⟩
              have H6 := Lib.hid h6
              clear h6
              go_wp2_with (refine Byt.wpList_val rfl (LD.out w6 au cu H6.out _ _ _ rfl rfl) ?_)
              refine (DO.out w6 au cu H6.out).mono ?_
              rintro e w7 ⟨rfl, h7⟩
              have H7 := Lib.hid h7
              clear h7 H6 LD DO
              go_wp2_with (fail)
              refine (R2.out w7 au cu H7.out).mono ?_
              rintro e w8 ⟨av, cv, rfl, h8⟩
              have H8 := Lib.hid h8
              have HF8 := Lib.hid ((h8.drop 1).drop2.drop2)
              clear h8 H7 R2
              have GU := Lib.hid (given_own H8.out 2 rfl)
              have GV := Lib.hid (given_own H8.out 0 rfl)
              go_wp2_with (first
                | (refine wpList_str8 rfl (.tmp 98) rfl au n1 cu rfl _ _ GU.out.view GU.out.size ?_)
                | (refine wpList_str8 rfl (.tmp 100) rfl av n2 cv rfl _ _ GV.out.view GV.out.size ?_))
              go_roundw
              case rel => exact ⟨i + 1, s2, false, by omega, by go_num, rfl, HF8.out, OK2.out, SZ2.out, fun _ => P2.out⟩
              case measure => simp [intOf]; omega
            · have hg1' : ((g1 : Int) == 0) = false := by simp; omega
              clear p3
              go_wp2_with (first
                | (refine wpList_load_mid rfl 35 (.tmp 41) rfl b (o + i * 7) rfl vs _ RA.out.range Try.underlying35 rfl RA.out.info ?_)
                | (refine wpList_store_mid rfl 35 (.tmp 12) (.tmp 42) rfl wr.heap.size 0 vs.toArray rfl rfl RA.out.there RA.out.info2 RA.out.one ?_))
              rw [← hw5, ← hbb]
              clear hw5 hbb c0 c1 c2
              refine R1.out.mono ?_
              rintro e w6 ⟨au, cu, rfl, h6⟩
              have H6 := Lib.hid h6
              clear h6
              go_wp2_with (refine Byt.wpList_val rfl (LD.out w6 au cu H6.out _ _ _ rfl rfl) ?_)
              refine (DO.out w6 au cu H6.out).mono ?_
              rintro e w7 ⟨rfl, h7⟩
              have H7 := Lib.hid h7
              clear h7 H6 LD DO
              go_wp2_with (fail)
              refine (R2.out w7 au cu H7.out).mono ?_
              rintro e w8 ⟨av, cv, rfl, h8⟩
              have H8 := Lib.hid h8
              have HF8 := Lib.hid ((h8.drop 1).drop2.drop2)
              clear h8 H7 R2
              clear H8
              go_wp2
              go_roundw
              case rel => exact ⟨i + 1, s2, false, by omega, by go_num, rfl, HF8.out, OK2.out, SZ2.out, fun _ => P2.out⟩
              case measure => simp [intOf]; omega
      have hr4' : ((r : Int) == 4) = false := by simp; omega
      clear PC
      by_cases hseg : a.seg = (sg : Int)
      · have hb1 : (a.seg == (sg : Int)) = true := by simp [hseg]
        by_cases hr0 : r = 0
        · have q0 : ((r : Int) == 0) = true := by simp [hr0]
          have q2 : ((r : Int) == 2) = false := by simp; omega
          by_cases hpg : a.page = (kk : Int)
          · have hb2 : (a.page == (kk : Int)) = true := by simp [hpg]
            clear PA PB PE hseg hpg hr0
            by_cases he : er = 0
            · have he' : ((er : Int) == 0) = true := by simp [he]
              go_wp2_with (first
                | (refine wpList_load_mid rfl 35 (.tmp 41) rfl b (o + i * 7) rfl vs _ RA.out.range Try.underlying35 rfl RA.out.info ?_)
                | (refine wpList_store_mid rfl 35 (.tmp 12) (.tmp 42) rfl wr.heap.size 0 vs.toArray rfl rfl RA.out.there RA.out.info2 RA.out.one ?_))
              rw [← hw5, ← hbb]
              clear hw5 hbb c0 c1 c2
              refine R1.out.mono ?_
              rintro e w6 ⟨au, cu, rfl, h6⟩
              have H6 := Lib.hid h6
              clear h6
              go_wp2_with (refine Byt.wpList_val rfl (LD.out w6 au cu H6.out _ _ _ rfl rfl) ?_)
              refine (DO.out w6 au cu H6.out).mono ?_
              rintro e w7 ⟨rfl, h7⟩
              have H7 := Lib.hid h7
              clear h7 H6 LD DO
              go_wp2_with (fail)
              refine (R2.out w7 au cu H7.out).mono ?_
              rintro e w8 ⟨av, cv, rfl, h8⟩
              have H8 := Lib.hid h8
              have HF8 := Lib.hid ((h8.drop 1).drop2.drop2)
              clear h8 H7 R2
              clear H8
              go_wp2
              go_roundw
              case rel => exact ⟨i + 1, s2, true, by omega, by go_num, rfl, HF8.out, OK2.out, SZ2.out, fun h => by cases h⟩
              case measure => simp [intOf]; omega
            · have he' : ((er : Int) == 0) = false := by simp; omega
              go_wp2_with (first
                | (refine wpList_load_mid rfl 35 (.tmp 41) rfl b (o + i * 7) rfl vs _ RA.out.range Try.underlying35 rfl RA.out.info ?_)
                | (refine wpList_store_mid rfl 35 (.tmp 12) (.tmp 42) rfl wr.heap.size 0 vs.toArray rfl rfl RA.out.there RA.out.info2 RA.out.one ?_))
              rw [← hw5, ← hbb]
              clear hw5 hbb c0 c1 c2
              refine R1.out.mono ?_
              rintro e w6 ⟨au, cu, rfl, h6⟩
              have H6 := Lib.hid h6
              clear h6
              go_wp2_with (refine Byt.wpList_val rfl (LD.out w6 au cu H6.out _ _ _ rfl rfl) ?_)
              refine (DO.out w6 au cu H6.out).mono ?_
              rintro e w7 ⟨rfl, h7⟩
              have H7 := Lib.hid h7
              clear h7 H6 LD DO
              go_wp2_with (fail)
              refine (R2.out w7 au cu H7.out).mono ?_
              rintro e w8 ⟨av, cv, rfl, h8⟩
              have H8 := Lib.hid h8
              have HF8 := Lib.hid ((h8.drop 1).drop2.drop2)
              clear h8 H7 R2
              clear H8
              go_wp2
              go_roundw
              case rel => exact ⟨i + 1, s2, true, by omega, by go_num, rfl, HF8.out, OK2.out, SZ2.out, fun h => by cases h⟩
              case measure => simp [intOf]; omega
          · have hb2 : (a.page == (kk : Int)) = false := by simp [hpg]
            have q1 : ((r : Int) == 1) = false := by simp; omega
            have PX : Hid (tb = false → Pristine s2 sg kk) := fun h => PA.out h (fun hh => hh.2.elim (fun h2 => hpg h2.2) (fun h2 => by omega))
            clear PA PB PE hseg hpg hr0
            by_cases he : er = 0
            · have he' : ((er : Int) == 0) = true := by simp [he]
              go_wp2_with (first
                | (refine wpList_load_mid rfl 35 (.tmp 41) rfl b (o + i * 7) rfl vs _ RA.out.range Try.underlying35 rfl RA.out.info ?_)
                | (refine wpList_store_mid rfl 35 (.tmp 12) (.tmp 42) rfl wr.heap.size 0 vs.toArray rfl rfl RA.out.there RA.out.info2 RA.out.one ?_))
              rw [← hw5, ← hbb]
              clear hw5 hbb c0 c1 c2
              refine R1.out.mono ?_
              rintro e w6 ⟨au, cu, rfl, h6⟩
              have H6 := Lib.hid h6
              clear h6
              go_wp2_with (refine Byt.wpList_val rfl (LD.out w6 au cu H6.out _ _ _ rfl rfl) ?_)
              refine (DO.out w6 au cu H6.out).mono ?_
              rintro e w7 ⟨rfl, h7⟩
              have H7 := Lib.hid h7
              clear h7 H6 LD DO
              go_wp2_with (fail)
              refine (R2.out w7 au cu H7.out).mono ?_
              rintro e w8 ⟨av, cv, rfl, h8⟩
              have H8 := Lib.hid h8
              have HF8 := Lib.hid ((h8.drop 1).drop2.drop2)
              clear h8 H7 R2
              clear H8
              go_wp2
              go_roundw
              case rel => exact ⟨i + 1, s2, tb, by omega, by go_num, rfl, HF8.out, OK2.out, SZ2.out, PX.out⟩
              case measure => simp [intOf]; omega
            · have he' : ((er : Int) == 0) = false := by simp; omega
              go_wp2_with (first
                | (refine wpList_load_mid rfl 35 (.tmp 41) rfl b (o + i * 7) rfl vs _ RA.out.range Try.underlying35 rfl RA.out.info ?_)
                | (refine wpList_store_mid rfl 35 (.tmp 12) (.tmp 42) rfl wr.heap.size 0 vs.toArray rfl rfl RA.out.there RA.out.info2 RA.out.one ?_))
              rw [← hw5, ← hbb]
              clear hw5 hbb c0 c1 c2
              refine R1.out.mono ?_
              rintro e w6 ⟨au, cu, rfl, h6⟩
              have H6 := Lib.hid h6
              clear h6
              go_wp2_with (refine Byt.wpList_val rfl (LD.out w6 au cu H6.out _ _ _ rfl rfl) ?_)
              refine (DO.out w6 au cu H6.out).mono ?_
              rintro e w7 ⟨rfl, h7⟩
              have H7 := Lib.hid h7
              clear h7 H6 LD DO
              go_wp2_with (fail)
              refine (R2.out w7 au cu H7.out).mono ?_
              rintro e w8 ⟨av, cv, rfl, h8⟩
              have H8 := Lib.hid h8
              have HF8 := Lib.hid ((h8.drop 1).drop2.drop2)
              clear h8 H7 R2
              clear H8
              go_wp2
              go_roundw
              case rel => exact ⟨i + 1, s2, tb, by omega, by go_num, rfl, HF8.out, OK2.out, SZ2.out, PX.out⟩
              case measure => simp [intOf]; omega
        have q0 : ((r : Int) == 0) = false := by simp; omega
        by_cases hr1 : r = 1
        · have q1 : ((r : Int) == 1) = true := by simp [hr1]
          have q2 : ((r : Int) == 2) = false := by simp; omega
          clear PA PB PE hseg hr0 hr1
          by_cases he : er = 0
          · have he' : ((er : Int) == 0) = true := by simp [he]
            go_wp2_with (first
              | (refine wpList_load_mid rfl 35 (.tmp 41) rfl b (o + i * 7) rfl vs _ RA.out.range Try.underlying35 rfl RA.out.info ?_)
              | (refine wpList_store_mid rfl 35 (.tmp 12) (.tmp 42) rfl wr.heap.size 0 vs.toArray rfl rfl RA.out.there RA.out.info2 RA.out.one ?_))
            rw [← hw5, ← hbb]
            clear hw5 hbb c0 c1 c2
            refine R1.out.mono ?_
            rintro e w6 ⟨au, cu, rfl, h6⟩
            have H6 := Lib.hid h6
            clear h6
            go_wp2_with (refine Byt.wpList_val rfl (LD.out w6 au cu H6.out _ _ _ rfl rfl) ?_)
            refine (DO.out w6 au cu H6.out).mono ?_
            rintro e w7 ⟨rfl, h7⟩
            have H7 := Lib.hid h7
            clear h7 H6 LD DO
            go_wp2_with (fail)
            refine (R2.out w7 au cu H7.out).mono ?_
            rintro e w8 ⟨av, cv, rfl, h8⟩
            have H8 := Lib.hid h8
            have HF8 := Lib.hid ((h8.drop 1).drop2.drop2)
            clear h8 H7 R2
            clear H8
            go_wp2
            go_roundw
            case rel => exact ⟨i + 1, s2, true, by omega, by go_num, rfl, HF8.out, OK2.out, SZ2.out, fun h => by cases h⟩
            case measure => simp [intOf]; omega
          · have he' : ((er : Int) == 0) = false := by simp; omega
            go_wp2_with (first
              | (refine wpList_load_mid rfl 35 (.tmp 41) rfl b (o + i * 7) rfl vs _ RA.out.range Try.underlying35 rfl RA.out.info ?_)
              | (refine wpList_store_mid rfl 35 (.tmp 12) (.tmp 42) rfl wr.heap.size 0 vs.toArray rfl rfl RA.out.there RA.out.info2 RA.out.one ?_))
            rw [← hw5, ← hbb]
            clear hw5 hbb c0 c1 c2
            refine R1.out.mono ?_
            rintro e w6 ⟨au, cu, rfl, h6⟩
            have H6 := Lib.hid h6
            clear h6
            go_wp2_with (refine Byt.wpList_val rfl (LD.out w6 au cu H6.out _ _ _ rfl rfl) ?_)
            refine (DO.out w6 au cu H6.out).mono ?_
            rintro e w7 ⟨rfl, h7⟩
            have H7 := Lib.hid h7
            clear h7 H6 LD DO
            go_wp2_with (fail)
            refine (R2.out w7 au cu H7.out).mono ?_
            rintro e w8 ⟨av, cv, rfl, h8⟩
            have H8 := Lib.hid h8
            have HF8 := Lib.hid ((h8.drop 1).drop2.drop2)
            clear h8 H7 R2
            clear H8
            go_wp2
            go_roundw
            case rel => exact ⟨i + 1, s2, true, by omega, by go_num, rfl, HF8.out, OK2.out, SZ2.out, fun h => by cases h⟩
            case measure => simp [intOf]; omega
        have q1 : ((r : Int) == 1) = false := by simp; omega
        have PX : Hid (tb = false → Pristine s2 sg kk) := fun h => PA.out h (by rintro ⟨_, ⟨h2, _⟩ | h2⟩ <;> omega)
        by_cases hr2 : r = 2
        · have q2 : ((r : Int) == 2) = true := by simp [hr2]
          by_cases he : er = 0
          · have he' : ((er : Int) == 0) = true := by simp [he]
            have PY := Lib.hid (PB.out hr2 he)
            clear PA PB PE PX hseg hr0 hr1 hr2 he
            go_wp2_with (first
              | (refine wpList_load_mid rfl 35 (.tmp 41) rfl b (o + i * 7) rfl vs _ RA.out.range Try.underlying35 rfl RA.out.info ?_)
              | (refine wpList_store_mid rfl 35 (.tmp 12) (.tmp 42) rfl wr.heap.size 0 vs.toArray rfl rfl RA.out.there RA.out.info2 RA.out.one ?_))
            rw [← hw5, ← hbb]
            clear hw5 hbb c0 c1 c2
            refine R1.out.mono ?_
            rintro e w6 ⟨au, cu, rfl, h6⟩
            have H6 := Lib.hid h6
            clear h6
            go_wp2_with (refine Byt.wpList_val rfl (LD.out w6 au cu H6.out _ _ _ rfl rfl) ?_)
            refine (DO.out w6 au cu H6.out).mono ?_
            rintro e w7 ⟨rfl, h7⟩
            have H7 := Lib.hid h7
            clear h7 H6 LD DO
            go_wp2_with (fail)
            refine (R2.out w7 au cu H7.out).mono ?_
            rintro e w8 ⟨av, cv, rfl, h8⟩
            have H8 := Lib.hid h8
            have HF8 := Lib.hid ((h8.drop 1).drop2.drop2)
            clear h8 H7 R2
            clear H8
            go_wp2
            go_roundw
            case rel => exact ⟨i + 1, s2, false, by omega, by go_num, rfl, HF8.out, OK2.out, SZ2.out, fun _ => PY.out⟩
            case measure => simp [intOf]; omega
          · have he' : ((er : Int) == 0) = false := by simp; omega
            clear PA PB PE hseg hr0 hr1 hr2 he
            go_wp2_with (first
              | (refine wpList_load_mid rfl 35 (.tmp 41) rfl b (o + i * 7) rfl vs _ RA.out.range Try.underlying35 rfl RA.out.info ?_)
              | (refine wpList_store_mid rfl 35 (.tmp 12) (.tmp 42) rfl wr.heap.size 0 vs.toArray rfl rfl RA.out.there RA.out.info2 RA.out.one ?_))
            rw [← hw5, ← hbb]
            clear hw5 hbb c0 c1 c2
            refine R1.out.mono ?_
            rintro e w6 ⟨au, cu, rfl, h6⟩
            have H6 := Lib.hid h6
            clear h6
            go_wp2_with (refine Byt.wpList_val rfl (LD.out w6 au cu H6.out _ _ _ rfl rfl) ?_)
            refine (DO.out w6 au cu H6.out).mono ?_
            rintro e w7 ⟨rfl, h7⟩
            have H7 := Lib.hid h7
            clear h7 H6 LD DO
            go_wp2_with (fail)
            refine (R2.out w7 au cu H7.out).mono ?_
            rintro e w8 ⟨av, cv, rfl, h8⟩
            have H8 := Lib.hid h8
            have HF8 := Lib.hid ((h8.drop 1).drop2.drop2)
            clear h8 H7 R2
            clear H8
            go_wp2
            go_roundw
            case rel => exact ⟨i + 1, s2, tb, by omega, by go_num, rfl, HF8.out, OK2.out, SZ2.out, PX.out⟩
            case measure => simp [intOf]; omega
        · have q2 : ((r : Int) == 2) = false := by simp; omega
          clear PA PB PE hseg hr0 hr1 hr2
          by_cases he : er = 0
          · have he' : ((er : Int) == 0) = true := by simp [he]
            go_wp2_with (first
              | (refine wpList_load_mid rfl 35 (.tmp 41) rfl b (o + i * 7) rfl vs _ RA.out.range Try.underlying35 rfl RA.out.info ?_)
              | (refine wpList_store_mid rfl 35 (.tmp 12) (.tmp 42) rfl wr.heap.size 0 vs.toArray rfl rfl RA.out.there RA.out.info2 RA.out.one ?_))
            rw [← hw5, ← hbb]
            clear hw5 hbb c0 c1 c2
            refine R1.out.mono ?_
            rintro e w6 ⟨au, cu, rfl, h6⟩
            have H6 := Lib.hid h6
            clear h6
            go_wp2_with (refine Byt.wpList_val rfl (LD.out w6 au cu H6.out _ _ _ rfl rfl) ?_)
            refine (DO.out w6 au cu H6.out).mono ?_
            rintro e w7 ⟨rfl, h7⟩
            have H7 := Lib.hid h7
            clear h7 H6 LD DO
            go_wp2_with (fail)
            refine (R2.out w7 au cu H7.out).mono ?_
            rintro e w8 ⟨av, cv, rfl, h8⟩
            have H8 := Lib.hid h8
            have HF8 := Lib.hid ((h8.drop 1).drop2.drop2)
            clear h8 H7 R2
            clear H8
            go_wp2
            go_roundw
            case rel => exact ⟨i + 1, s2, tb, by omega, by go_num, rfl, HF8.out, OK2.out, SZ2.out, PX.out⟩
            case measure => simp [intOf]; omega
          · have he' : ((er : Int) == 0) = false := by simp; omega
            go_wp2_with (first
              | (refine wpList_load_mid rfl 35 (.tmp 41) rfl b (o + i * 7) rfl vs _ RA.out.range Try.underlying35 rfl RA.out.info ?_)
              | (refine wpList_store_mid rfl 35 (.tmp 12) (.tmp 42) rfl wr.heap.size 0 vs.toArray rfl rfl RA.out.there RA.out.info2 RA.out.one ?_))
            rw [← hw5, ← hbb]
            clear hw5 hbb c0 c1 c2
            refine R1.out.mono ?_
            rintro e w6 ⟨au, cu, rfl, h6⟩
            have H6 := Lib.hid h6
            clear h6
            go_wp2_with (refine Byt.wpList_val rfl (LD.out w6 au cu H6.out _ _ _ rfl rfl) ?_)
            refine (DO.out w6 au cu H6.out).mono ?_
            rintro e w7 ⟨rfl, h7⟩
            have H7 := Lib.hid h7
            clear h7 H6 LD DO
            go_wp2_with (fail)
            refine (R2.out w7 au cu H7.out).mono ?_
            rintro e w8 ⟨av, cv, rfl, h8⟩
            have H8 := Lib.hid h8
            have HF8 := Lib.hid ((h8.drop 1).drop2.drop2)
            clear h8 H7 R2
            clear H8
            go_wp2
            go_roundw
            case rel => exact ⟨i + 1, s2, tb, by omega, by go_num, rfl, HF8.out, OK2.out, SZ2.out, PX.out⟩
            case measure => simp [intOf]; omega
      · have hb1 : (a.seg == (sg : Int)) = false := by simp [hseg]
        have PX : Hid (tb = false → Pristine s2 sg kk) := fun h => PA.out h (fun h2 => hseg h2.1)
        by_cases hr2 : r = 2
        · have q2 : ((r : Int) == 2) = true := by simp [hr2]
          by_cases he : er = 0
          · have he' : ((er : Int) == 0) = true := by simp [he]
            have PY := Lib.hid (PB.out hr2 he)
            clear PA PB PE PX hseg hr2 he
            go_wp2_with (first
              | (refine wpList_load_mid rfl 35 (.tmp 41) rfl b (o + i * 7) rfl vs _ RA.out.range Try.underlying35 rfl RA.out.info ?_)
              | (refine wpList_store_mid rfl 35 (.tmp 12) (.tmp 42) rfl wr.heap.size 0 vs.toArray rfl rfl RA.out.there RA.out.info2 RA.out.one ?_))
            rw [← hw5, ← hbb]
            clear hw5 hbb c0 c1 c2
            refine R1.out.mono ?_
            rintro e w6 ⟨au, cu, rfl, h6⟩
            have H6 := Lib.hid h6
            clear h6
            go_wp2_with (refine Byt.wpList_val rfl (LD.out w6 au cu H6.out _ _ _ rfl rfl) ?_)
            refine (DO.out w6 au cu H6.out).mono ?_
            rintro e w7 ⟨rfl, h7⟩
            have H7 := Lib.hid h7
            clear h7 H6 LD DO
            go_wp2_with (fail)
            refine (R2.out w7 au cu H7.out).mono ?_
            rintro e w8 ⟨av, cv, rfl, h8⟩
            have H8 := Lib.hid h8
            have HF8 := Lib.hid ((h8.drop 1).drop2.drop2)
            clear h8 H7 R2
            clear H8
            go_wp2
            go_roundw
            case rel => exact ⟨i + 1, s2, false, by omega, by go_num, rfl, HF8.out, OK2.out, SZ2.out, fun _ => PY.out⟩
            case measure => simp [intOf]; omega
          · have he' : ((er : Int) == 0) = false := by simp; omega
            clear PA PB PE hseg hr2 he
            go_wp2_with (first
              | (refine wpList_load_mid rfl 35 (.tmp 41) rfl b (o + i * 7) rfl vs _ RA.out.range Try.underlying35 rfl RA.out.info ?_)
              | (refine wpList_store_mid rfl 35 (.tmp 12) (.tmp 42) rfl wr.heap.size 0 vs.toArray rfl rfl RA.out.there RA.out.info2 RA.out.one ?_))
            rw [← hw5, ← hbb]
            clear hw5 hbb c0 c1 c2
            refine R1.out.mono ?_
            rintro e w6 ⟨au, cu, rfl, h6⟩
            have H6 := Lib.hid h6
            clear h6
            go_wp2_with (refine Byt.wpList_val rfl (LD.out w6 au cu H6.out _ _ _ rfl rfl) ?_)
            refine (DO.out w6 au cu H6.out).mono ?_
            rintro e w7 ⟨rfl, h7⟩
            have H7 := Lib.hid h7
            clear h7 H6 LD DO
            go_wp2_with (fail)
            refine (R2.out w7 au cu H7.out).mono ?_
            rintro e w8 ⟨av, cv, rfl, h8⟩
            have H8 := Lib.hid h8
            have HF8 := Lib.hid ((h8.drop 1).drop2.drop2)
            clear h8 H7 R2
            clear H8
            go_wp2
            go_roundw
            case rel => exact ⟨i + 1, s2, tb, by omega, by go_num, rfl, HF8.out, OK2.out, SZ2.out, PX.out⟩
            case measure => simp [intOf]; omega
        · have q2 : ((r : Int) == 2) = false := by simp; omega
          clear PA PB PE hseg hr2
          by_cases he : er = 0
          · have he' : ((er : Int) == 0) = true := by simp [he]
            go_wp2_with (first
              | (refine wpList_load_mid rfl 35 (.tmp 41) rfl b (o + i * 7) rfl vs _ RA.out.range Try.underlying35 rfl RA.out.info ?_)
              | (refine wpList_store_mid rfl 35 (.tmp 12) (.tmp 42) rfl wr.heap.size 0 vs.toArray rfl rfl RA.out.there RA.out.info2 RA.out.one ?_))
            rw [← hw5, ← hbb]
            clear hw5 hbb c0 c1 c2
            refine R1.out.mono ?_
            rintro e w6 ⟨au, cu, rfl, h6⟩
            have H6 := Lib.hid h6
            clear h6
            go_wp2_with (refine Byt.wpList_val rfl (LD.out w6 au cu H6.out _ _ _ rfl rfl) ?_)
            refine (DO.out w6 au cu H6.out).mono ?_
            rintro e w7 ⟨rfl, h7⟩
            have H7 := Lib.hid h7
            clear h7 H6 LD DO
            go_wp2_with (fail)
            refine (R2.out w7 au cu H7.out).mono ?_
            rintro e w8 ⟨av, cv, rfl, h8⟩
            have H8 := Lib.hid h8
            have HF8 := Lib.hid ((h8.drop 1).drop2.drop2)
            clear h8 H7 R2
            clear H8
            go_wp2
            go_roundw
            case rel => exact ⟨i + 1, s2, tb, by omega, by go_num, rfl, HF8.out, OK2.out, SZ2.out, PX.out⟩
            case measure => simp [intOf]; omega
          · have he' : ((er : Int) == 0) = false := by simp; omega
            go_wp2_with (first
              | (refine wpList_load_mid rfl 35 (.tmp 41) rfl b (o + i * 7) rfl vs _ RA.out.range Try.underlying35 rfl RA.out.info ?_)
              | (refine wpList_store_mid rfl 35 (.tmp 12) (.tmp 42) rfl wr.heap.size 0 vs.toArray rfl rfl RA.out.there RA.out.info2 RA.out.one ?_))
            rw [← hw5, ← hbb]
            clear hw5 hbb c0 c1 c2
            refine R1.out.mono ?_
            rintro e w6 ⟨au, cu, rfl, h6⟩
            have H6 := Lib.hid h6
            clear h6
            go_wp2_with (refine Byt.wpList_val rfl (LD.out w6 au cu H6.out _ _ _ rfl rfl) ?_)
            refine (DO.out w6 au cu H6.out).mono ?_
            rintro e w7 ⟨rfl, h7⟩
            have H7 := Lib.hid h7
            clear h7 H6 LD DO
            go_wp2_with (fail)
            refine (R2.out w7 au cu H7.out).mono ?_
            rintro e w8 ⟨av, cv, rfl, h8⟩
            have H8 := Lib.hid h8
            have HF8 := Lib.hid ((h8.drop 1).drop2.drop2)
            clear h8 H7 R2
            clear H8
            go_wp2
            go_roundw
            case rel => exact ⟨i + 1, s2, tb, by omega, by go_num, rfl, HF8.out, OK2.out, SZ2.out, PX.out⟩
            case measure => simp [intOf]; omega
    · go_wp2
      go_ret
      exact ⟨rfl, H.out.below⟩
end Fla
end Go.Proofs.Ytepllhfofhehaaa
