/- BackEither: the walk. -/
import Derived.Test.YtkddeccgoamopaaBakK
import Derived.Test.YtkddeccgoamopaaStrS
namespace Go.Proofs.Ytkddeccgoamopaa
open Go.RowKit Go.Own
namespace Bak
open Go.BakM Byt

theorem len_trip (s : DS) : (trip s).safe.length = s.safe.length := by rw [(trip_same s).1]
theorem len_some {s : DS} {N : Nat} (ok : Ok s N) (t : Nat) : (some' s t).safe.length = s.safe.length := (shape_all t s.L s.safe 0 ok.shape ok.puts).len
theorem len_act {s : DS} {N : Nat} (ok : Ok s N) (a : ActD) : (doAct s a).1.safe.length = s.safe.length := by
  unfold doAct
  split
  · unfold write
    split
    · rfl
    · split
      · exact len_trip s
      · exact len_trip s
  · unfold barrier
    split
    · exact len_trip s
    · exact (len_some (ok_trip ok) full).trans (len_trip s)
  · show (cut s a.n).safe.length = _
    unfold cut
    split <;> rfl
  · exact len_some ok a.there
  · rfl
/-- a table filled up to a cell -/
def upTo (g : Nat → Bs) (m : Nat) : Nat → Bs := fun i => if i < m then g i else []
theorem upTo_next (g : Nat → Bs) (i : Nat) : rowB (putB (upTo g i) i (g i)) = rowB (upTo g (i + 1)) := by
  apply rowB_congr
  intro j hj
  unfold putB upTo
  by_cases e : j = i
  · rw [if_pos e, if_pos (by omega), e]
  · rw [if_neg e]
    by_cases h : j < i
    · rw [if_pos h, if_pos (by omega)]
    · rw [if_neg h, if_neg (by omega)]
theorem upTo_all (g : Nat → Bs) : rowB (upTo g 10) = rowB g := by
  apply rowB_congr
  intro i hi
  unfold upTo
  rw [if_pos hi]
theorem upTo_zero (g : Nat → Bs) : rowB (upTo g 0) = List.replicate 10 (strW []) := by rfl
/-- behind a crash all is safe -/
theorem lit_crash {s : DS} {N : Nat} (ok : Ok s N) (h : s.safe.length = 10) (t : Nat) : Lit10 (crash s t) := ⟨by show (some' s t).safe.length = 10; rw [len_some ok t, h], rfl, rfl⟩
theorem lit_read {s : DS} (h : Lit10 s) {q : Nat} (hq : q < 10) : BakM.read s (q : Int) = (now s q, 0) := by
  unfold BakM.read
  rw [if_neg (by unfold there; rw [h.len]; simp; omega), if_neg (by rw [h.off]; simp)]
  rfl
theorem either {s : DS} {N : Nat} (ok : Ok s N) (h : s.safe.length = 10) (t0 t k : Nat) (hk : k < 10) (b : Bs) (hb : b.length = 256) :
    (write (crash s t0) (k : Int) b).2 = 0 ∧ Lit10 (write (crash s t0) (k : Int) b).1 ∧ ∀ q, q < 10 → now (crash (write (crash s t0) (k : Int) b).1 t) q = now (crash s t0) q ∨ (q = k ∧ t % 2 = 1 ∧ now (crash (write (crash s t0) (k : Int) b).1 t) q = b) := by
  have L1 := lit_crash ok h t0
  have e : ¬ (there (crash s t0) (k : Int) = false ∨ b.length ≠ 256) := by
    unfold there
    rw [L1.len, hb]
    simp
    omega
  rw [L1.write, if_neg e]
  refine ⟨rfl, ⟨L1.len, L1.off, L1.left⟩, fun q hq => ?_⟩
  have e3 : now (crash s t0) q = (crash s t0).safe.getD q [] := rfl
  have e4 : ∀ (s3 : DS), now (crash s3 t) q = (doAll t s3.safe 0 s3.L).getD q [] := fun _ => rfl
  rw [e3, e4]
  show (doAll t (crash s t0).safe 0 [(⟨(k : Int).toNat, b⟩ : BakM.Put)]).getD q [] = _ ∨ q = k ∧ t % 2 = 1 ∧ (doAll t (crash s t0).safe 0 [(⟨(k : Int).toNat, b⟩ : BakM.Put)]).getD q [] = b
  show ((if bitOf t 0 then (crash s t0).safe.set k b else (crash s t0).safe)).getD q [] = _ ∨ q = k ∧ t % 2 = 1 ∧ ((if bitOf t 0 then (crash s t0).safe.set k b else (crash s t0).safe)).getD q [] = b
  by_cases hbit : bitOf t 0 = true
  · rw [if_pos hbit]
    by_cases hqk : q = k
    · subst hqk
      right
      refine ⟨rfl, by simpa [bitOf] using hbit, ?_⟩
      rw [List.getD_eq_getElem?_getD, List.getElem?_set_self (by rw [L1.len]; exact hq)]; rfl
    · left
      rw [List.getD_eq_getElem?_getD, List.getElem?_set_ne (fun x => hqk x.symm), ← List.getD_eq_getElem?_getD]
  · left
    rw [if_neg hbit]

set_option maxRecDepth 6000 in
set_option maxHeartbeats 16000000 in
theorem walk_either (a0 : Option Addr) (len0 cap0 : Nat) (l : List ActD) (n0 n1 n2 : Int) (wn0 : (Lit.int .u8 n0).wf = true) (wn1 : (Lit.int .u8 n1).wf = true) (wn2 : (Lit.int .u64 n2).wf = true) {w : World} (w0 : inSlice 6 inAct l w.heap.size w [.slice a0 len0 cap0]) (K : Kept w) :
    Calls Try.prog 4 #[.slice a0 len0 cap0, .int .u8 n0, .int .u8 n1, .int .u64 n2] w (RetYes w) := by
  obtain ⟨hlen, hcap, hmax, _, hat⟩ := acts_in w0
  obtain ⟨nc, rfl⟩ := u8_byte wn0
  obtain ⟨c, rfl⟩ := u8_byte wn1
  obtain ⟨t, rfl, ht⟩ := wfU wn2
  obtain ⟨k, hk⟩ : ∃ k, k = nc.toNat % 10 := ⟨_, rfl⟩
  have hk10 : k < 10 := by omega
  have hki : (nc.toNat : Int) % 10 = (k : Int) := by omega
  have hnb : nc.toNat < 256 := nc.toNat_lt
  have SH := Lib.hid (shown_any K (Below.refl _ _))
  have HF := Lib.hid (few_any a0 len0 cap0 hcap hmax)
  have HAT := Lib.hid hat
  have HLEN := Lib.hid hlen
  have hmax2 : cap0 ≤ 9223372036854775807 := by unfold maxLen at hmax; omega
  have TB := Lib.hid ht
  clear hat hlen w0 hmax ht hk
  go_enter Try.func4, Try.ntmps4
  go_wp2_with (fail)
  refine SH.out.mono ?_
  rintro e w1 ⟨rfl, h1⟩
  have H1 := Lib.hid ((Own.St.start w).later h1)
  clear h1
  go_wp2_with (fail)
  refine (new10 K H1.out.below H1.out).mono ?_
  rintro e w2 ⟨p, rfl, h2⟩
  have H2 := Lib.hid h2
  clear h2 H1
  go_wp2_with (fail)
  refine (HF.out w2).mono ?_
  rintro e w4 ⟨rfl, rfl⟩
  obtain ⟨m, hm⟩ : ∃ m, m = min len0 100 := ⟨_, rfl⟩
  rw [← hm]
  have hm1 : m ≤ len0 := by omega
  have hm2 : m ≤ 100 := by omega
  have O0 := Lib.hid ok10
  have L0 : Hid ((fresh 10).safe.length = 10) := lit_fresh.len
  clear hm
  go_wp2
  go_loopw [36] (fun v wr => ∃ (i : Nat) (s : DS), i ≤ m ∧ v = .int .i64 (i : Int) ∧ Own.St w.heap.size w wr [K.A p s] ∧ Ok s i ∧ s.safe.length = 10) (fun v _ => m - (intOf v).toNat)
  case atStart => exact ⟨0, _, Nat.zero_le _, rfl, H2.out, O0.out, L0.out⟩
  case round =>
    obtain ⟨i, s, him, rfl, hH, hok, hlt⟩ := hrel
    have H := Lib.hid hH
    have OK := Lib.hid hok
    have LT := Lib.hid hlt
    clear hH hok hlt H2 O0 L0
    by_cases hi : (i : Int) < (m : Int)
    · have hil : i < l.length := by rw [← HLEN.out]; omega
      obtain ⟨b, o, rfl, hb, hact⟩ := HAT.out (by intro e; rw [e] at hil; simp at hil)
      obtain ⟨a, ha⟩ : ∃ a, a = l[i] := ⟨_, rfl⟩
      have hat1 := hact wr (fun k hk => H.out.below.block k hk) i hil
      rw [← ha] at hat1
      obtain ⟨vs, RA0⟩ := round_act H.out hat1
      have RA := Lib.hid RA0
      obtain ⟨bb, hbb⟩ : ∃ bb, bb = wr.heap.size := ⟨_, rfl⟩
      obtain ⟨w5, hw5⟩ : ∃ w5, w5 = (wr.alloc (.cells zeroAct.toArray 34)).setCells wr.heap.size 0 vs := ⟨_, rfl⟩
      have hst := RA.out.st
      rw [List.toList_toArray] at hst
      rw [← hw5, ← hbb] at hst
      have H5 := Lib.hid hst.swap2
      have LD5 : Hid (∀ (ρ : Operand → Value) (o : Oper) (x : Tmp), o.op = .load 34 (.tmp x) → ρ (.tmp x) = .pointer (some ⟨wr.heap.size, 0, none⟩) → (execOp ρ o).run Try.prog ((wr.alloc (.cells zeroAct.toArray 34)).setCells wr.heap.size 0 vs) = .ok (.value (.agg vs.toArray)) ((wr.alloc (.cells zeroAct.toArray 34)).setCells wr.heap.size 0 vs)) := by
        intro ρ o x ho h0
        rw [← hw5]
        rw [← hbb] at h0
        exact load_actV ho RA.out.len (hst.rowV 0 rfl) (Below.refl _ _) ρ h0
      have q6 := ok_act OK.out a RA.out.fits.n
      have q7 := (len_act OK.out a).trans LT.out
      obtain ⟨s2, hs2⟩ : ∃ s2, s2 = (doAct s a).1 := ⟨_, rfl⟩
      obtain ⟨er, her⟩ : ∃ er, er = (doAct s a).2 := ⟨_, rfl⟩
      rw [← hs2] at q6 q7
      have OK2 := Lib.hid q6
      have LT2 := Lib.hid q7
      have DO : Hid (Calls Try.prog 16 #[qtr p, .agg vs.toArray] w5 fun e w' => e = .returned (.int .i64 (er : Int)) ∧ Own.St w.heap.size w w' [K.A p s2, AVals bb 34 vs]) := by
        rw [her, hs2, RA.out.vs_]
        have hwx' := H5.out
        rw [RA.out.vs_] at hwx'
        exact does_any K a hwx'.below hwx' OK.out (by omega) RA.out.fits
      clear hst hact hat1 RA0 ha q6 q7 hs2 her
      go_wp2_with (first
        | (refine wpList_load_mid rfl 34 (.tmp 38) rfl b (o + i * 6) rfl vs _ RA.out.range Try.underlying34 rfl RA.out.info ?_)
        | (refine wpList_store_mid rfl 34 (.tmp 13) (.tmp 39) rfl wr.heap.size 0 vs.toArray rfl rfl RA.out.there RA.out.info2 RA.out.one ?_)
        | (refine Byt.wpList_val rfl (LD5.out _ _ _ rfl rfl) ?_))
      rw [← hw5]
      clear hw5 hbb LD5 RA H
      refine DO.out.mono ?_
      rintro e w6 ⟨rfl, h6⟩
      have H6 := Lib.hid h6.drop2
      clear h6 H5 DO
      go_wp2
      go_roundw
      case rel => exact ⟨i + 1, s2, by omega, by go_num, H6.out, OK2.out, LT2.out⟩
      case measure => simp [intOf]; omega
    · obtain ⟨x1, hx1⟩ : ∃ x1, x1 = crash s 0 := ⟨_, rfl⟩
      have K1 : Hid (Calls Try.prog 13 #[qtr p, .int .u64 0] wr fun e w' => e = .returned (.tuple #[]) ∧ Own.St w.heap.size w w' [K.A p x1]) := by
        rw [hx1]
        exact K.crash 0 H.out.below H.out OK.out (by omega) (by decide)
      have OK1 : Hid (Ok x1 i) := by show Ok x1 i; rw [hx1]; exact ok_crash OK.out 0
      have LT1 : Hid (Lit10 x1) := by show Lit10 x1; rw [hx1]; exact lit_crash OK.out LT.out 0
      obtain ⟨E1, E2, E3⟩ := either OK.out LT.out 0 t k hk10 (List.replicate 256 c) (List.length_replicate ..)
      rw [← hx1] at E1 E2 E3
      obtain ⟨x2, hx2⟩ : ∃ x2, x2 = (write x1 (k : Int) (List.replicate 256 c)).1 := ⟨_, rfl⟩
      have OK2 : Hid (Ok x2 (i + 1)) := by show Ok x2 _; rw [hx2]; exact ok_write OK1.out _ _
      rw [← hx2] at E2 E3
      have E1 := Lib.hid E1
      have E2 := Lib.hid E2
      have E3 := Lib.hid E3
      have HX2 := Lib.hid hx2
      clear hx1 hx2
      go_wp2_with (fail)
      refine K1.out.mono ?_
      rintro e w6 ⟨rfl, h6⟩
      clear K1 H
      obtain ⟨bg, hbg⟩ : ∃ b, b = w6.heap.size := ⟨_, rfl⟩
      have H3 : Hid (Own.St w.heap.size w (w6.alloc (.cells (List.replicate 10 (Value.string (strB []))).toArray 52)) [K.A p x1, AVals bg 52 (rowB (upTo (now x1) 0))]) := by
        have h := (h6.boxV 52 (rowB (upTo (now x1) 0))).swap2
        rw [← hbg] at h
        exact h
      clear h6
      go_wp2
      rw [← hbg]
      clear hbg hki
      go_loopw [49] (fun v wr => ∃ q : Nat, q ≤ 10 ∧ v = .int .i64 (q : Int) ∧ Own.St w.heap.size w wr [K.A p x1, AVals bg 52 (rowB (upTo (now x1) q))]) (fun v _ => 10 - (intOf v).toNat)
      case atStart => exact ⟨0, Nat.zero_le _, rfl, H3.out⟩
      case round =>
        obtain ⟨q, hq10', rfl, hG⟩ := hrel
        have G := Lib.hid hG
        clear hG H3
        by_cases hq : (q : Int) < 10
        · have hq10 : q < 10 := by omega
          obtain ⟨x, hx⟩ : ∃ x, x = now x1 q := ⟨_, rfl⟩
          obtain ⟨n, hn⟩ : ∃ n, n = x.length := ⟨_, rfl⟩
          have RD : Hid (Calls Try.prog 21 #[qtr p, .int .i64 (q : Int)] wr fun e w' => ∃ ao cap, e = .returned (.tuple #[.slice ao n cap, .int .i64 0]) ∧ Own.St w.heap.size w w' [AB ao n cap x, K.A p x1, AVals bg 52 (rowB (upTo (now x1) q))]) := by
            have h := K.read (q : Int) G.out.below G.out OK1.out (by omega) ⟨by omega, by omega⟩
            rw [lit_read LT1.out hq10, ← hx] at h
            rw [hn]
            exact h
          go_wp2_with (fail)
          refine RD.out.mono ?_
          rintro e w8 ⟨ar, cr, rfl, h8⟩
          have G8 := Lib.hid h8
          have hcv := given_str (given_own h8 0 rfl)
          obtain ⟨cw, fw⟩ := h8.cellV 2 rfl q (rowB_at (upTo (now x1) q) hq10)
          have G10 : Hid (Own.St w.heap.size w (w8.setCell ⟨bg, q, none⟩ (.string (strB x))) [K.A p x1, AVals bg 52 (rowB (upTo (now x1) (q + 1)))]) := by
            have h := h8.storeV 2 rfl q (.string (strB x))
            simp only [List.set_cons_succ, List.set_cons_zero] at h
            rw [rowB_set, hx, upTo_next] at h
            rw [hx]
            exact h.drop 1
          clear h8 G RD hx hn G8
          go_wp2
          clear hcv cw fw
          go_roundw
          case rel => exact ⟨q + 1, by omega, by go_num, G10.out⟩
          case measure => simp [intOf]; omega
        · have G4 : Hid (Own.St w.heap.size w wr [K.A p x1, AVals bg 52 (rowB (now x1))]) := by
            have h := G.out
            have e : q = 10 := by omega
            rw [e, upTo_all] at h
            exact h
          clear G
          go_wp2_with (fail)
          refine (block_any c G4.out).mono ?_
          rintro e w9 ⟨g, rfl, h9⟩
          have WR : Hid (Calls Try.prog 14 #[qtr p, .int .i64 (k : Int), .slice (some ⟨g, 0, none⟩) 256 256] w9 fun e w' => e = .returned (.int .i64 0) ∧ Own.St w.heap.size w w' [K.A p x2, AVals bg 52 (rowB (now x1))]) := by
            refine (K.write (k : Int) (some ⟨g, 0, none⟩) 256 256 (List.replicate 256 c) h9.swap2.below h9.swap2 OK1.out (by omega) ⟨by omega, by omega⟩ (lies_part (k := 0) h9.swap2 (by omega)) (by omega)).mono ?_
            rintro e w' ⟨he, h⟩
            rw [E1.out] at he
            rw [HX2.out]
            exact ⟨he, h.drop2⟩
          clear h9 G4
          go_wp2_with (fail)
          refine WR.out.mono ?_
          rintro e w10 ⟨rfl, h10⟩
          obtain ⟨x3, hx3⟩ : ∃ x3, x3 = crash x2 t := ⟨_, rfl⟩
          have K3 : Hid (Calls Try.prog 13 #[qtr p, .int .u64 (t : Int)] w10 fun e w' => e = .returned (.tuple #[]) ∧ Own.St w.heap.size w w' [K.A p x3, AVals bg 52 (rowB (now x1))]) := by
            rw [hx3]
            exact K.crash t h10.below h10 OK2.out (by omega) TB.out
          have OK3 : Hid (Ok x3 (i + 1)) := by show Ok x3 _; rw [hx3]; exact ok_crash OK2.out t
          have LT3 : Hid (Lit10 x3) := by show Lit10 x3; rw [hx3]; exact lit_crash OK2.out E2.out.len t
          have E4 : Hid (∀ q, q < 10 → now x3 q = now x1 q ∨ (q = k ∧ t % 2 = 1 ∧ now x3 q = List.replicate 256 c)) := by rw [hx3]; exact E3.out
          clear h10 WR hx3 E3
          go_wp2_with (fail)
          refine K3.out.mono ?_
          rintro e w11 ⟨rfl, h11⟩
          have H11 := Lib.hid h11
          clear h11 K3
          go_wp2
          go_loopw [74] (fun v wx => ∃ q : Nat, q ≤ 10 ∧ v = .int .i64 (q : Int) ∧ Own.St w.heap.size w wx [K.A p x3, AVals bg 52 (rowB (now x1))]) (fun v _ => 10 - (intOf v).toNat)
          case atStart => exact ⟨0, Nat.zero_le _, rfl, H11.out⟩
          case round =>
            obtain ⟨q, hqt, rfl, hG⟩ := hrel
            have G := Lib.hid hG
            clear hG H11
            by_cases hq : (q : Int) < 10
            · have hq10 : q < 10 := by omega
              obtain ⟨x, hx⟩ : ∃ x, x = now x3 q := ⟨_, rfl⟩
              obtain ⟨y, hy⟩ : ∃ y, y = now x1 q := ⟨_, rfl⟩
              obtain ⟨n, hn⟩ : ∃ n, n = x.length := ⟨_, rfl⟩
              have CASE := Lib.hid (E4.out q hq10)
              rw [← hx, ← hy] at CASE
              have RD : Hid (Calls Try.prog 21 #[qtr p, .int .i64 (q : Int)] wr fun e w' => ∃ ao cap, e = .returned (.tuple #[.slice ao n cap, .int .i64 0]) ∧ Own.St w.heap.size w w' [AB ao n cap x, K.A p x3, AVals bg 52 (rowB (now x1))]) := by
                have h := K.read (q : Int) G.out.below G.out OK3.out (by omega) ⟨by omega, by omega⟩
                rw [lit_read LT3.out hq10, ← hx] at h
                rw [hn]
                exact h
              go_wp2_with (fail)
              refine RD.out.mono ?_
              rintro e w8 ⟨ar, cr, rfl, h8⟩
              have G8 := Lib.hid h8
              have GB : Hid (Given w8 ar n cr x) := given_own h8 0 rfl
              have CJ : Hid (∀ wx, Below w8.heap.size w8 wx → wx.cell? ⟨bg, q, none⟩ = some (.string (strB y))) := by
                intro wx hwx
                rw [hy]
                exact ((G8.out.later hwx).cellV 2 rfl q (rowB_at (now x1) hq10)).1
              clear h8 G RD hx hn hy
              go_wp2_with (fail)
              by_cases hxe : x = y
              · have hxy : decide (x = y) = !false := by simp [hxe]
                refine wp_lax_list (by kernel_rfl) (by kernel_rfl) (by kernel_rfl) ?_
                refine wpL_move (.int .i64 0) rfl (by kernel_rfl) (by kernel_rfl) (by kernel_rfl) (by kernel_rfl) ?_
                refine wpL_run1 (x := .tmp 83) (.int .i64 0) (.bool false) (by kernel_rfl) (by kernel_rfl) (by kernel_rfl) (by kernel_rfl) (by kernel_rfl) (fun wx ρ hwx h0 hc => by simp [go_sem, h0, hc]) ?_
                refine wpL_move (.bool false) rfl (by kernel_rfl) (by kernel_rfl) (by kernel_rfl) (by kernel_rfl) ?_
                refine wpL_move (.slice ar n cr) rfl (by kernel_rfl) (by kernel_rfl) (by kernel_rfl) (by kernel_rfl) ?_
                refine wpL_convK (.slice ar n cr) (.string (strB x)) rfl (by kernel_rfl) (by kernel_rfl) (by kernel_rfl) (by kernel_rfl) (fun wx hwx => given_str (GB.out.later hwx)) ?_
                refine wpL_move (.int .i64 (q : Int)) rfl (by kernel_rfl) (by kernel_rfl) (by kernel_rfl) (by kernel_rfl) ?_
                refine wpL_run2 (x := .tmp 15) (y := .tmp 88) (.pointer (some ⟨bg, 0, none⟩)) (.int .i64 (q : Int)) (.pointer (some ⟨bg, q, none⟩)) (by kernel_rfl) (by kernel_rfl) (by kernel_rfl) (by kernel_rfl) (by kernel_rfl) (by kernel_rfl) (fun wx ρ hwx h0 h1 hc => idxB rfl hq10 bg ρ wx h0 h1) ?_
                refine wpL_run1 (x := .tmp 89) (.pointer (some ⟨bg, q, none⟩)) (.string (strB y)) (by kernel_rfl) (by kernel_rfl) (by kernel_rfl) (by kernel_rfl) (by kernel_rfl) (fun wx ρ hwx h0 hc => load_st rfl (CJ.out wx hwx) h0) ?_
                refine wpL_run2 (x := .tmp 87) (y := .tmp 90) (.string (strB x)) (.string (strB y)) (.bool false) (by kernel_rfl) (by kernel_rfl) (by kernel_rfl) (by kernel_rfl) (by kernel_rfl) (by kernel_rfl) (fun wx ρ hwx h0 h1 hc => neq_str rfl x y false hxy ρ wx h0 h1) ?_
                refine wpL_move (.bool false) rfl (by kernel_rfl) (by kernel_rfl) (by kernel_rfl) (by kernel_rfl) ?_
                refine wpL_skip (by kernel_rfl) (by kernel_rfl) ?_
                refine wpL_skip (by kernel_rfl) (by kernel_rfl) ?_
                refine wpL_skip (by kernel_rfl) (by kernel_rfl) ?_
                refine wpL_skip (by kernel_rfl) (by kernel_rfl) ?_
                refine wpL_skip (by kernel_rfl) (by kernel_rfl) ?_
                refine wpL_skip (by kernel_rfl) (by kernel_rfl) ?_
                refine wpL_skip (by kernel_rfl) (by kernel_rfl) ?_
                refine wpL_skip (by kernel_rfl) (by kernel_rfl) ?_
                refine wpL_skip (by kernel_rfl) (by kernel_rfl) ?_
                refine wpL_skip (by kernel_rfl) (by kernel_rfl) ?_
                refine wpL_skip (by kernel_rfl) (by kernel_rfl) ?_
                refine wpL_skip (by kernel_rfl) (by kernel_rfl) ?_
                refine wpL_skip (by kernel_rfl) (by kernel_rfl) ?_
                refine wpL_skip (by kernel_rfl) (by kernel_rfl) ?_
                refine wpL_skip (by kernel_rfl) (by kernel_rfl) ?_
                refine wpL_skip (by kernel_rfl) (by kernel_rfl) ?_
                refine wpL_run2 (x := .tmp 92) (y := .tmp 108) (.bool false) (undef) (.bool false) (by kernel_rfl) (by kernel_rfl) (by kernel_rfl) (by kernel_rfl) (by kernel_rfl) (by kernel_rfl) (fun wx ρ hwx h0 h1 hc => by simp [go_sem, h0, h1, hc]) ?_
                refine wpL_run2 (x := .tmp 85) (y := .tmp 109) (.bool false) (.bool false) (.bool false) (by kernel_rfl) (by kernel_rfl) (by kernel_rfl) (by kernel_rfl) (by kernel_rfl) (by kernel_rfl) (fun wx ρ hwx h0 h1 hc => by simp [go_sem, h0, h1, hc]) ?_
                refine wpL_end (by kernel_rfl) (fun w9 hw9 => ?_)
                simp only [FinL, setL, List.set_cons_zero, List.set_cons_succ]
                have G9 := Lib.hid ((G8.out.later hw9).drop 1)
                clear hw9 GB G8 CJ
                go_wp2
                go_roundw
                case rel => exact ⟨q + 1, by omega, by go_num, G9.out⟩
                case measure => simp [intOf]; omega
              · have hxy : decide (x = y) = !true := by simp [hxe]
                obtain ⟨hqk, ht2, hxc⟩ := CASE.out.resolve_left hxe
                have ht2 : (t : Int).tmod 2 = 1 := by rw [Int.tmod_eq_emod_of_nonneg (by omega)]; omega
                have PX : Hid (∀ wx, Calls Try.prog 15 #[.int .u8 (c.toNat : Int)] wx fun e w' => ∃ v, e = .returned v ∧ (tyG x).holds v w' ∧ Below wx.heap.size wx w') := by
                  rw [hxc]
                  exact fun wx => block_ty c wx
                refine wp_lax_list (by kernel_rfl) (by kernel_rfl) (by kernel_rfl) ?_
                refine wpL_move (.int .i64 0) rfl (by kernel_rfl) (by kernel_rfl) (by kernel_rfl) (by kernel_rfl) ?_
                refine wpL_run1 (x := .tmp 83) (.int .i64 0) (.bool false) (by kernel_rfl) (by kernel_rfl) (by kernel_rfl) (by kernel_rfl) (by kernel_rfl) (fun wx ρ hwx h0 hc => by simp [go_sem, h0, hc]) ?_
                refine wpL_move (.bool false) rfl (by kernel_rfl) (by kernel_rfl) (by kernel_rfl) (by kernel_rfl) ?_
                refine wpL_move (.slice ar n cr) rfl (by kernel_rfl) (by kernel_rfl) (by kernel_rfl) (by kernel_rfl) ?_
                refine wpL_convK (.slice ar n cr) (.string (strB x)) rfl (by kernel_rfl) (by kernel_rfl) (by kernel_rfl) (by kernel_rfl) (fun wx hwx => given_str (GB.out.later hwx)) ?_
                refine wpL_move (.int .i64 (q : Int)) rfl (by kernel_rfl) (by kernel_rfl) (by kernel_rfl) (by kernel_rfl) ?_
                refine wpL_run2 (x := .tmp 15) (y := .tmp 88) (.pointer (some ⟨bg, 0, none⟩)) (.int .i64 (q : Int)) (.pointer (some ⟨bg, q, none⟩)) (by kernel_rfl) (by kernel_rfl) (by kernel_rfl) (by kernel_rfl) (by kernel_rfl) (by kernel_rfl) (fun wx ρ hwx h0 h1 hc => idxB rfl hq10 bg ρ wx h0 h1) ?_
                refine wpL_run1 (x := .tmp 89) (.pointer (some ⟨bg, q, none⟩)) (.string (strB y)) (by kernel_rfl) (by kernel_rfl) (by kernel_rfl) (by kernel_rfl) (by kernel_rfl) (fun wx ρ hwx h0 hc => load_st rfl (CJ.out wx hwx) h0) ?_
                refine wpL_run2 (x := .tmp 87) (y := .tmp 90) (.string (strB x)) (.string (strB y)) (.bool true) (by kernel_rfl) (by kernel_rfl) (by kernel_rfl) (by kernel_rfl) (by kernel_rfl) (by kernel_rfl) (fun wx ρ hwx h0 h1 hc => neq_str rfl x y true hxy ρ wx h0 h1) ?_
                refine wpL_move (.bool true) rfl (by kernel_rfl) (by kernel_rfl) (by kernel_rfl) (by kernel_rfl) ?_
                refine wpL_move (.int .i64 (q : Int)) rfl (by kernel_rfl) (by kernel_rfl) (by kernel_rfl) (by kernel_rfl) ?_
                refine wpL_move (.int .i64 (k : Int)) rfl (by kernel_rfl) (by kernel_rfl) (by kernel_rfl) (by kernel_rfl) ?_
                refine wpL_run2 (x := .tmp 93) (y := .tmp 94) (.int .i64 (q : Int)) (.int .i64 (k : Int)) (.bool false) (by kernel_rfl) (by kernel_rfl) (by kernel_rfl) (by kernel_rfl) (by kernel_rfl) (by kernel_rfl) (fun wx ρ hwx h0 h1 hc => by simp [go_sem, h0, h1, hqk]) ?_
                refine wpL_move (.bool false) rfl (by kernel_rfl) (by kernel_rfl) (by kernel_rfl) (by kernel_rfl) ?_
                refine wpL_move (.slice ar n cr) rfl (by kernel_rfl) (by kernel_rfl) (by kernel_rfl) (by kernel_rfl) ?_
                refine wpL_convK (.slice ar n cr) (.string (strB x)) rfl (by kernel_rfl) (by kernel_rfl) (by kernel_rfl) (by kernel_rfl) (fun wx hwx => given_str (GB.out.later hwx)) ?_
                refine wpL_move (.int .u8 (c.toNat : Int)) rfl (by kernel_rfl) (by kernel_rfl) (by kernel_rfl) (by kernel_rfl) ?_
                refine wpL_fnT (tyG x) [.int .u8 (c.toNat : Int)] rfl rfl (by kernel_rfl) (by kernel_rfl) (by kernel_rfl) (by kernel_rfl) (fun _ _ => by simp [go_sem]) (fun wx hwx => PX.out wx) ?_
                refine wpL_conv (.string (strB x)) rfl rfl (by kernel_rfl) (by kernel_rfl) (fun u wx hwx hu => tyG_str hu) ?_
                refine wpL_run2 (x := .tmp 98) (y := .tmp 101) (.string (strB x)) (.string (strB x)) (.bool false) (by kernel_rfl) (by kernel_rfl) (by kernel_rfl) (by kernel_rfl) (by kernel_rfl) (by kernel_rfl) (fun wx ρ hwx h0 h1 hc => by simp [go_sem, h0, h1, hc]) ?_
                refine wpL_run2 (x := .tmp 96) (y := .tmp 102) (.bool false) (.bool false) (.bool false) (by kernel_rfl) (by kernel_rfl) (by kernel_rfl) (by kernel_rfl) (by kernel_rfl) (by kernel_rfl) (fun wx ρ hwx h0 h1 hc => by simp [go_sem, h0, h1, hc]) ?_
                refine wpL_move (.bool false) rfl (by kernel_rfl) (by kernel_rfl) (by kernel_rfl) (by kernel_rfl) ?_
                refine wpL_move (.int .u64 (t : Int)) rfl (by kernel_rfl) (by kernel_rfl) (by kernel_rfl) (by kernel_rfl) ?_
                refine wpL_run1 (x := .tmp 105) (.int .u64 (t : Int)) (.int .u64 1) (by kernel_rfl) (by kernel_rfl) (by kernel_rfl) (by kernel_rfl) (by kernel_rfl) (fun wx ρ hwx h0 hc => by simp [go_sem, h0, hc, ht2]) ?_
                refine wpL_run1 (x := .tmp 106) (.int .u64 1) (.bool false) (by kernel_rfl) (by kernel_rfl) (by kernel_rfl) (by kernel_rfl) (by kernel_rfl) (fun wx ρ hwx h0 hc => by simp [go_sem, h0, hc]) ?_
                refine wpL_run2 (x := .tmp 104) (y := .tmp 107) (.bool false) (.bool false) (.bool false) (by kernel_rfl) (by kernel_rfl) (by kernel_rfl) (by kernel_rfl) (by kernel_rfl) (by kernel_rfl) (fun wx ρ hwx h0 h1 hc => by simp [go_sem, h0, h1, hc]) ?_
                refine wpL_run2 (x := .tmp 92) (y := .tmp 108) (.bool true) (.bool false) (.bool false) (by kernel_rfl) (by kernel_rfl) (by kernel_rfl) (by kernel_rfl) (by kernel_rfl) (by kernel_rfl) (fun wx ρ hwx h0 h1 hc => by simp [go_sem, h0, h1, hc]) ?_
                refine wpL_run2 (x := .tmp 85) (y := .tmp 109) (.bool false) (.bool false) (.bool false) (by kernel_rfl) (by kernel_rfl) (by kernel_rfl) (by kernel_rfl) (by kernel_rfl) (by kernel_rfl) (fun wx ρ hwx h0 h1 hc => by simp [go_sem, h0, h1, hc]) ?_
                refine wpL_end (by kernel_rfl) (fun w9 hw9 => ?_)
                simp only [FinL, setL, List.set_cons_zero, List.set_cons_succ]
                intro u _
                have G9 := Lib.hid ((G8.out.later hw9).drop 1)
                clear hw9 GB G8 CJ
                go_wp2
                go_roundw
                case rel => exact ⟨q + 1, by omega, by go_num, G9.out⟩
                case measure => simp [intOf]; omega
            · go_wp2
              go_ret
              exact ⟨rfl, G.out.below⟩
end Bak
end Go.Proofs.Ytkddeccgoamopaa
