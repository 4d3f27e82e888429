/- The landed decode, Unpack; what the landed lz keeps. -/
import Derived.Test.YthmnaofmpijbiaaLzV
import Derived.Test.YthmnaofmpijbiaaLzU
import Derived.Test.YthmnaofmpijbiaaLzO
import Derived.Test.YthmnaofmpijbiaaCodA
namespace Go.Proofs.Ythmnaofmpijbiaa
open Go.RowKit Go.Own
namespace Lz
open Go.MatM Go.LzM Byt

set_option maxRecDepth 10000 in
set_option maxHeartbeats 16000000 in
theorem decode_any (ao : Option Addr) (n cap : Nat) (p : Bs) (M : Nat) (w : World) (hg : Given w ao n cap p) (hb : n ≤ 1000000) (hM : M ≤ 9223372036854775807) :
    Calls Try.prog 17 #[.slice ao n cap, .int .i64 (M : Int)] w (UnDone (dec M p []) w) := by
  have HG := Lib.hid hg
  obtain ⟨X, hX⟩ : ∃ X, X = dec M p [] := ⟨_, rfl⟩
  rw [← hX]
  have HX := Lib.hid hX
  have H0 := Lib.hid (ab_nil (Own.St.start w))
  clear hg hX
  go_enter Try.func17, Try.ntmps17
  go_wp2
  go_loopw [0, 6] (fun v0 v6 wr => ∃ (rest out : Bs) (ar ax : Option Addr) (m cr k cx : Nat), v0 = .slice ar m cr ∧ v6 = .slice ax k cx ∧ Given w ar m cr rest ∧ m ≤ n ∧ k ≤ M ∧ k + 130 * m ≤ 130 * n ∧ Own.St w.heap.size w wr [AB ax k cx out] ∧ X = dec M rest out) (fun v0 _ _ => lenV v0)
  case atStart => exact ⟨p, [], ao, none, n, cap, 0, 0, rfl, rfl, HG.out, Nat.le_refl _, Nat.zero_le _, by omega, H0.out, HX.out⟩
  case round =>
    obtain ⟨rest, out, ar, ax, m, cr, k, cx, rfl, rfl, G, hmn, hkM, hkb, H, E⟩ := hrel
    have G := Lib.hid G
    have H := Lib.hid H
    have E := Lib.hid E
    have HKL := Lib.hid (ab_len H.out 0 rfl).1
    have HRL := Lib.hid G.out.size
    clear H0 HG HX
    by_cases hm0 : m = 0
    · have HR : Hid (X = (out, 0)) := by
        show X = (out, 0)
        rw [E.out, List.eq_nil_of_length_eq_zero (show rest.length = 0 by rw [HRL.out]; exact hm0), dec_nil]
      subst hm0
      go_wp2
      go_ret2
      rw [HR.out]
      refine ⟨_, rfl, ax, cx, by rw [HKL.out]; rfl, ?_, H.out.below⟩
      rw [HKL.out]
      exact given_own H.out 0 rfl
    · obtain ⟨c, hc⟩ : ∃ c, c = rest.getD 0 0 := ⟨_, rfl⟩
      obtain ⟨d, hd⟩ : ∃ d, d = rest.getD 1 0 := ⟨_, rfl⟩
      have GR := Lib.hid (G.out.later H.out.below)
      have CF := first_any ar m cr rest wr GR.out (by omega) (by omega) c d hc.symm hd.symm
      have hmpos : 0 < m := by omega
      have hc8 : c.toNat ≤ 255 := by have := c.toNat_lt; omega
      have hd8 : d.toNat ≤ 255 := by have := d.toNat_lt; omega
      obtain ⟨sp, hsp⟩ : ∃ x, x = M - k := ⟨_, rfl⟩
      have e2 : (M : Int) - (k : Int) = (sp : Int) := by omega
      have HSP := Lib.hid hsp
      clear hsp
      unfold itemR at CF
      by_cases hlit : c.toNat < 128
      · rw [if_pos hlit] at CF
        obtain ⟨q, hq⟩ : ∃ q, c.toNat + 2 = q := ⟨_, rfl⟩
        obtain ⟨r, hr⟩ : ∃ r, c.toNat + 1 = r := ⟨_, rfl⟩
        rw [hq, hr] at CF
        by_cases hmq : m < q
        · rw [if_pos hmq] at CF
          have HX2 : Hid (X = ([], 60)) := by
            show X = ([], 60)
            have h := dec_lit_long M rest out 0 (by rw [HRL.out]; omega) c hc.symm hlit (by rw [HRL.out]; omega)
            rw [List.drop_zero] at h
            rw [E.out, h]
          unfold itemV at CF
          have CF := Lib.hid CF
          clear hc hd hlit hq hr hmq
          go_wp2_with (fail)
          refine CF.out.mono ?_
          clear CF
          rintro e w1 ⟨rfl, h1⟩
          have H1 := Lib.hid (H.out.later h1)
          clear h1
          go_wp2
          go_ret2
          exact un_err X 60 HX2.out (H1.out.alloc _).below
        rw [if_neg hmq] at CF
        by_cases hrs : sp < r
        · have HX2 : Hid (X = ([], 4)) := by
            show X = ([], 4)
            have h := dec_lit_most M rest out 0 (by rw [HRL.out]; omega) c hc.symm hlit (by rw [HRL.out]; omega) (by rw [HKL.out]; have := HSP.out; omega)
            rw [List.drop_zero] at h
            rw [E.out, h]
          unfold itemV at CF
          have CF := Lib.hid CF
          clear hc hd hlit hq hr hmq
          go_wp2_with (fail)
          refine CF.out.mono ?_
          clear CF
          rintro e w1 ⟨rfl, h1⟩
          have H1 := Lib.hid (H.out.later h1)
          clear h1
          go_wp2
          go_ret2
          exact un_err X 4 HX2.out (H1.out.alloc _).below
        have HX2 : Hid (X = dec M (rest.drop q) (out ++ (rest.take q).drop 1)) := by
          show X = dec M (rest.drop q) (out ++ (rest.take q).drop 1)
          have h := dec_lit_ok M rest out 0 (by rw [HRL.out]; omega) c hc.symm hlit (by rw [HRL.out]; omega) (by rw [HKL.out]; have := HSP.out; omega)
          rw [List.drop_zero, show 0 + 1 + (c.toNat + 1) = q by omega] at h
          rw [E.out, h]
        have HQ1 := Lib.hid (show q - 1 = r by omega)
        have CPB : Hid (∀ wx Q, Own.St w.heap.size w wx [AB ax k cx out, Q] → Calls Try.prog 25 #[.slice ax k cx, itemV 2 q r 0, .slice ar m cr] wx fun e w' => ∃ a' c', e = .returned (.slice a' (k + r) c') ∧ Own.St w.heap.size w w' [AB a' (k + r) c' (out ++ (rest.take q).drop 1), Q]) := by
          intro wx Q hx
          have h := putB_lit hx (View.below G.out.view hx.below) HRL.out G.out.room.1 G.out.room.2 G.out.nil q r (by omega) (by omega) (by omega)
          rw [HQ1.out] at h
          exact h
        obtain ⟨a2, c2, hF1, hF2⟩ := cutFrom (ao := ar) (l := rest) (m := m) (cap := cr) q HRL.out (by omega) G.out.room.1 G.out.room.2 G.out.nil
        have CT := Lib.hid hF1
        have CT2 := Lib.hid hF2
        unfold itemV at CF CPB
        have CF := Lib.hid CF
        have hkr : k + r ≤ M := by have := HSP.out; omega
        have hkr2 : k + r + 130 * (m - q) ≤ 130 * n := by omega
        have hq0 : 0 < q := by omega
        have hqm : q ≤ m := by omega
        clear hc hd hlit hq hr hmq hF1 hF2
        go_wp2_with (fail)
        refine CF.out.mono ?_
        clear CF
        rintro e w1 ⟨rfl, h1⟩
        have H1 := Lib.hid (H.out.later h1)
        clear h1
        have CPB1 := Lib.hid (CPB.out _ _ (H1.out.boxV 42 [.int .i64 2, .int .i64 (q : Int), .int .i64 (r : Int), .int .i64 0]).swap2)
        go_wp2_with (fail)
        refine CPB1.out.mono ?_
        clear CPB1 CPB
        rintro e w2 ⟨a4, c4, rfl, h2⟩
        have hcl := (h2.cellV 1 rfl 1 rfl).1
        have H2 := Lib.hid (h2.perm (List.Perm.swap _ _ _))
        clear h2
        go_wp2_with (refine Byt.wpList_val rfl (CT.out _ (.tmp 37) (.tmp 39) rfl _ _ rfl rfl) ?_)
        go_roundw
        case rel => exact ⟨rest.drop q, _, a2, a4, m - q, c2, k + r, c4, rfl, rfl, ⟨CT2.out.view _ _ G.out.view, CT2.out.len, CT2.out.cap, CT2.out.none⟩, by omega, hkr, hkr2, H2.out.drop 1, HX2.out⟩
        case measure => simp only [lenV]; omega
      · rw [if_neg hlit] at CF
        by_cases hm2 : m < 2
        · rw [if_pos hm2] at CF
          have HX2 : Hid (X = ([], 60)) := by
            show X = ([], 60)
            have h := dec_ref_end M rest out 0 (by rw [HRL.out]; omega) c hc.symm hlit
            rw [List.drop_zero] at h
            rw [E.out, h]
          unfold itemV at CF
          have CF := Lib.hid CF
          clear hc hd hlit hm2
          go_wp2_with (fail)
          refine CF.out.mono ?_
          clear CF
          rintro e w1 ⟨rfl, h1⟩
          have H1 := Lib.hid (H.out.later h1)
          clear h1
          go_wp2
          go_ret2
          exact un_err X 60 HX2.out (H1.out.alloc _).below
        rw [if_neg hm2] at CF
        obtain ⟨r, hr⟩ : ∃ r, c.toNat - 125 = r := ⟨_, rfl⟩
        obtain ⟨D, hD⟩ : ∃ D, d.toNat + 1 = D := ⟨_, rfl⟩
        have HR0 : Hid (X = if k < D then ([], 60) else if M < k + r then ([], 4) else dec M (rest.drop 2) (copyN out D r)) := by
          show X = _
          have h := dec_ref M rest out 0 (by rw [HRL.out]; omega) c d hc.symm hd.symm hlit
          rw [List.drop_zero, HKL.out, hr, hD] at h
          rw [E.out, h]
        rw [hr, hD] at CF
        unfold itemV at CF
        have CF := Lib.hid CF
        have hrb : r ≤ 130 := by omega
        have hr1 : 1 ≤ r := by omega
        have hDb : D ≤ 256 := by omega
        have hD1 : 1 ≤ D := by omega
        by_cases hkD : k < D
        · have HX2 : Hid (X = ([], 60)) := by
            show X = ([], 60)
            rw [HR0.out, if_pos hkD]
          clear hc hd hlit hm2 hr hD
          go_wp2_with (fail)
          refine CF.out.mono ?_
          clear CF
          rintro e w1 ⟨rfl, h1⟩
          have H1 := Lib.hid (H.out.later h1)
          clear h1
          go_wp2
          go_ret2
          exact un_err X 60 HX2.out (H1.out.alloc _).below
        by_cases hrs : sp < r
        · have HX2 : Hid (X = ([], 4)) := by
            show X = ([], 4)
            rw [HR0.out, if_neg hkD, if_pos (by have := HSP.out; omega)]
          clear hc hd hlit hm2 hr hD
          go_wp2_with (fail)
          refine CF.out.mono ?_
          clear CF
          rintro e w1 ⟨rfl, h1⟩
          have H1 := Lib.hid (H.out.later h1)
          clear h1
          go_wp2
          go_ret2
          exact un_err X 4 HX2.out (H1.out.alloc _).below
        have HX2 : Hid (X = dec M (rest.drop 2) (copyN out D r)) := by
          show X = _
          rw [HR0.out, if_neg hkD, if_neg (by have := HSP.out; omega)]
        have CPB : Hid (∀ wx Q, Own.St w.heap.size w wx [AB ax k cx out, Q] → Calls Try.prog 25 #[.slice ax k cx, itemV 1 2 r D, .slice ar m cr] wx fun e w' => ∃ a' c', e = .returned (.slice a' (k + r) c') ∧ Own.St w.heap.size w w' [AB a' (k + r) c' (copyN out D r), Q]) := by
          intro wx Q hx
          exact putB_ref hx D r hD1 (by omega) (by omega)
        obtain ⟨a2, c2, hF1, hF2⟩ := cutFrom (ao := ar) (l := rest) (m := m) (cap := cr) 2 HRL.out (by omega) G.out.room.1 G.out.room.2 G.out.nil
        have CT := Lib.hid hF1
        have CT2 := Lib.hid hF2
        unfold itemV at CPB
        have hkr : k + r ≤ M := by have := HSP.out; omega
        have hkr2 : k + r + 130 * (m - 2) ≤ 130 * n := by omega
        have hm22 : 2 ≤ m := by omega
        clear hc hd hlit hr hD hm2 hF1 hF2
        go_wp2_with (fail)
        refine CF.out.mono ?_
        clear CF
        rintro e w1 ⟨rfl, h1⟩
        have H1 := Lib.hid (H.out.later h1)
        clear h1
        have CPB1 := Lib.hid (CPB.out _ _ (H1.out.boxV 42 [.int .i64 1, .int .i64 2, .int .i64 (r : Int), .int .i64 (D : Int)]).swap2)
        go_wp2_with (fail)
        refine CPB1.out.mono ?_
        clear CPB1 CPB
        rintro e w2 ⟨a4, c4, rfl, h2⟩
        have hcl := (h2.cellV 1 rfl 1 rfl).1
        have H2 := Lib.hid (h2.perm (List.Perm.swap _ _ _))
        clear h2
        go_wp2_with (refine Byt.wpList_val rfl (CT.out _ (.tmp 37) (.tmp 39) rfl _ _ rfl rfl) ?_)
        go_roundw
        case rel => exact ⟨rest.drop 2, _, a2, a4, m - 2, c2, k + r, c4, rfl, rfl, ⟨CT2.out.view _ _ G.out.view, CT2.out.len, CT2.out.cap, CT2.out.none⟩, by omega, hkr, hkr2, H2.out.drop 1, HX2.out⟩
        case measure => simp only [lenV]; omega

set_option maxHeartbeats 4000000 in
theorem unpack_any (ao : Option Addr) (n cap : Nat) (p : Bs) (most : Int) (w : World) (hg : Given w ao n cap p) (hb : n ≤ 1000000) (h0 : -9223372036854775808 ≤ most) (h1 : most ≤ 9223372036854775807) :
    Calls Try.prog 13 #[.slice ao n cap, .int .i64 most] w (UnDone (unpack p most.toNat) w) := by
  have HG := Lib.hid hg
  have HN := Lib.hid hg.size
  obtain ⟨M, hM⟩ : ∃ M, M = most.toNat := ⟨_, rfl⟩
  have hmax : max most 0 = (M : Int) := by omega
  have hMb : M ≤ 9223372036854775807 := by omega
  rw [← hM]
  clear hg hM
  obtain ⟨X, hX⟩ : ∃ X, X = unpack p M := ⟨_, rfl⟩
  rw [← hX]
  by_cases hn0 : n = 0
  · have HX : Hid (X = ([], 60)) := by
      show X = ([], 60)
      rw [hX, List.eq_nil_of_length_eq_zero (show p.length = 0 by rw [HN.out, hn0])]; rfl
    have hgo : ((n : Int) == 0) = true := by simp [hn0]
    clear hX hn0
    go_enter Try.func13, Try.ntmps13
    go_wp2
    go_ret2
    exact un_err X 60 HX.out (Below.refl _ _)
  have hgo : ((n : Int) == 0) = false := by simp [hn0]
  obtain ⟨n1, hn1⟩ : ∃ n1, n = n1 + 1 := ⟨n - 1, by omega⟩
  have hnpos : 0 < n := by omega
  obtain ⟨gb, go, hao, _, _, hc0⟩ := vat HG.out.view (k := 0) (by rw [HN.out]; omega)
  obtain ⟨c0, hcc⟩ : ∃ c, c = p.getD 0 0 := ⟨_, rfl⟩
  rw [← hcc, Nat.add_zero] at hc0
  have hpc : p = c0 :: p.drop 1 := by
    have h := List.drop_eq_getElem_cons (l := p) (i := 0) (by rw [HN.out]; omega)
    rw [List.drop_zero] at h
    rw [hcc]
    simpa [List.getD, show 0 < p.length by rw [HN.out]; omega] using h
  have HC0 := Lib.hid hc0
  obtain ⟨a2, c2, hF1, hF2⟩ := cutFrom (ao := ao) (l := p) (m := n) (cap := cap) 1 HN.out (by omega) HG.out.room.1 HG.out.room.2 HG.out.nil
  rw [show n - 1 = n1 by omega] at hF1 hF2
  have CF := Lib.hid hF1
  have CF2 := Lib.hid hF2
  have G2 : Hid (Given w a2 n1 c2 (p.drop 1)) := ⟨CF2.out.view _ _ HG.out.view, CF2.out.len, CF2.out.cap, CF2.out.none⟩
  clear hF1 hF2
  by_cases hbig : (1 : Int) < (c0.toNat : Int)
  · have HX : Hid (X = ([], 60)) := by
      show X = ([], 60)
      rw [hX, hpc]
      unfold unpack
      simp only
      rw [if_pos (by omega)]
    clear hX hn0 hn1 hpc hcc HC0
    subst hao
    go_enter Try.func13, Try.ntmps13
    go_wp2
    go_ret2
    exact un_err X 60 HX.out (Below.refl _ _)
  by_cases hz : c0.toNat = 0
  · have hX0 : unpack p M = if M < (p.drop 1).length then ([], 4) else (p.drop 1, 0) := by
      rw [hpc]
      unfold unpack
      simp only
      rw [if_neg (by omega), if_pos hz]
      rfl
    have hl1 : (p.drop 1).length = n1 := by rw [List.length_drop, HN.out]; omega
    rw [hl1] at hX0
    have hgz : ((c0.toNat : Int) == 1) = false := by simp [hz]
    by_cases hlong : M < n1
    · have HX : Hid (X = ([], 4)) := by
        show X = ([], 4)
        rw [hX, hX0, if_pos hlong]
      clear hX hX0 hn0 hn1 hpc hcc HC0 hl1 hz
      subst hao
      go_enter Try.func13, Try.ntmps13
      go_wp2_with (refine Byt.wpList_val rfl (CF.out _ (.tmp 27) (.const (.int .i64 1)) rfl _ _ rfl rfl) ?_)
      go_ret2
      exact un_err X 4 HX.out (Below.refl _ _)
    · have HX : Hid (X = (p.drop 1, 0)) := by
        show X = (p.drop 1, 0)
        rw [hX, hX0, if_neg hlong]
      have CL := Cod.clone_any (fun k => k < w.heap.size) a2 (p.drop 1) c2 w G2.out.view (by rw [hl1]; omega)
      rw [hl1] at CL
      have CL := Lib.hid CL
      have HL1 := Lib.hid hl1
      clear hX hX0 hn0 hn1 hpc hcc HC0 hl1 hz
      subst hao
      go_enter Try.func13, Try.ntmps13
      go_wp2_with (first | (refine Byt.wpList_val rfl (CF.out _ (.tmp 27) (.const (.int .i64 1)) rfl _ _ rfl rfl) ?_) | (refine Byt.wpList_val rfl (CF.out _ (.tmp 32) (.const (.int .i64 1)) rfl _ _ rfl rfl) ?_))
      refine CL.out.mono ?_
      clear CL
      rintro e w1 ⟨a3, c3, T, he, hrow, hst⟩
      rw [HL1.out] at he hrow
      subst he
      have H1 := Lib.hid ((Own.St.start w).new (AB a3 n1 c3 (p.drop 1)) hrow hst)
      clear hrow hst
      go_wp2
      go_ret2
      rw [HX.out]
      exact ⟨_, rfl, a3, c3, by rw [HL1.out]; rfl, by rw [HL1.out]; exact given_own H1.out 0 rfl, H1.out.below⟩
  have hX1 : unpack p M = dec M (p.drop 1) [] := by
    have e : unpack (c0 :: p.drop 1) M = dec M (p.drop 1) [] := by
      unfold unpack
      simp only
      rw [if_neg (by omega), if_neg hz]
    rw [← hpc] at e
    exact e
  have hgz : ((c0.toNat : Int) == 1) = true := by simp; omega
  have CD := decode_any a2 n1 c2 (p.drop 1) M w G2.out (by omega) hMb
  rw [← hX1, ← hX] at CD
  have CD := Lib.hid CD
  clear hX hX1 hn0 hpc hcc hz hn1
  subst hao
  go_enter Try.func13, Try.ntmps13
  go_wp2_with (refine Byt.wpList_val rfl (CF.out _ (.tmp 21) (.const (.int .i64 1)) rfl _ _ rfl rfl) ?_)
  refine CD.out.mono ?_
  clear CD
  rintro e w1 ⟨v, rfl, hr⟩
  have HR := Lib.hid hr
  clear hr
  go_wp2
  go_ret2
  exact ⟨v, rfl, HR.out⟩

/-- THE LANDED PACKAGE KEEPS IT -/
theorem kept (W : World) : Kept W where
  pack ao n cap l w _ hg hn := pack_any ao n cap l w hg (by omega)
  unpack ao n cap p most w _ hg hn h0 h1 := unpack_any ao n cap p most w hg (by omega) h0 h1
end Lz
end Go.Proofs.Ythmnaofmpijbiaa
