/- The landed isLiteral, encode, Pack. -/
import Derived.Test.YthmnaofmpijbiaaLzN
import Derived.Test.YthmnaofmpijbiaaLzQ
import Derived.Test.YthmnaofmpijbiaaMatX
import Derived.BigQuiet
import Derived.Deep.QuietTactic
namespace Go.Proofs.Ythmnaofmpijbiaa
open Go.RowKit Go.Own
namespace Lz
open Go.MatM Go.LzM Byt
open Mat (AQ aq_at aq_len alls)

set_option maxHeartbeats 1000000 in
theorem isLit_st {B : Nat} {w0 w : World} {Ps : List Asn} {ao : Option Addr} {n cap : Nat} {ps : List (Nat × Nat)} (H : Own.St B w0 w Ps) (i : Nat) (hi : Ps[i]? = some (AQ ao n cap ps)) (j : Nat) (hj : j < n) (hn : n ≤ 1000000000) (m x : Nat) (hm : (ps.getD j (0, 0)).2 = m) (hx : (ps.getD (j + 1) (0, 0)).2 = x) (hx0 : ¬ j + 1 < n → x = 0) :
    Calls Try.prog 20 #[.slice ao n cap, .int .i64 (j : Int)] w fun e w' => e = .returned (.bool (decide (m = 0 ∨ m < x))) ∧ w = w' := by
  obtain ⟨g, rfl, _, hc⟩ := aq_at H i hi j hj
  rw [hm, Nat.mul_comm] at hc
  by_cases hj1 : j + 1 < n
  · obtain ⟨g', hg', _, hc2⟩ := aq_at H i hi (j + 1) hj1
    cases hg'
    rw [hx, Nat.mul_comm] at hc2
    obtain ⟨j1, hj1d⟩ : ∃ j1, j1 = j + 1 := ⟨_, rfl⟩
    rw [← hj1d] at hc2 hj1
    have e1 : (j : Int) + 1 = (j1 : Int) := by omega
    clear hi H hm hx hx0 hj1d
    by_cases h0 : m = 0
    · have hv : decide (m = 0 ∨ m < x) = true := by simp [h0]
      have hg0 : ((m : Int) == 0) = true := by simp [h0]
      rw [hv]
      clear hv h0
      go_enter Try.func20, Try.ntmps20
      go_wp2
      go_ret
      exact ⟨rfl, rfl⟩
    · have hv : decide (m = 0 ∨ m < x) = decide (m < x) := by simp [h0]
      have hg0 : ((m : Int) == 0) = false := by simp [h0]
      rw [hv]
      clear hv
      go_enter Try.func20, Try.ntmps20
      go_wp2
      go_ret
      exact ⟨rfl, rfl⟩
  · obtain rfl := hx0 hj1
    have e1 : ¬ ((j : Int) + 1 < (n : Int)) := by omega
    clear hi H hm hx hx0
    by_cases h0 : m = 0
    · have hv : decide (m = 0 ∨ m < 0) = true := by simp [h0]
      have hg0 : ((m : Int) == 0) = true := by simp [h0]
      rw [hv]
      clear hv h0
      go_enter Try.func20, Try.ntmps20
      go_wp2
      go_ret
      exact ⟨rfl, rfl⟩
    · have hv : decide (m = 0 ∨ m < 0) = false := by simp [h0]
      have hg0 : ((m : Int) == 0) = false := by simp [h0]
      have hz : ¬ (m : Int) < 0 := by omega
      rw [hv]
      clear hv
      go_enter Try.func20, Try.ntmps20
      go_wp2
      go_ret
      exact ⟨by simp, rfl⟩

theorem all_st' {B : Nat} {w0 w w' : World} {Ps : List Asn} {l : Bs} {len : Nat} {e : Ending} (H : Own.St B w0 w Ps) (h : Mat.AllDone l len w e w') : ∃ ao cap, e = .returned (.slice ao len cap) ∧ Own.St B w0 w' (AQ ao len cap (alls l) :: Ps) := by
  obtain ⟨ao, cap, T, he, hr, hs⟩ := h
  exact ⟨ao, cap, he, H.new (AQ ao len cap (alls l)) hr hs⟩
theorem alls_next (b : Bs) (i : Nat) : (alls b).getD i (0, 0) = longest b i := by
  unfold Mat.alls
  by_cases h : i < b.length
  · simp [h]
  · rw [longest_out b i (by omega)]; simp [List.getD, h]

set_option maxHeartbeats 8000000 in
theorem encode_any (ao : Option Addr) (n cap : Nat) (b : Bs) (w : World) (hg : Given w ao n cap b) (hb : n ≤ 1000000) :
    Calls Try.prog 15 #[.slice ao n cap] w fun e w' => ∃ v, e = .returned v ∧ Reads (enc b) w v w' := by
  have HG := Lib.hid hg
  have HN := Lib.hid hg.size
  have CA := Lib.hid (Mat.all_any ao n cap b w hg hb)
  clear hg
  have H0 := Lib.hid (ab_nil (Own.St.start w))
  go_enter Try.func15, Try.ntmps15
  go_wp2_with (fail)
  refine CA.out.mono ?_
  intro e w1 h1
  obtain ⟨aq, cq, rfl, k1⟩ := all_st' H0.out h1
  have H1 := Lib.hid k1.swap2
  clear k1 h1 H0 CA
  go_wp2
  go_loopw [3, 5, 6] (fun v3 v5 v6 wr => ∃ (i fr : Nat) (done : Bs) (ax : Option Addr) (k cx : Nat), v6 = .int .i64 (i : Int) ∧ v5 = .int .i64 (fr : Int) ∧ v3 = .slice ax k cx ∧ fr ≤ i ∧ i ≤ n ∧ Own.St w.heap.size w wr [AB ax k cx done, AQ aq n cq (alls b)] ∧ done ++ encF (b.length - i) b fr i = enc b) (fun _ _ v6 _ => n - (intOf v6).toNat)
  case atStart => exact ⟨0, 0, [], none, 0, 0, rfl, rfl, rfl, Nat.le_refl _, Nat.zero_le _, H1.out, rfl⟩
  case round =>
    obtain ⟨i, fr, done, ax, k, cx, rfl, rfl, rfl, hfi, hin, H, E⟩ := hrel
    have H := Lib.hid H
    have E := Lib.hid E
    clear H1
    have hkb : k ≤ 2 * n := by
      have h1 := congrArg List.length E.out
      have h2 := enc_len b
      have h3 := (ab_len H.out 0 rfl).1
      rw [List.length_append] at h1
      rw [HN.out] at h2
      omega
    by_cases hi : (i : Int) < (n : Int)
    · obtain ⟨d, m, hdm⟩ : ∃ d m, longest b i = (d, m) := ⟨_, _, rfl⟩
      obtain ⟨d2, m2, hdm2⟩ : ∃ d m, longest b (i + 1) = (d, m) := ⟨_, _, rfl⟩
      have CI := Lib.hid (isLit_st H.out 1 rfl i (by omega) (by omega) m m2 (by rw [alls_next, hdm]) (by rw [alls_next, hdm2]) (fun h => by have e := longest_out b (i + 1) (by rw [HN.out]; omega); rw [hdm2] at e; exact congrArg Prod.snd e))
      by_cases hlit : m = 0 ∨ m < m2
      · have HLIT : Hid (encF (b.length - i) b fr i = encF (b.length - (i + 1)) b fr (i + 1)) := enc_lit b fr i (by rw [HN.out]; omega) (by rw [hdm, hdm2]; exact hlit)
        rw [decide_eq_true hlit] at CI
        clear hdm hdm2 hlit
        go_wp2_with (fail)
        refine CI.out.mono ?_
        clear CI
        rintro e w1 ⟨rfl, rfl⟩
        go_wp2_with (fail)
        go_roundw
        case rel => exact ⟨i + 1, fr, done, ax, k, cx, by go_num, rfl, rfl, by omega, by omega, H.out, by rw [← HLIT.out]; exact E.out⟩
        case measure => simp [intOf]; omega
      · rw [decide_eq_false hlit] at CI
        obtain ⟨a1, a2, a3, a4, a5, a6, _, _⟩ := longest_runs b i d m hdm (by omega)
        have HM := Lib.hid (enc_match b fr i (by rw [HN.out]; omega) (by rw [hdm, hdm2]; exact hlit))
        rw [hdm] at HM
        obtain ⟨g, rfl, hq1, hq2⟩ := aq_at H.out 1 rfl i (by omega)
        rw [alls_next, hdm, Nat.mul_comm] at hq1 hq2
        obtain ⟨c1, hc1⟩ : ∃ c, c = UInt8.ofNat (128 + m - 3) := ⟨_, rfl⟩
        obtain ⟨c2, hc2⟩ : ∃ c, c = UInt8.ofNat (d - 1) := ⟨_, rfl⟩
        have hv1 : c1.toNat = 128 + m - 3 := by rw [hc1, ofNat_toNat _ (by omega)]
        have hv2 : c2.toNat = d - 1 := by rw [hc2, ofNat_toNat _ (by omega)]
        have hs1 : (m : Int) - 3 + 128 = (c1.toNat : Int) := by omega
        have hs2 : (d : Int) - 1 = (c2.toNat : Int) := by omega
        have hb1 : c1.toNat ≤ 255 := by omega
        have hb2 : c2.toNat ≤ 255 := by omega
        have him : i + m ≤ n := by rw [HN.out] at a6; exact a6
        have hm3 : 3 ≤ m := a4
        obtain ⟨q, hq⟩ : ∃ q, q = i - fr := ⟨_, rfl⟩
        obtain ⟨am, cm, hCM1, hCM2⟩ := cutMid (ao := ao) (l := b) (m := n) (cap := cap) fr i HN.out hfi hin HG.out.room.1 HG.out.room.2 HG.out.nil
        rw [← hq] at hCM1 hCM2
        obtain ⟨pt, hpt⟩ : ∃ pt, pt = (b.take i).drop fr := ⟨_, rfl⟩
        rw [← hpt] at hCM2
        obtain ⟨pl, hpl⟩ : ∃ pl, pl = plain pt := ⟨_, rfl⟩
        obtain ⟨enx, henx⟩ : ∃ x, x = encF (b.length - (i + m)) b (i + m) (i + m) := ⟨_, rfl⟩
        have HE : Hid (enc b = done ++ (pl ++ (c1 :: c2 :: enx))) := by
          show enc b = done ++ (pl ++ (c1 :: c2 :: enx))
          rw [← E.out, HM.out, hpl, hc1, hc2, henx, hpt]
        have HL : Hid (k + pl.length + 2 ≤ 2 * n) := by
          show k + pl.length + 2 ≤ 2 * n
          have h1 := congrArg List.length HE.out
          have h2 := enc_len b
          have h3 := (ab_len H.out 0 rfl).1
          rw [HN.out] at h2
          simp only [List.length_append, List.length_cons] at h1
          omega
        have C3 : Hid (∀ nq, Calls Try.prog 21 #[.slice ax k cx, .slice am q cm] (wr.drewN nq) fun e w' => ∃ a' c' kk, kk = k + pl.length ∧ e = .returned (.slice a' kk c') ∧ Own.St w.heap.size w w' [AB a' kk c' (done ++ pl), AQ (some ⟨g, 0, none⟩) n cq (alls b)]) := by
          intro nq
          have hst := H.out.drewN nq
          have hv := hCM2.view _ _ (View.below (View.below HG.out.view H.out.below) (w' := wr.drewN nq) ⟨rfl, rfl, rfl, Nat.le_refl _, fun _ _ => rfl⟩)
          refine (putLits_st hst (by intro P hP; simp only [List.mem_singleton] at hP; subst hP; exact ARow.cellish _ _ _ _ _) hv hCM2.len hCM2.cap.1 hCM2.cap.2 (by omega)).mono ?_
          rintro e w' ⟨a', c', he, hs⟩
          rw [← hpl] at he hs
          exact ⟨a', c', _, rfl, he, hs⟩
        have CM1 := Lib.hid hCM1
        have HENX := Lib.hid henx
        clear hdm hdm2 hlit hc1 hc2 hv1 hv2 hpl hpt henx hCM1 hCM2 HM hq a1 a2 a3 a4 a5 a6
        go_wp2_with (fail)
        refine CI.out.mono ?_
        clear CI
        rintro e w1 ⟨rfl, rfl⟩
        go_wp2_with (fail)
        go_quiet (fail)
        clear hq1 hq2
        go_wp2_with (refine Byt.wpList_val rfl (CM1.out _ (.tmp 31) (.tmp 32) (.tmp 33) rfl _ _ rfl rfl rfl) ?_)
        refine (C3.out nq).mono ?_
        clear C3
        rintro e w3 ⟨ap, cp, kk, hkk, rfl, h3⟩
        have H3 := Lib.hid h3
        have hkb3 : kk + 2 ≤ 2 * n := by have := HL.out; omega
        have HKK := Lib.hid hkk
        clear h3 hkk H
        go_wp2_with (at_builtin; refine Byt.wpList_ab_append rfl (.tmp 36) (.tmp 44) rfl (H3.out.alloc (.cells #[.int .u8 (c1.toNat : Int), .int .u8 (c2.toNat : Int)] 5)) 0 rfl rfl (some ⟨w3.heap.size, 0, none⟩) 2 2 [c1, c2] rfl (by intro h; cases h) rfl (two_cells w3 c1 c2 _) (by omega) ?_; intro a5 c5 w5 h5; simp only [List.set_cons_zero] at h5; have H5 := Lib.hid h5; clear h5)
        go_roundw
        case rel =>
          refine ⟨i + m, i + m, done ++ pl ++ [c1, c2], a5, kk + 2, c5, by go_num, by go_num, rfl, Nat.le_refl _, him, H5.out, ?_⟩
          rw [HE.out, HENX.out]
          simp
        case measure => simp [intOf]; omega
    · have hin2 : i = n := by omega
      have HM : Hid (enc b = done ++ plain (b.drop fr)) := by
        show enc b = done ++ plain (b.drop fr)
        rw [← E.out, enc_end b fr i (by rw [HN.out]; omega)]
      obtain ⟨q, hq⟩ : ∃ q, q = n - fr := ⟨_, rfl⟩
      obtain ⟨am, cm, hCM1, hCM2⟩ := cutFrom (ao := ao) (l := b) (m := n) (cap := cap) fr HN.out (by omega) HG.out.room.1 HG.out.room.2 HG.out.nil
      rw [← hq] at hCM1 hCM2
      obtain ⟨pl, hpl⟩ : ∃ pl, pl = plain (b.drop fr) := ⟨_, rfl⟩
      rw [← hpl] at HM
      have C3 : Hid (Calls Try.prog 21 #[.slice ax k cx, .slice am q cm] wr fun e w' => ∃ a' c', e = .returned (.slice a' (k + pl.length) c') ∧ Own.St w.heap.size w w' [AB a' (k + pl.length) c' (done ++ pl), AQ aq n cq (alls b)]) := by
        have hv := hCM2.view _ _ (View.below HG.out.view H.out.below)
        have h := putLits_st H.out (by intro P hP; simp only [List.mem_singleton] at hP; subst hP; exact ARow.cellish _ _ _ _ _) hv hCM2.len hCM2.cap.1 hCM2.cap.2 (by omega)
        rw [← hpl] at h
        exact h
      have CM1 := Lib.hid hCM1
      clear hpl hCM1 hCM2 hq hin2
      go_wp2_with (refine Byt.wpList_val rfl (CM1.out _ (.tmp 51) (.tmp 52) rfl _ _ rfl rfl) ?_)
      refine C3.out.mono ?_
      clear C3
      rintro e w3 ⟨ap, cp, rfl, h3⟩
      have H3 := Lib.hid h3
      clear h3
      go_wp2_with (fail)
      go_ret
      have hk := (ab_len H3.out 0 rfl).1
      have h3 := H3.out
      rw [← HM.out] at hk h3
      rw [← hk] at h3 ⊢
      exact ⟨_, rfl, ap, cp, rfl, given_own h3 0 rfl, h3.below⟩

theorem pack_any (ao : Option Addr) (n cap : Nat) (b : Bs) (w : World) (hg : Given w ao n cap b) (hb : n ≤ 1000000) :
    Calls Try.prog 10 #[.slice ao n cap] w fun e w' => ∃ v, e = .returned v ∧ Reads (pack b) w v w' := by
  have HG := Lib.hid hg
  have HN := Lib.hid hg.size
  have C1 := Lib.hid (encode_any ao n cap b w hg hb)
  clear hg
  go_enter Try.func10, Try.ntmps10
  go_wp2_with (fail)
  refine C1.out.mono ?_
  rintro e w1 ⟨v, rfl, a1, c1, rfl, gs, h1⟩
  obtain ⟨k, hk⟩ : ∃ k, k = (enc b).length := ⟨_, rfl⟩
  rw [← hk] at gs ⊢
  have HK := Lib.hid hk
  have GS := Lib.hid gs
  have GB := Lib.hid (HG.out.later h1)
  have H1 := Lib.hid ((Own.St.start w).later h1)
  have hkb : k ≤ 2 * n := by have := enc_len b; rw [HN.out] at this; omega
  clear h1 gs C1 hk
  by_cases hkn : (k : Int) < (n : Int)
  · have HP : Hid (pack b = [1] ++ enc b) := by
      show pack b = [1] ++ enc b
      unfold pack
      rw [if_pos (by rw [HN.out, ← HK.out]; omega)]
      rfl
    have HA := Lib.hid (ab_one H1.out 1)
    have HC := Lib.hid (vcells (vlater GS.out.view ((Own.St.start w1).alloc (.cells #[.int .u8 (((1 : UInt8).toNat : Nat) : Int)] 5)).below))
    have HNO := Lib.hid (given_nil GS.out)
    go_wp2_with (at_builtin; refine Byt.wpList_ab_append rfl (.tmp 11) (.tmp 12) rfl HA.out 0 rfl rfl a1 k c1 (enc b) rfl HNO.out GS.out.size HC.out (by omega) ?_; intro a4 c4 w4 h4; simp only [List.set_cons_zero] at h4; have H4 := Lib.hid h4; clear h4)
    go_ret
    have hk2 := (ab_len H4.out 0 rfl).1
    rw [← HP.out] at hk2
    refine ⟨_, rfl, a4, c4, by rw [hk2]; rfl, ?_, H4.out.below⟩
    rw [hk2, HP.out]
    exact given_own H4.out 0 rfl
  · have HP : Hid (pack b = [0] ++ b) := by
      show pack b = [0] ++ b
      unfold pack
      rw [if_neg (by rw [HN.out, ← HK.out]; omega)]
      rfl
    have HA := Lib.hid (ab_one H1.out 0)
    have HC := Lib.hid (vcells (vlater GB.out.view ((Own.St.start w1).alloc (.cells #[.int .u8 (((0 : UInt8).toNat : Nat) : Int)] 5)).below))
    have HNO := Lib.hid (given_nil GB.out)
    go_wp2_with (at_builtin; refine Byt.wpList_ab_append rfl (.tmp 14) (.tmp 15) rfl HA.out 0 rfl rfl ao n cap (b) rfl HNO.out GB.out.size HC.out (by omega) ?_; intro a4 c4 w4 h4; simp only [List.set_cons_zero] at h4; have H4 := Lib.hid h4; clear h4)
    go_ret
    have hk2 := (ab_len H4.out 0 rfl).1
    rw [← HP.out] at hk2
    refine ⟨_, rfl, a4, c4, by rw [hk2]; rfl, ?_, H4.out.below⟩
    rw [hk2, HP.out]
    exact given_own H4.out 0 rfl
end Lz
end Go.Proofs.Ythmnaofmpijbiaa
