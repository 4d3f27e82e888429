/- The document's answer for layer 6: plain, Steps, Pack. -/
import Derived.Test.YthmnaofmpijbiaaMatS
import Derived.Test.YthmnaofmpijbiaaGiv
import Derived.Test.YthmnaofmpijbiaaLzM
namespace Go.Proofs.Ythmnaofmpijbiaa
open Go.RowKit Go.Own
namespace Lz
open Go.MatM Go.LzM Byt

/-- an answer that reads as these bytes -/
def Reads (l : Bs) (w : World) (v : Value) (w' : World) : Prop := ∃ ao c, v = .slice ao l.length c ∧ Given w' ao l.length c l ∧ Below w.heap.size w w'

set_option maxHeartbeats 2000000 in
theorem refPlain_any (ao : Option Addr) (n cap : Nat) (l : Bs) (w : World) (hg : Given w ao n cap l) (hb : n ≤ 1000000) :
    Calls Try.prog 23 #[.slice ao n cap] w fun e w' => ∃ v, e = .returned v ∧ Reads (plain l) w v w' := by
  have HG := Lib.hid hg
  have HL := Lib.hid hg.size
  clear hg
  go_enter Try.func23, Try.ntmps23
  have H0 := Lib.hid (ab_nil (Own.St.start w))
  go_wp2
  go_loopw [0, 3] (fun v0 v3 wr => ∃ (rest done : Bs) (ar ax : Option Addr) (m cr k cx : Nat), v0 = .slice ar m cr ∧ v3 = .slice ax k cx ∧ Given w ar m cr rest ∧ m ≤ n ∧ k ≤ 2 * n ∧ Own.St w.heap.size w wr [AB ax k cx done] ∧ done ++ plain rest = plain l) (fun v0 _ _ => lenV v0)
  case atStart => exact ⟨l, [], ao, none, n, cap, 0, 0, rfl, rfl, HG.out, Nat.le_refl _, Nat.zero_le _, H0.out, rfl⟩
  case round =>
    obtain ⟨rest, done, ar, ax, m, cr, k, cx, rfl, rfl, G, hmn, hkn, H, E⟩ := hrel
    have G := Lib.hid G
    have H := Lib.hid H
    have E := Lib.hid E
    by_cases hm0 : (0 : Int) < (m : Int)
    · obtain ⟨q, hq⟩ : ∃ q, q = min m 128 := ⟨_, rfl⟩
      have hmin : min (m : Int) 128 = (q : Int) := by omega
      obtain ⟨c, hc⟩ : ∃ c, c = UInt8.ofNat (q - 1) := ⟨_, rfl⟩
      have hcn : c.toNat = q - 1 := by rw [hc, ofNat_toNat (q - 1) (by omega)]
      have hsub : (q : Int) - 1 = (c.toNat : Int) := by omega
      have hqm : q ≤ m := by omega
      have hcb : c.toNat ≤ 127 := by omega
      have hqb : q ≤ 128 := by omega
      have HE : Hid (plain rest = c :: (rest.take q ++ plain (rest.drop q))) := by
        show plain rest = c :: (rest.take q ++ plain (rest.drop q))
        rw [plain_step rest (by rw [G.out.size]; omega) q (by rw [G.out.size]; exact hq), hc]
      have HKB : Hid (k + 1 + q ≤ 2 * n) := by
        show k + 1 + q ≤ 2 * n
        have h1 := congrArg List.length E.out
        rw [HE.out] at h1
        have h2 := plain_len2 _ l (Nat.le_refl _)
        rw [HL.out] at h2
        have h3 := (ab_len H.out 0 rfl).1
        simp only [List.length_append, List.length_cons, List.length_take] at h1
        rw [G.out.size] at h1
        omega
      have hCT := cutTo (ao := ar) (l := rest) (m := m) (cap := cr) q G.out.size hqm G.out.room.1 G.out.room.2 G.out.nil
      obtain ⟨a2, c2, hCF1, hCF2⟩ := cutFrom (ao := ar) (l := rest) (m := m) (cap := cr) q G.out.size hqm G.out.room.1 G.out.room.2 G.out.nil
      have CT := Lib.hid hCT.1
      have CT2 := Lib.hid hCT.2
      have CF := Lib.hid hCF1
      have CF2 := Lib.hid hCF2
      clear hCT hCF1 hCF2 hq hcn hc
      go_wp2_with (first
        | (refine Byt.wpList_val rfl (CT.out _ (.tmp 18) (.tmp 19) rfl _ _ rfl rfl) ?_)
        | (refine Byt.wpList_val rfl (CF.out _ (.tmp 22) (.tmp 23) rfl _ _ rfl rfl) ?_)
        | (at_builtin; refine Byt.wpList_ab_append rfl (.tmp 11) (.tmp 15) rfl (H.out.alloc (.cells #[.int .u8 (c.toNat : Int)] 5)) 0 rfl rfl (some ⟨wr.heap.size, 0, none⟩) 1 1 [c] rfl (by intro h; cases h) rfl (one_cells8 wr c _) (by omega) ?_; intro a3 c3 wa ha; simp only [List.set_cons_zero] at ha; have HA := Lib.hid ha; have HC0 := Lib.hid (vcells (CT2.out.view _ _ (View.below G.out.view ha.below))); clear ha)
        | (at_builtin; refine Byt.wpList_ab_append rfl (.tmp 17) (.tmp 20) rfl HA.out 0 rfl rfl ar q cr (rest.take q) rfl (fun e => ⟨by have := CT2.out.none e; have := CT2.out.cap; omega, CT2.out.none e⟩) CT2.out.len HC0.out (by omega) ?_; intro a4 c4 wb hb'; simp only [List.set_cons_zero] at hb'; have HB := Lib.hid hb'; clear hb'))
      go_roundw
      case rel =>
        refine ⟨rest.drop q, done ++ [c] ++ rest.take q, a2, a4, m - q, c2, k + 1 + q, c4, rfl, rfl, ⟨CF2.out.view _ _ G.out.view, CF2.out.len, CF2.out.cap, CF2.out.none⟩, by omega, HKB.out, HB.out, ?_⟩
        rw [← E.out, HE.out]
        simp
      case measure => simp only [lenV]; omega
    · have HR : Hid (done = plain l) := by
        show done = plain l
        have h := E.out
        rw [List.eq_nil_of_length_eq_zero (show rest.length = 0 by rw [G.out.size]; omega), plain_nil, List.append_nil] at h
        exact h
      go_wp2
      go_ret
      have hk := (ab_len H.out 0 rfl).1
      rw [HR.out] at hk
      subst hk
      refine ⟨_, rfl, ax, cx, rfl, ?_, H.out.below⟩
      rw [← HR.out] at H ⊢
      exact given_own H.out 0 rfl

theorem longI_nat (l : Bs) (i : Nat) : Mat.longI l (i : Int) = longest l i := by
  unfold Mat.longI
  by_cases h : (i : Int) < (l.length : Int)
  · rw [if_pos ⟨by omega, h⟩, Int.toNat_natCast]
  · rw [if_neg (by omega), longest_out l i (by omega)]
set_option maxHeartbeats 4000000 in
theorem refSteps_any (ao : Option Addr) (n cap : Nat) (b : Bs) (w : World) (hg : Given w ao n cap b) (hb : n ≤ 1000000) :
    Calls Try.prog 16 #[.slice ao n cap] w fun e w' => ∃ v, e = .returned v ∧ Reads (enc b) w v w' := by
  have HG := Lib.hid hg
  have HN := Lib.hid hg.size
  have CL : Hid (∀ (i d m : Nat), longest b i = (d, m) → ∀ wx, Below w.heap.size w wx → Calls Try.prog 22 #[.slice ao n cap, .int .i64 (i : Int)] wx fun e w' => e = .returned (.tuple #[.int .i64 (d : Int), .int .i64 (m : Int)]) ∧ Below wx.heap.size wx w') := by
    intro i d m h wx hwx
    have g := hg.later hwx
    have h2 := Mat.refLongest_any ao n cap b (i : Int) wx g.view g.size (by omega)
    rw [longI_nat, h] at h2
    exact h2
  have CP : Hid (∀ (a : Option Addr) (l : Bs) (m c : Nat), Cut ao b a l m c → m ≤ n → ∀ wx, Below w.heap.size w wx → Calls Try.prog 23 #[.slice a m c] wx fun e w' => ∃ ap cp k, e = .returned (.slice ap k cp) ∧ Given w' ap k cp (plain l) ∧ Below wx.heap.size wx w') := by
    intro a l m c hcut hm wx hwx
    have g := hg.later hwx
    refine (refPlain_any a m c l wx ⟨hcut.view _ _ g.view, hcut.len, hcut.cap, hcut.none⟩ (by omega)).mono ?_
    rintro e w' ⟨v, rfl, ap, cp, rfl, h1, h2⟩
    exact ⟨ap, cp, _, rfl, h1, h2⟩
  clear hg
  go_enter Try.func16, Try.ntmps16
  have H0 := Lib.hid (ab_nil (Own.St.start w))
  go_wp2
  go_loopw [3, 4, 5] (fun v3 v4 v5 wr => ∃ (i fr : Nat) (done : Bs) (ax : Option Addr) (k cx : Nat), v5 = .int .i64 (i : Int) ∧ v4 = .int .i64 (fr : Int) ∧ v3 = .slice ax k cx ∧ fr ≤ i ∧ i ≤ n ∧ Own.St w.heap.size w wr [AB ax k cx done] ∧ done ++ encF (b.length - i) b fr i = enc b) (fun _ _ v5 _ => n - (intOf v5).toNat)
  case atStart => exact ⟨0, 0, [], none, 0, 0, rfl, rfl, rfl, Nat.le_refl _, Nat.zero_le _, H0.out, rfl⟩
  case round =>
    obtain ⟨i, fr, done, ax, k, cx, rfl, rfl, rfl, hfi, hin, H, E⟩ := hrel
    have H := Lib.hid H
    have E := Lib.hid E
    have hkb : k ≤ 2 * n := by
      have h1 := congrArg List.length E.out
      have h2 := enc_len b
      have h3 := (ab_len H.out 0 rfl).1
      rw [List.length_append] at h1
      rw [HN.out] at h2
      omega
    by_cases hi : (i : Int) < (n : Int)
    · obtain ⟨d, m, hdm⟩ : ∃ d m, longest b i = (d, m) := ⟨_, _, rfl⟩
      obtain ⟨d2, m2, hdm2⟩ : ∃ d m, longest b (i + 1) = (d, m) := ⟨_, _, rfl⟩
      have C1 := Lib.hid (CL.out i d m hdm)
      have C2 := CL.out (i + 1) d2 m2 hdm2
      have e1 : ((i + 1 : Nat) : Int) = (i : Int) + 1 := by simp
      rw [e1] at C2
      have C2 := Lib.hid C2
      clear e1
      by_cases hm0 : m = 0
      · have HLIT : Hid (encF (b.length - i) b fr i = encF (b.length - (i + 1)) b fr (i + 1)) := enc_lit b fr i (by rw [HN.out]; omega) (.inl (by rw [hdm]; exact hm0))
        have hgo : ((m : Int) == 0) = true := by simp [hm0]
        clear hdm hdm2 hm0
        go_wp2_with (fail)
        refine (C1.out wr H.out.below).mono ?_
        rintro e w1 ⟨rfl, h1⟩
        have H1 := Lib.hid (H.out.later h1)
        clear h1
        go_wp2_with (fail)
        refine (C2.out w1 H1.out.below).mono ?_
        rintro e w2 ⟨rfl, h2⟩
        have H2 := Lib.hid (H1.out.later h2)
        clear h2
        go_wp2_with (fail)
        go_roundw
        case rel => exact ⟨i + 1, fr, done, ax, k, cx, by go_num, rfl, rfl, by omega, by omega, H2.out, by rw [← HLIT.out]; exact E.out⟩
        case measure => simp [intOf]; omega
      · by_cases hmm : m < m2
        · have HLIT : Hid (encF (b.length - i) b fr i = encF (b.length - (i + 1)) b fr (i + 1)) := enc_lit b fr i (by rw [HN.out]; omega) (.inr (by rw [hdm, hdm2]; exact hmm))
          have hgo : ((m : Int) == 0) = false := by simp [hm0]
          clear hdm hdm2
          go_wp2_with (fail)
          refine (C1.out wr H.out.below).mono ?_
          rintro e w1 ⟨rfl, h1⟩
          have H1 := Lib.hid (H.out.later h1)
          clear h1
          go_wp2_with (fail)
          refine (C2.out w1 H1.out.below).mono ?_
          rintro e w2 ⟨rfl, h2⟩
          have H2 := Lib.hid (H1.out.later h2)
          clear h2
          go_wp2_with (fail)
          go_roundw
          case rel => exact ⟨i + 1, fr, done, ax, k, cx, by go_num, rfl, rfl, by omega, by omega, H2.out, by rw [← HLIT.out]; exact E.out⟩
          case measure => simp [intOf]; omega
        · obtain ⟨a1, a2, a3, a4, a5, a6, _, _⟩ := longest_runs b i d m hdm (by omega)
          have HM := Lib.hid (enc_match b fr i (by rw [HN.out]; omega) (by rw [hdm, hdm2]; simp only; omega))
          rw [hdm] at HM
          have hgo : ((m : Int) == 0) = false := by simp [hm0]
          obtain ⟨c1, hc1⟩ : ∃ c, c = UInt8.ofNat (128 + m - 3) := ⟨_, rfl⟩
          obtain ⟨c2, hc2⟩ : ∃ c, c = UInt8.ofNat (d - 1) := ⟨_, rfl⟩
          have hv1 : c1.toNat = 128 + m - 3 := by rw [hc1, ofNat_toNat _ (by omega)]
          have hv2 : c2.toNat = d - 1 := by rw [hc2, ofNat_toNat _ (by omega)]
          have hs1 : (128 : Int) + (m : Int) - 3 = (c1.toNat : Int) := by omega
          have hs2 : (d : Int) - 1 = (c2.toNat : Int) := by omega
          have hb1 : c1.toNat ≤ 255 := by omega
          have hb2 : c2.toNat ≤ 255 := by omega
          have him : i + m ≤ n := by rw [HN.out] at a6; exact a6
          have hm3 : 3 ≤ m := a4
          obtain ⟨q, hq⟩ : ∃ q, q = i - fr := ⟨_, rfl⟩
          obtain ⟨am, cm, hCM1, hCM2⟩ := cutMid (ao := ao) (l := b) (m := n) (cap := cap) fr i HN.out hfi hin HG.out.room.1 HG.out.room.2 HG.out.nil
          rw [← hq] at hCM1 hCM2
          obtain ⟨pl, hpl⟩ : ∃ pl, pl = plain ((b.take i).drop fr) := ⟨_, rfl⟩
          obtain ⟨enx, henx⟩ : ∃ x, x = encF (b.length - (i + m)) b (i + m) (i + m) := ⟨_, rfl⟩
          have C3 : Hid (∀ wx, Below w.heap.size w wx → Calls Try.prog 23 #[.slice am q cm] wx fun e w' => ∃ ap cp k, e = .returned (.slice ap k cp) ∧ Given w' ap k cp pl ∧ Below wx.heap.size wx w') := by
            rw [hpl]; exact CP.out am _ q cm hCM2 (by omega)
          have HE : Hid (enc b = done ++ (pl ++ (c1 :: c2 :: enx))) := by
            show enc b = done ++ (pl ++ (c1 :: c2 :: enx))
            rw [← E.out, HM.out, hpl, hc1, hc2, henx]
          have HL : Hid (k + pl.length + 2 ≤ 2 * n) := by
            show k + pl.length + 2 ≤ 2 * n
            have h1 := congrArg List.length HE.out
            have h2 := enc_len b
            have h3 := (ab_len H.out 0 rfl).1
            rw [HN.out] at h2
            simp only [List.length_append, List.length_cons] at h1
            omega
          have CM1 := Lib.hid hCM1
          have HENX := Lib.hid henx
          clear hdm hdm2 hm0 hc1 hc2 hv1 hv2 hpl henx hCM1 hCM2 HM hq a1 a2 a3 a4 a5 a6
          go_wp2_with (fail)
          refine (C1.out wr H.out.below).mono ?_
          rintro e w1 ⟨rfl, h1⟩
          have H1 := Lib.hid (H.out.later h1)
          clear h1
          go_wp2_with (fail)
          refine (C2.out w1 H1.out.below).mono ?_
          rintro e w2 ⟨rfl, h2⟩
          have H2 := Lib.hid (H1.out.later h2)
          clear h2
          go_wp2_with (refine Byt.wpList_val rfl (CM1.out _ (.tmp 37) (.tmp 38) (.tmp 39) rfl _ _ rfl rfl rfl) ?_)
          refine (C3.out w2 H2.out.below).mono ?_
          rintro e w3 ⟨ap, cp, kp, rfl, h3, h4⟩
          have H3 := Lib.hid (H2.out.later h4)
          have G3 := Lib.hid h3
          have hkp : kp = pl.length := h3.size.symm
          have hkb : k + kp + 2 ≤ 2 * n := by have := HL.out; omega
          have HC3 := Lib.hid (vcells h3.view)
          clear h3 h4 hkp
          go_wp2_with (at_builtin; first
            | (refine Byt.wpList_ab_append rfl (.tmp 36) (.tmp 41) rfl H3.out 0 rfl rfl ap kp cp pl rfl (given_nil G3.out) G3.out.size HC3.out (by omega) ?_; intro a4 c4 w4 h4; simp only [List.set_cons_zero] at h4; have H4 := Lib.hid h4; clear h4)
            | (refine Byt.wpList_ab_append rfl (.tmp 43) (.tmp 51) rfl (H4.out.alloc (.cells #[.int .u8 (c1.toNat : Int), .int .u8 (c2.toNat : Int)] 5)) 0 rfl rfl (some ⟨w4.heap.size, 0, none⟩) 2 2 [c1, c2] rfl (by intro h; cases h) rfl (two_cells w4 c1 c2 _) (by omega) ?_; intro a5 c5 w5 h5; simp only [List.set_cons_zero] at h5; have H5 := Lib.hid h5; clear h5))
          go_roundw
          case rel =>
            refine ⟨i + m, i + m, done ++ pl ++ [c1, c2], a5, k + kp + 2, c5, by go_num, by go_num, rfl, Nat.le_refl _, him, H5.out, ?_⟩
            rw [HE.out, HENX.out]
            simp
          case measure => simp [intOf]; omega
    · have hin2 : i = n := by omega
      have HM : Hid (enc b = done ++ plain (b.drop fr)) := by
        show enc b = done ++ plain (b.drop fr)
        rw [← E.out, enc_end b fr i (by rw [HN.out]; omega)]
      obtain ⟨q, hq⟩ : ∃ q, q = n - fr := ⟨_, rfl⟩
      obtain ⟨am, cm, hCM1, hCM2⟩ := cutFrom (ao := ao) (l := b) (m := n) (cap := cap) fr HN.out (by omega) HG.out.room.1 HG.out.room.2 HG.out.nil
      rw [← hq] at hCM1 hCM2
      obtain ⟨pl, hpl⟩ : ∃ pl, pl = plain (b.drop fr) := ⟨_, rfl⟩
      have C3 : Hid (∀ wx, Below w.heap.size w wx → Calls Try.prog 23 #[.slice am q cm] wx fun e w' => ∃ ap cp k, e = .returned (.slice ap k cp) ∧ Given w' ap k cp pl ∧ Below wx.heap.size wx w') := by
        rw [hpl]; exact CP.out am _ q cm hCM2 (by omega)
      rw [← hpl] at HM
      have HL : Hid (k + pl.length ≤ 2 * n) := by
        show k + pl.length ≤ 2 * n
        have h1 := congrArg List.length HM.out
        have h2 := enc_len b
        have h3 := (ab_len H.out 0 rfl).1
        rw [HN.out] at h2
        rw [List.length_append] at h1
        omega
      have CM1 := Lib.hid hCM1
      clear hpl hCM1 hCM2 hq hin2
      go_wp2_with (refine Byt.wpList_val rfl (CM1.out _ (.tmp 58) (.tmp 59) rfl _ _ rfl rfl) ?_)
      refine (C3.out wr H.out.below).mono ?_
      rintro e w3 ⟨ap, cp, kp, rfl, h3, h4⟩
      have H3 := Lib.hid (H.out.later h4)
      have G3 := Lib.hid h3
      have hkp : kp = pl.length := h3.size.symm
      have hkb2 : k + kp ≤ 2 * n := by have := HL.out; omega
      have HC3 := Lib.hid (vcells h3.view)
      clear h3 h4 hkp
      go_wp2_with (at_builtin; refine Byt.wpList_ab_append rfl (.tmp 57) (.tmp 61) rfl H3.out 0 rfl rfl ap kp cp pl rfl (given_nil G3.out) G3.out.size HC3.out (by omega) ?_; intro a4 c4 w4 h4; simp only [List.set_cons_zero] at h4; have H4 := Lib.hid h4; clear h4)
      go_ret
      have hk := (ab_len H4.out 0 rfl).1
      rw [← HM.out] at hk
      refine ⟨_, rfl, a4, c4, by rw [hk]; rfl, ?_, H4.out.below⟩
      rw [hk, HM.out]
      exact given_own H4.out 0 rfl

set_option maxHeartbeats 2000000 in
theorem refPack_any (ao : Option Addr) (n cap : Nat) (b : Bs) (w : World) (hg : Given w ao n cap b) (hb : n ≤ 1000000) :
    Calls Try.prog 12 #[.slice ao n cap] w fun e w' => ∃ v, e = .returned v ∧ Reads (pack b) w v w' := by
  have HG := Lib.hid hg
  have HN := Lib.hid hg.size
  have C1 := Lib.hid (refSteps_any ao n cap b w hg hb)
  clear hg
  go_enter Try.func12, Try.ntmps12
  go_wp2_with (fail)
  refine C1.out.mono ?_
  rintro e w1 ⟨v, rfl, a1, c1, rfl, gs, h1⟩
  obtain ⟨k, hk⟩ : ∃ k, k = (enc b).length := ⟨_, rfl⟩
  rw [← hk] at gs ⊢
  have HK := Lib.hid hk
  have GS := Lib.hid gs
  have GB := Lib.hid (HG.out.later h1)
  have H1 := Lib.hid ((Own.St.start w).later h1)
  have hkb : k ≤ 2 * n := by have := enc_len b; rw [HN.out] at this; omega
  clear h1 gs C1 hk
  by_cases hkn : (k : Int) < (n : Int)
  · have HP : Hid (pack b = [1] ++ enc b) := by
      show pack b = [1] ++ enc b
      unfold pack
      rw [if_pos (by rw [HN.out, ← HK.out]; omega)]
      rfl
    have HA := Lib.hid (ab_one H1.out 1)
    have HC := Lib.hid (vcells (vlater GS.out.view ((Own.St.start w1).alloc (.cells #[.int .u8 (((1 : UInt8).toNat : Nat) : Int)] 5)).below))
    have HNO := Lib.hid (given_nil GS.out)
    go_wp2_with (at_builtin; refine Byt.wpList_ab_append rfl (.tmp 16) (.tmp 17) rfl HA.out 0 rfl rfl a1 k c1 (enc b) rfl HNO.out GS.out.size HC.out (by omega) ?_; intro a4 c4 w4 h4; simp only [List.set_cons_zero] at h4; have H4 := Lib.hid h4; clear h4)
    go_ret
    have hk2 := (ab_len H4.out 0 rfl).1
    rw [← HP.out] at hk2
    refine ⟨_, rfl, a4, c4, by rw [hk2]; rfl, ?_, H4.out.below⟩
    rw [hk2, HP.out]
    exact given_own H4.out 0 rfl
  · have HP : Hid (pack b = [0] ++ b) := by
      show pack b = [0] ++ b
      unfold pack
      rw [if_neg (by rw [HN.out, ← HK.out]; omega)]
      rfl
    have HA := Lib.hid (ab_one H1.out 0)
    have HC := Lib.hid (vcells (vlater GB.out.view ((Own.St.start w1).alloc (.cells #[.int .u8 (((0 : UInt8).toNat : Nat) : Int)] 5)).below))
    have HNO := Lib.hid (given_nil GB.out)
    go_wp2_with (at_builtin; refine Byt.wpList_ab_append rfl (.tmp 16) (.tmp 17) rfl HA.out 0 rfl rfl ao n cap (b) rfl HNO.out GB.out.size HC.out (by omega) ?_; intro a4 c4 w4 h4; simp only [List.set_cons_zero] at h4; have H4 := Lib.hid h4; clear h4)
    go_ret
    have hk2 := (ab_len H4.out 0 rfl).1
    rw [← HP.out] at hk2
    refine ⟨_, rfl, a4, c4, by rw [hk2]; rfl, ?_, H4.out.below⟩
    rw [hk2, HP.out]
    exact given_own H4.out 0 rfl
end Lz
end Go.Proofs.Ythmnaofmpijbiaa
