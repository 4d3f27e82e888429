/- LzLess: the walk. -/
import Derived.Test.YthmnaofmpijbiaaLawLz
namespace Go.Proofs.Ythmnaofmpijbiaa
open Go.RowKit Go.Own
namespace Lz
open Go.MatM Go.LzM Byt

set_option maxHeartbeats 4000000 in
theorem walk_less (c0 : Int) (wc : (Lit.int .u8 c0).wf = true) (n0 : Int) (wn : (Lit.int .u16 n0).wf = true) (a0 : Option Addr) (len0 cap0 : Nat) (x0 : Bs) {w : World} (w0 : inBytes x0 w.heap.size w [.slice a0 len0 cap0]) (K : Kept w) :
    Calls Try.prog 6 #[.int .u8 c0, .int .u16 n0, .slice a0 len0 cap0] w (RetYes w) := by
  obtain ⟨c, rfl⟩ := u8_byte wc
  obtain ⟨n1, rfl, hn1⟩ := u16_nat wn
  have G := in_given w0
  obtain ⟨m, hm⟩ : ∃ m, m = min len0 100 := ⟨_, rfl⟩
  have hmin : min (len0 : Int) 100 = (m : Int) := by omega
  have hmn : m ≤ len0 := by omega
  have hmb : m ≤ 100 := by omega
  have g := given_take G m hmn
  obtain ⟨x, hx⟩ : ∃ x, x = x0.take m := ⟨_, rfl⟩
  rw [← hx] at g
  have GX := Lib.hid g
  obtain ⟨N, hN⟩ : ∃ N, N = n1 % 1001 := ⟨_, rfl⟩
  have hNi : (n1 : Int) % 1001 = (N : Int) := by omega
  have hNb : N ≤ 1000 := by omega
  obtain ⟨p, hp⟩ : ∃ p, pack (List.replicate N c) = p := ⟨_, rfl⟩
  obtain ⟨j, hj⟩ : ∃ j, p.length = j := ⟨_, rfl⟩
  have hjb : j ≤ N + 1 := by have h := pack_len (List.replicate N c); rw [hp, hj, List.length_replicate] at h; exact h
  obtain ⟨qd, hqd⟩ : ∃ q, q = N / 130 := ⟨_, rfl⟩
  have hqi : (N : Int) / 130 = (qd : Int) := by omega
  have hqb : qd ≤ 10 := by omega
  have hrun : (5 : Int) ≤ (N : Int) → ¬ 4 + 2 * ((qd : Int) + 1) < (j : Int) := by
    intro h5
    have h := run_packed c N (by omega)
    rw [hp, hj, ← hqd] at h
    omega
  obtain ⟨q, hq⟩ : ∃ q, pack (x ++ x) = q := ⟨_, rfl⟩
  obtain ⟨k, hk⟩ : ∃ k, q.length = k := ⟨_, rfl⟩
  have htw : ¬ (m : Int) < 20 → (k : Int) < 2 * (m : Int) := by
    intro h20
    have h := twice_packed x (by rw [g.size]; omega) (by rw [g.size]; omega)
    rw [hq, hk, g.size] at h
    omega
  have hkb : k ≤ m + m + 1 := by have h := pack_len (x ++ x); rw [hq, hk, List.length_append, g.size] at h; exact h
  have C1 : Hid (∀ (ao : Option Addr) (cp : Nat) wx, Below w.heap.size w wx → Given wx ao N cp (List.replicate N c) → Calls Try.prog 10 #[.slice ao N cp] wx fun e w' => ∃ a cc, e = .returned (.slice a j cc) ∧ Given w' a j cc p ∧ Below wx.heap.size wx w') :=
    fun ao cp wx hwx h => pack_st K hwx h (by omega) hp hj
  have C2 : Hid (∀ (ao : Option Addr) (cp : Nat) wx, Below w.heap.size w wx → Given wx ao (m + m) cp (x ++ x) → Calls Try.prog 10 #[.slice ao (m + m) cp] wx fun e w' => ∃ a cc, e = .returned (.slice a k cc) ∧ Given w' a k cc q ∧ Below wx.heap.size wx w') :=
    fun ao cp wx hwx h => pack_st K hwx h (by omega) hq hk
  have SH := Lib.hid (shown_any K)
  have hCT := cutTo (ao := a0) (l := x0) (m := len0) (cap := cap0) m G.size hmn G.room.1 G.room.2 G.nil
  have CT := Lib.hid hCT.1
  have HRUN := Lib.hid hrun
  have HTW := Lib.hid htw
  clear hCT hm hx hp hj hq hk hN hqd G g w0 K hrun htw wc wn
  go_enter Try.func6, Try.ntmps6
  go_wp2_with (fail)
  refine SH.out.mono ?_
  rintro e w1 ⟨rfl, h1⟩
  have B1 := Lib.hid ((Own.St.start w).later h1)
  clear h1
  obtain ⟨w2, hmk, hst⟩ := ab_make B1.out .i64 .i64 N (by omega)
  obtain ⟨gb, hg⟩ : ∃ g, g = w1.heap.size := ⟨_, rfl⟩
  rw [← hg] at hmk hst
  have HST := Lib.hid hst
  clear hst hg B1
  go_wp2
  clear hmk
  go_loopw [22] (fun v wr => ∃ t : Nat, t ≤ N ∧ v = .int .i64 (t : Int) ∧ Own.St w.heap.size w wr [AB (some ⟨gb, 0, none⟩) N N (ones c N t)]) (fun v _ => N - (intOf v).toNat)
  case atStart => exact ⟨0, Nat.zero_le _, rfl, by rw [ones_zero]; exact HST.out⟩
  case round =>
    obtain ⟨t, htN, rfl, H⟩ := hrel
    have H := Lib.hid H
    clear HST
    by_cases ht : t < N
    · obtain ⟨g', hg', cb, fb, hput⟩ := ab_byte H.out 0 rfl t ht
      cases hg'
      have PUT : Hid (Own.St w.heap.size w (wr.setCell ⟨gb, t, none⟩ (.int .u8 (c.toNat : Int))) [AB (some ⟨gb, 0, none⟩) N N (ones c N (t + 1))]) := by
        have h := hput c
        simp only [List.set_cons_zero] at h
        rw [ones_set c N t ht] at h
        exact h
      clear hput
      go_wp2
      go_roundw
      case rel => exact ⟨t + 1, by omega, by go_num, PUT.out⟩
      case measure => simp [intOf]; omega
    · have H2 : Hid (Own.St w.heap.size w wr [AB (some ⟨gb, 0, none⟩) N N (List.replicate N c)]) := by
        have h := H.out
        rw [show t = N by omega, ones_all] at h
        exact h
      clear H htN
      go_wp2_with (fail)
      refine (C1.out _ _ wr H2.out.below (given_own H2.out 0 rfl)).mono ?_
      rintro e w3 ⟨ap, cp, rfl, _, h3⟩
      have H3 := Lib.hid (H2.out.later h3)
      clear h3 H2
      have BE := Lib.hid (ab_empty H3.out)
      have HC := Lib.hid (fun wx (hwx : Below w.heap.size w wx) => vcells (GX.out.later hwx).view)
      have HNO := Lib.hid (given_nil GX.out)
      by_cases h5 : (5 : Int) ≤ (N : Int)
      · have hno := HRUN.out h5
        go_wp2_with (first
          | (refine Byt.wpList_val rfl (CT.out _ (.tmp 44) (.tmp 47) rfl _ _ rfl rfl) ?_)
          | (at_builtin; refine Byt.wpList_ab_append rfl (.tmp 49) (.tmp 50) rfl BE.out 0 rfl rfl a0 m cap0 x rfl HNO.out GX.out.size (HC.out _ BE.out.below) (by omega) ?_; intro a4 c4 w4 h4; simp only [Nat.zero_add, List.nil_append, List.set_cons_zero] at h4; have H4 := Lib.hid h4; clear h4)
          | (at_builtin; refine Byt.wpList_ab_append rfl (.tmp 51) (.tmp 52) rfl H4.out 0 rfl rfl a0 m cap0 x rfl HNO.out GX.out.size (HC.out _ H4.out.below) (by omega) ?_; intro a5 c5 w5 h5'; simp only [List.set_cons_zero] at h5'; have H5 := Lib.hid h5'; clear h5'))
        refine (C2.out _ _ w5 H5.out.below (given_own H5.out 0 rfl)).mono ?_
        rintro e w6 ⟨aq, cq, rfl, _, h6⟩
        have H6 := Lib.hid (H5.out.later h6)
        clear h6 H5
        by_cases h20 : (m : Int) < 20
        · go_wp2
          go_ret
          exact ⟨rfl, H6.out.below⟩
        · have htw2 := HTW.out (by omega)
          have htw3 : k < 2 * m := by omega
          go_wp2
          go_ret
          exact ⟨rfl, H6.out.below⟩
      · skip
        go_wp2_with (first
          | (refine Byt.wpList_val rfl (CT.out _ (.tmp 44) (.tmp 47) rfl _ _ rfl rfl) ?_)
          | (at_builtin; refine Byt.wpList_ab_append rfl (.tmp 49) (.tmp 50) rfl BE.out 0 rfl rfl a0 m cap0 x rfl HNO.out GX.out.size (HC.out _ BE.out.below) (by omega) ?_; intro a4 c4 w4 h4; simp only [Nat.zero_add, List.nil_append, List.set_cons_zero] at h4; have H4 := Lib.hid h4; clear h4)
          | (at_builtin; refine Byt.wpList_ab_append rfl (.tmp 51) (.tmp 52) rfl H4.out 0 rfl rfl a0 m cap0 x rfl HNO.out GX.out.size (HC.out _ H4.out.below) (by omega) ?_; intro a5 c5 w5 h5'; simp only [List.set_cons_zero] at h5'; have H5 := Lib.hid h5'; clear h5'))
        refine (C2.out _ _ w5 H5.out.below (given_own H5.out 0 rfl)).mono ?_
        rintro e w6 ⟨aq, cq, rfl, _, h6⟩
        have H6 := Lib.hid (H5.out.later h6)
        clear h6 H5
        by_cases h20 : (m : Int) < 20
        · go_wp2
          go_ret
          exact ⟨rfl, H6.out.below⟩
        · have htw2 := HTW.out (by omega)
          have htw3 : k < 2 * m := by omega
          go_wp2
          go_ret
          exact ⟨rfl, H6.out.below⟩
end Lz
end Go.Proofs.Ythmnaofmpijbiaa
