/- Layer 9: PageWhole. -/
import Derived.Test.YtphdpjfkpidofaaLawPagE
import Derived.Test.YtphdpjfkpidofaaPagW
namespace Go.Proofs.Ytphdpjfkpidofaa
open Go.RowKit Go.Own
namespace Pag
open Go.PagM Byt
theorem pages_short (kind : UInt8) (b : PagM.Bs) : ∀ q ∈ pages kind b, q.length ≤ 1000000 := by
  intro q hq
  obtain ⟨j, hj⟩ := List.getElem?_of_mem hq
  have hl := (List.getElem?_eq_some_iff.1 hj).1
  rw [pages_at kind b j hl] at hj
  cases hj
  rw [laid_len _ (by simp; omega)]
  omega
theorem slices_app {w : World} {N m : Nat} {V1 V2 : List Value} {Y Z : List PagM.Bs} (hl1 : V1.length = N) (hy : Y.length = N) (h1 : ∀ j, j < N → ∃ v, V1[j]? = some v ∧ SliceOf w (Y.getD j []) v) (h2 : ∀ j, j < m → ∃ v, V2[j]? = some v ∧ SliceOf w (Z.getD j []) v) :
    ∀ j, j < N + m → ∃ v, (V1 ++ V2)[j]? = some v ∧ SliceOf w ((Y ++ Z).getD j []) v := by
  intro j hj
  rcases Nat.lt_or_ge j N with h | h
  · obtain ⟨v, e, g⟩ := h1 j h
    refine ⟨v, by rw [List.getElem?_append_left (by omega)]; exact e, ?_⟩
    rw [List.getD_eq_getElem?_getD, List.getElem?_append_left (by omega), ← List.getD_eq_getElem?_getD]
    exact g
  · obtain ⟨v, e, g⟩ := h2 (j - N) (by omega)
    refine ⟨v, by rw [List.getElem?_append_right (by omega), hl1]; exact e, ?_⟩
    rw [List.getD_eq_getElem?_getD, List.getElem?_append_right (by omega), hy, ← List.getD_eq_getElem?_getD]
    exact g
set_option maxRecDepth 10000 in
set_option maxHeartbeats 8000000 in
theorem walk_whole (kind0 : UInt8) (ao : Option Addr) (n cap : Nat) (p : PagM.Bs) (ab : Option Addr) (nb cb : Nat) (Lb : List PagM.Bs) (cut : UInt8) {w : World} (hg : Given w ao n cap p) (hb : GivenL w ab nb cb Lb) (K : Kept w) :
    Calls Try.prog 8 #[.int .u8 (kind0.toNat : Int), .slice ao n cap, .slice ab nb cb, .int .u8 (cut.toNat : Int)] w (RetYes w) := by
  obtain ⟨kind, hkd⟩ : ∃ k, k = kind0 % 64 := ⟨_, rfl⟩
  have hk63 : kind.toNat ≤ 63 := by rw [hkd]; exact kind64 kind0
  have hrem := rem64 kind0
  rw [← hkd] at hrem
  obtain ⟨cv, hcv⟩ : ∃ v, v = cut.toNat := ⟨_, rfl⟩
  have hcb : cv ≤ 255 := by have := cut.toNat_lt; omega
  rw [← hcv]
  obtain ⟨Y, hY⟩ : ∃ Y, Y = pages kind p := ⟨_, rfl⟩
  obtain ⟨N, hN⟩ : ∃ N, N = Y.length := ⟨_, rfl⟩
  have hlen := hg.size
  have hNN : N = max 1 ((n + 124) / 125) := by rw [hN, hY, pages_len, hlen]
  have hN1 : 1 ≤ N := by omega
  obtain ⟨c, hc⟩ : ∃ c, c = cv % N := ⟨_, rfl⟩
  have hcN : c < N := by rw [hc]; exact Nat.mod_lt _ (by omega)
  have hremc : (cv : Int) % (N : Int) = (c : Int) := by rw [hc]; omega
  obtain ⟨m, hm⟩ : ∃ m, m = fewN Lb := ⟨_, rfl⟩
  have hmn : m ≤ nb := by rw [hm, ← hb.size]; exact fewF_le Lb 0
  have hm70 : m ≤ 70 := by rw [hm]; exact fewF_most Lb 0 (by decide)
  have hsh : ∀ p ∈ Lb.take m, p.length ≤ 1000000 := by rw [hm]; exact fun p hp => Nat.le_trans (fewF_short Lb 0 p hp) (by decide)
  have hgm := givenL_take hb m hmn
  obtain ⟨Bh, hBh⟩ : ∃ B, B = Lb.take m := ⟨_, rfl⟩
  rw [← hBh] at hgm hsh
  have hps : ∀ q ∈ Y, q.length ≤ 1000000 := by rw [hY]; exact pages_short kind p
  have C1 : Hid (∀ wx, Below w.heap.size w wx → n ≤ 8000 → Calls Try.prog 17 #[.int .u8 (kind.toNat : Int), .slice ao n cap] wx fun e w' => ∃ ao cap, e = .returned (.tuple #[.slice ao N cap, .int .i64 0]) ∧ GivenL w' ao N cap Y ∧ Below wx.heap.size wx w') := by
    intro wx hwx hn
    refine (K.split kind ao n cap p hwx (hg.later hwx) (by omega)).mono ?_
    have hs : split kind p = (Y, 0) := by
      have h0 : splitE kind p = 0 := by
        unfold splitE
        rw [if_neg (show ¬ 63 < kind.toNat by omega), if_neg (show ¬ 8000 < p.length by omega)]
      unfold split
      rw [if_pos h0, hY]
    rw [hs]
    rintro e w' ⟨a, c, rfl, h1, h2⟩
    rw [hN]
    exact ⟨a, c, rfl, h1, h2⟩
  have CF : Hid (∀ wx, Below w.heap.size w wx → Calls Try.prog 20 #[.slice ab nb cb] wx fun e w' => e = .returned (.slice ab m cb) ∧ w' = wx) := by
    intro wx hwx
    rw [hm]
    exact few_any ab nb cb Lb wx (hb.later hwx)
  have J1 : Hid (∀ wx a k, Below w.heap.size w wx → n ≤ 8000 → GivenL wx a (N + m) k (Y ++ Bh) → Calls Try.prog 19 #[.slice a (N + m) k] wx fun e w' => ∃ a c, e = .returned (.tuple #[.int .u8 (kind.toNat : Int), .slice a n c, .int .i64 (N : Int), .int .i64 0]) ∧ Given w' a n c p ∧ Below wx.heap.size wx w') := by
    intro wx a k hwx hn h
    have hj : join (Y ++ Bh) = ((kind, p, N), 0) := by rw [hN, hY]; exact join_split kind p hk63 (by omega) Bh
    refine (K.join a _ k _ hwx h (by omega) (fun q hq => (List.mem_append.1 hq).elim (hps q) (hsh q))).mono ?_
    rw [hj]
    rintro e w' ⟨a, c, h1, h2, h3⟩
    simp only [hlen] at h1 h2
    exact ⟨a, c, h1, h2, h3⟩
  have J2 : Hid (∀ wx a k, Below w.heap.size w wx → n ≤ 8000 → GivenL wx a c k (Y.take c) → Calls Try.prog 19 #[.slice a c k] wx fun e w' => ∃ a c, e = .returned (.tuple #[.int .u8 0, .slice a 0 c, .int .i64 0, .int .i64 90]) ∧ Below wx.heap.size wx w') := by
    intro wx a k hwx hn h
    have hj : join (Y.take c) = ((0, [], 0), 90) := by rw [hY]; exact join_begin kind p hk63 c (by rw [← hY, ← hN]; exact hcN)
    refine (K.join a _ k _ hwx h (by omega) (fun q hq => hps q (List.mem_of_mem_take hq))).mono ?_
    rw [hj]
    rintro e w' ⟨a, c, h1, h2, h3⟩
    exact ⟨a, c, h1, h3⟩
  have J3 : Hid (∀ wx a k, Below w.heap.size w wx → n ≤ 8000 → GivenL wx a (N - 1) k (Y.drop 1) → Calls Try.prog 19 #[.slice a (N - 1) k] wx fun e w' => ∃ a c, e = .returned (.tuple #[.int .u8 0, .slice a 0 c, .int .i64 0, .int .i64 90]) ∧ Below wx.heap.size wx w') := by
    intro wx a k hwx hn h
    have hj : join (Y.drop 1) = ((0, [], 0), 90) := by rw [hY]; exact join_end kind p hk63
    refine (K.join a _ k _ hwx h (by omega) (fun q hq => hps q (List.mem_of_mem_drop hq))).mono ?_
    rw [hj]
    rintro e w' ⟨a, c, h1, h2, h3⟩
    exact ⟨a, c, h1, h3⟩
  have CS := Lib.hid (shown_any K (Below.refl _ w))
  have HG := Lib.hid hg
  have HGM := Lib.hid hgm
  have HYL := Lib.hid hN
  have HNN := Lib.hid hNN
  have hN0 : ¬ (N : Int) = 0 := by omega
  clear hY hg hb K hkd hN hNN hc hcv hm hmn hsh hgm hBh hps hlen
  go_enter Try.func8, Try.ntmps8
  go_wp2_with (fail)
  refine CS.out.mono ?_
  clear CS
  rintro e w1 ⟨rfl, hb1⟩
  have B1 := Lib.hid hb1
  clear hb1
  by_cases hlong : (8000 : Int) < (n : Int)
  · go_wp2
    go_ret
    exact ⟨rfl, B1.out⟩
  have hn : n ≤ 8000 := by omega
  have hN64 : N ≤ 64 := by have h := HNN.out; omega
  have hN65 : ¬ (64 : Int) < (N : Int) := by omega
  have hNf : ((N : Int) == 0) = false := by simpa using hN0
  have D1 := Lib.hid (C1.out w1 B1.out hn)
  clear C1 HNN
  go_wp2_with (fail)
  refine D1.out.mono ?_
  clear D1
  rintro e w2 ⟨a2, k2, rfl, hg2, hb2⟩
  have G2 := Lib.hid hg2
  have B2 := Lib.hid (B1.out.trans (hb2.mono B1.out.size))
  obtain ⟨V1, hl1, hv1, ho1, hw1⟩ := givenL_vals hg2
  obtain ⟨V2, hl2, hv2, ho2, hw2⟩ := givenL_vals (HGM.out.later B2.out)
  have BR := Lib.hid (St.bareRow (Own.St.start w2) 22 1)
  have W1 := Lib.hid (hw1 _ BR.out.below)
  have W2 := Lib.hid hw2
  have X1 := Lib.hid hv1
  have X2 := Lib.hid hv2
  have O1 := Lib.hid ho1
  have O2 := Lib.hid ho2
  have L1 : Hid (V1.length = N * 1) := by show V1.length = N * 1; omega
  have L2 : Hid (V2.length = m * 1) := by show V2.length = m * 1; omega
  have N1 : Hid (a2 = none → N = 0 ∧ k2 = 0) := fun h => by have h1 := G2.out.nil h; have h2 := G2.out.room.1; omega
  have N2 : Hid (ab = none → m = 0 ∧ cb = 0) := fun h => by have h1 := HGM.out.nil h; have h2 := HGM.out.room.1; omega
  clear hg2 hb2 B1 hl1 hv1 ho1 hw1 hl2 hv2 ho2 hw2
  go_wp2_with (first
    | (at_builtin; refine Go.Own.wpList_mbs_append bssMbs rfl (.tmp 49) (.tmp 50) rfl BR.out 0 rfl rfl a2 N k2 V1 rfl N1.out L1.out W1.out O1.out (by omega) (by decide) ?_; intro a4 c4 w4 h4; simp only [Nat.zero_add, List.nil_append, List.set_cons_zero] at h4 ⊢; have H4 := Lib.hid h4; have D4 := Lib.hid (CF.out w4 (B2.out.trans (h4.below.mono B2.out.size))); clear h4))
  clear BR W1 O1 N1 CF
  refine D4.out.mono ?_
  clear D4
  rintro e w5 ⟨rfl, rfl⟩
  have W2b := Lib.hid (W2.out _ H4.out.below)
  clear W2
  go_wp2_with (first
    | (at_builtin; refine Go.Own.wpList_mbs_append bssMbs rfl (.tmp 51) (.tmp 53) rfl H4.out 0 rfl rfl ab m cb V2 rfl N2.out L2.out W2b.out O2.out (by omega) (by decide) ?_; intro a6 c6 w6 h6; simp only [List.set_cons_zero] at h6 ⊢; have H6 := Lib.hid h6; clear h6))
  have GA := Lib.hid (givenL_row (L := Y ++ Bh) 0 H6.out rfl (by rw [List.length_append, ← HYL.out, HGM.out.size]) (fun j hj => by
    obtain ⟨v, e, g⟩ := slices_app (by have h := L1.out; omega) HYL.out.symm X1.out X2.out j hj
    exact ⟨v, e, g.later H6.out.below⟩))
  have B6 := Lib.hid (B2.out.trans (H6.out.below.mono B2.out.size))
  have D6 := Lib.hid (J1.out w6 a6 c6 B6.out hn GA.out)
  have G6 := Lib.hid (G2.out.later H6.out.below)
  clear H4 H6 GA X1 X2 L1 L2 N2 O2 W2b J1 B2 G2 HGM
  refine D6.out.mono ?_
  clear D6
  rintro e w7 ⟨a7, k7, rfl, hg7, hb7⟩
  have G7 := Lib.hid hg7
  have B7 := Lib.hid (B6.out.trans (hb7.mono B6.out.size))
  have GL7 := Lib.hid (G6.out.later hb7)
  have CK := Lib.hid (cutLK (ao := a2) (m := N) (cap := k2) c (by omega) GL7.out.room.1 GL7.out.room.2 GL7.out.nil)
  have D7 := Lib.hid (J2.out w7 a2 k2 B7.out hn (givenL_take GL7.out c (by omega)))
  clear hg7 hb7 B6 G6 J2
  go_wp2_with (show wpList _ _ _ ({ dst := some 69, op := _, type := _, pos := _, after := _, guard := _ } :: _) _ _; rw [hremc]; refine Byt.wpList_val rfl (CK.out _ (.tmp 63) (.tmp 68) rfl _ _ rfl rfl) ?_)
  refine D7.out.mono ?_
  clear D7 CK hremc
  rintro e w8 ⟨a8, k8, rfl, hb8⟩
  have G8 := Lib.hid (G7.out.later hb8)
  have B8 := Lib.hid (B7.out.trans (hb8.mono B7.out.size))
  have GL8 := Lib.hid (GL7.out.later hb8)
  obtain ⟨a9, k9, hr9, hl9⟩ := cutL1 (ao := a2) (m := N) (cap := k2) hN1 GL8.out.room.1 GL8.out.room.2 GL8.out.nil
  have R9 := Lib.hid hr9
  have D8 := Lib.hid (J3.out w8 a9 k9 B8.out hn (hl9 _ _ GL8.out))
  clear hb8 hr9 hl9 G7 B7 GL7 GL8 J3
  go_wp2_with (refine Byt.wpList_val rfl (R9.out _ 76 rfl _ _ rfl rfl) ?_)
  refine D8.out.mono ?_
  clear D8 R9
  rintro e w9 ⟨a10, k10, rfl, hb9⟩
  have G9 := Lib.hid (G8.out.later hb9)
  have B9 := Lib.hid (B8.out.trans (hb9.mono B8.out.size))
  have GP := Lib.hid (HG.out.later B9.out)
  have HSM : Hid (decide (p = p) = true) := decide_eq_true rfl
  clear hb9 G8 B8 HG
  go_wp2_with (first
    | (refine Byt.wpList_str8 rfl (.tmp 91) rfl a7 _ k7 rfl _ _ G9.out.view G9.out.size ?_)
    | (refine Byt.wpList_str8 rfl (.tmp 93) rfl ao n cap rfl _ _ GP.out.view GP.out.size ?_)
    | (refine Byt.wpList_val rfl (eql_str rfl _ _ true HSM.out _ _ rfl rfl) ?_))
  go_ret
  exact ⟨rfl, B9.out⟩
end Pag
end Go.Proofs.Ytphdpjfkpidofaa
