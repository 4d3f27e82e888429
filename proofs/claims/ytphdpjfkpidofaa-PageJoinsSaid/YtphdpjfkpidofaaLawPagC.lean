/- Layer 9: PageCounts. -/
import Derived.Test.YtphdpjfkpidofaaLawPagB
namespace Go.Proofs.Ytphdpjfkpidofaa
open Go.RowKit Go.Own
namespace Pag
open Go.PagM Byt
theorem kind64 (k : UInt8) : (k % 64).toNat ≤ 63 := by
  rw [UInt8.toNat_mod]
  show k.toNat % 64 ≤ 63
  omega
theorem rem64 (k : UInt8) : ((k.toNat : Int)).tmod 64 = (((k % 64 : UInt8)).toNat : Int) := by
  rw [UInt8.toNat_mod]
  show ((k.toNat : Int)).tmod ((64 : Nat) : Int) = ((k.toNat % 64 : Nat) : Int)
  rw [Int.ofNat_tmod]
/-- page number j is taken -/
theorem take_at (kind : UInt8) (hk : kind.toNat ≤ 63) (b : PagM.Bs) (j : Nat) (h : j < (pages kind b).length) : PagM.take ((pages kind b).getD j []) = (⟨kind, decide (j = 0), decide (b.length ≤ 125 * (j + 1)), (b.drop (125 * j)).take 125⟩, 0) := by
  rw [List.getD_eq_getElem?_getD, pages_at kind b j h]
  exact take_laid hk (by simp; omega)
set_option maxRecDepth 10000 in
set_option maxHeartbeats 8000000 in
theorem walk_counts (kind0 : UInt8) (ao : Option Addr) (n cap : Nat) (p : PagM.Bs) {w : World} (hg : Given w ao n cap p) (K : Kept w) :
    Calls Try.prog 10 #[.int .u8 (kind0.toNat : Int), .slice ao n cap] w (RetYes w) := by
  obtain ⟨kind, hkd⟩ : ∃ k, k = kind0 % 64 := ⟨_, rfl⟩
  have hk63 : kind.toNat ≤ 63 := by rw [hkd]; exact kind64 kind0
  have hrem := rem64 kind0
  rw [← hkd] at hrem
  obtain ⟨Y, hY⟩ : ∃ Y, Y = pages kind p := ⟨_, rfl⟩
  obtain ⟨N, hN⟩ : ∃ N, N = Y.length := ⟨_, rfl⟩
  have hlen := hg.size
  have hNN : N = max 1 ((n + 124) / 125) := by rw [hN, hY, pages_len, hlen]
  have C1 : Hid (∀ wx, Below w.heap.size w wx → n ≤ 8000 → Calls Try.prog 17 #[.int .u8 (kind.toNat : Int), .slice ao n cap] wx fun e w' => ∃ ao cap, e = .returned (.tuple #[.slice ao N cap, .int .i64 0]) ∧ GivenL w' ao N cap Y ∧ Below wx.heap.size wx w') := by
    intro wx hwx hn
    refine (K.split kind ao n cap p hwx (hg.later hwx) (by omega)).mono ?_
    have hs : split kind p = (Y, 0) := by
      have h0 : splitE kind p = 0 := by
        unfold splitE
        rw [if_neg (show ¬ 63 < kind.toNat by omega), if_neg (show ¬ 8000 < p.length by omega)]
      unfold split
      rw [if_pos h0, hY]
    rw [hs]
    rintro e w' ⟨a, c, rfl, h1, h2⟩
    rw [hN]
    exact ⟨a, c, rfl, h1, h2⟩
  have CT : Hid (∀ wx i a c, Below w.heap.size w wx → i < N → Given wx a (Y.getD i []).length c (Y.getD i []) → Calls Try.prog 14 #[.slice a (Y.getD i []).length c] wx fun e w' => ∃ ao cap, e = .returned (.tuple #[frV kind.toNat (decide (i = 0)) (decide (n ≤ 125 * (i + 1))) (.slice ao (min (n - 125 * i) 125) cap), .int .i64 0]) ∧ Below wx.heap.size wx w') := by
    intro wx i a c hwx hi hgi
    have hlp : (Y.getD i []).length ≤ 1000000 := by
      rw [hY, List.getD_eq_getElem?_getD, pages_at kind p i (by rw [← hY, ← hN]; exact hi)]
      show (laid _).length ≤ _
      rw [laid_len _ (by simp; omega)]
      omega
    refine (K.take a _ c _ hwx hgi hlp).mono ?_
    have ht : PagM.take (Y.getD i []) = (⟨kind, decide (i = 0), decide (p.length ≤ 125 * (i + 1)), (p.drop (125 * i)).take 125⟩, 0) := by
      rw [hY]
      exact take_at kind hk63 p i (by rw [← hY, ← hN]; exact hi)
    rw [ht]
    rintro e w' ⟨a, c, rfl, _, _, h2⟩
    refine ⟨a, c, ?_, h2⟩
    have e : ((p.drop (125 * i)).take 125).length = min (n - 125 * i) 125 := by
      rw [List.length_take, List.length_drop, hlen, Nat.min_comm]
    simp only [hlen, e]
    rfl
  have CS := Lib.hid (shown_any K (Below.refl _ w))
  clear hY hg K hkd hN
  go_enter Try.func10, Try.ntmps10
  go_wp2_with (fail)
  refine CS.out.mono ?_
  clear CS
  rintro e w1 ⟨rfl, hb1⟩
  have B1 := Lib.hid hb1
  clear hb1
  by_cases hlong : (8000 : Int) < (n : Int)
  · go_wp2
    go_ret
    exact ⟨rfl, B1.out⟩
  have hn : n ≤ 8000 := by omega
  have D1 := Lib.hid (C1.out w1 B1.out hn)
  clear C1
  go_wp2_with (fail)
  refine D1.out.mono ?_
  clear D1
  rintro e w2 ⟨a2, k2, rfl, hg2, hb2⟩
  have G2 := Lib.hid hg2
  have B2 := Lib.hid (B1.out.trans (hb2.mono B1.out.size))
  have hne : ((N : Int) != max 1 (((n : Int) + 125 - 1) / 125)) = false := by
    have e : (N : Int) = max 1 (((n : Int) + 125 - 1) / 125) := by rw [hNN]; omega
    rw [e]
    exact bne_self_eq_false _
  have hNb : N ≤ 65 := by rw [hNN]; omega
  clear hg2 hb2 B1
  have HNN := Lib.hid hNN
  clear hNN
  go_wp2
  clear hne
  go_loopw [42, 8] (fun v l wr => ∃ i : Nat, i ≤ N ∧ v = .int .i64 (i : Int) ∧ l = .int .i64 ((n - 125 * i : Nat) : Int) ∧ Below w2.heap.size w2 wr) (fun v _ _ => N - (intOf v).toNat)
  case atStart => exact ⟨0, Nat.zero_le _, rfl, rfl, Below.refl _ _⟩
  case round =>
    obtain ⟨i, hiN, rfl, rfl, hbr⟩ := hrel
    have BR := Lib.hid hbr
    clear hbr
    by_cases hi : (i : Int) < (N : Int)
    · have hin : i < N := by omega
      obtain ⟨b, o, aj, cj, rfl, hbl, hc1, hg1⟩ := (G2.out.later BR.out).rows i hin
      have D := Lib.hid (CT.out wr i aj cj (B2.out.trans (BR.out.mono B2.out.size)) hin hg1)
      obtain ⟨L, hL⟩ : ∃ L, L = (Y.getD i []).length := ⟨_, rfl⟩
      obtain ⟨m, hm⟩ : ∃ m, m = n - 125 * i := ⟨_, rfl⟩
      obtain ⟨q, hq⟩ : ∃ q, q = min m 125 := ⟨_, rfl⟩
      obtain ⟨fi, hfi⟩ : ∃ f, f = decide (i = 0) := ⟨_, rfl⟩
      obtain ⟨la, hla⟩ : ∃ f, f = decide (n ≤ 125 * (i + 1)) := ⟨_, rfl⟩
      rw [← hL, ← hm, ← hq, ← hfi, ← hla] at D
      rw [← hL] at hc1
      rw [← hm]
      have hl1 : m - q = n - 125 * (i + 1) := by omega
      have hl0 : (m : Int) - (q : Int) = ((n - 125 * (i + 1) : Nat) : Int) := by omega
      have hmi : min (m : Int) 125 = (q : Int) := by omega
      have hf2 : fi = ((i : Int) == 0) := by
        rw [hfi, Bool.eq_iff_iff]
        simp
      have hla2 : la = ((i : Int) == (N : Int) - 1) := by
        have h := HNN.out
        rw [hla, Bool.eq_iff_iff]
        simp only [decide_eq_true_eq, beq_iff_eq]
        omega
      have HL1 := Lib.hid hl0
      have HMI := Lib.hid hmi
      have HF2 := Lib.hid hf2
      have HLA2 := Lib.hid hla2
      clear hg1 hL hm hq hfi hla hl1 hl0 hmi hf2 hla2
      go_wp2_with (fail)
      refine D.out.mono ?_
      clear D
      rintro e w3 ⟨a3, c3, rfl, hb3⟩
      have B3 := Lib.hid ((BR.out.trans (hb3.mono BR.out.size)))
      have hl0 := HL1.out
      have hmi := HMI.out
      have hf2 := HF2.out
      have hla2 := HLA2.out
      clear HL1 HMI HF2 HLA2 hb3 CT
      go_wp2
      go_roundw
      case rel => exact ⟨i + 1, by omega, by go_num, rfl, B3.out.trans (((Own.St.start w3).alloc _).below.mono B3.out.size)⟩
      case measure => simp [intOf]; omega
    · have he : ((n - 125 * i : Nat) : Int) = 0 := by
        have h := HNN.out
        omega
      have BW := Lib.hid (B2.out.trans (BR.out.mono B2.out.size))
      go_wp2
      go_ret
      exact ⟨rfl, BW.out⟩
end Pag
end Go.Proofs.Ytphdpjfkpidofaa
