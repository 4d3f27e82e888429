/- Layer 9: PageBack. -/
import Derived.Test.YtphdpjfkpidofaaLawPagC
namespace Go.Proofs.Ytphdpjfkpidofaa
open Go.RowKit Go.Own
namespace Pag
open Go.PagM Byt
theorem given_zero (w : World) : Given w none 0 0 [] := ⟨.inl rfl, rfl, ⟨Nat.le_refl _, Nat.zero_le _⟩, fun _ => rfl⟩
theorem layE_vals (f : Frm) : layE f = 0 ∨ (¬ layE f = 0 ∧ lay f = ([], layE f)) := by
  by_cases h : layE f = 0
  · exact .inl h
  · refine .inr ⟨h, ?_⟩
    unfold lay
    rw [if_neg h]
/-- what comes of a frame that is laid and taken -/
theorem back_one (f : Frm) : ((lay f).2 = 0 ∧ (PagM.take (lay f).1).1 = f ∧ (PagM.take (lay f).1).2 = 0) ∨ (¬ (lay f).2 = 0 ∧ (lay f).1.length = 0 ∧ (PagM.take (lay f).1).2 = 90) := by
  rcases layE_vals f with h | ⟨h, e⟩
  · left
    rw [take_lay h]
    refine ⟨?_, rfl, rfl⟩
    unfold lay
    rw [if_pos h]
  · right
    rw [e]
    exact ⟨h, rfl, rfl⟩
/-- what comes of bytes that are taken and laid -/
theorem back_two (p : PagM.Bs) : ((PagM.take p).2 = 0 ∧ (lay (PagM.take p).1).1 = p ∧ (lay (PagM.take p).1).2 = 0) ∨ ((PagM.take p).2 = 90 ∧ (PagM.take p).1 = zeroF) := by
  by_cases h : isPage p = true
  · left
    rw [lay_take h]
    refine ⟨?_, rfl, rfl⟩
    unfold PagM.take
    rw [if_pos h]
  · right
    unfold PagM.take
    rw [if_neg h]
    exact ⟨rfl, rfl⟩
theorem take_short (p : PagM.Bs) : (PagM.take p).1.data.length ≤ 125 := by
  by_cases h : isPage p = true
  · obtain ⟨h1, h2, h3⟩ := isPage_props h
    have := (guess_small p h1 h2).2
    unfold PagM.take
    rw [if_pos h]
    show (guess p).data.length ≤ 125
    omega
  · unfold PagM.take
    rw [if_neg h]
    exact Nat.zero_le _
theorem lay_short (f : Frm) : (lay f).1.length ≤ 128 := by
  unfold lay
  split
  · rename_i h
    rw [laid_len f (lay_ok h).2]
    omega
  · exact Nat.zero_le _
set_option maxRecDepth 10000 in
set_option maxHeartbeats 8000000 in
theorem walk_back (f : Frm) (a1 : Option Addr) (n1 k1 : Nat) (ao : Option Addr) (n cap : Nat) (p : PagM.Bs) {w : World} (hf : Given w a1 n1 k1 f.data) (hg : Given w ao n cap p) (K : Kept w) :
    Calls Try.prog 7 #[frV f.kind.toNat f.first f.last (.slice a1 n1 k1), .slice ao n cap] w (RetYes w) := by
  have hc1 := back_one f
  have hc2 := back_two p
  have hs1 := lay_short f
  have hs2 := take_short p
  obtain ⟨lb, hlb⟩ : ∃ l, l = (lay f).1 := ⟨_, rfl⟩
  obtain ⟨E, hE⟩ : ∃ l, l = (lay f).2 := ⟨_, rfl⟩
  obtain ⟨zf, hzf⟩ : ∃ l, l = (PagM.take lb).1 := ⟨_, rfl⟩
  obtain ⟨E2, hE2⟩ : ∃ l, l = (PagM.take lb).2 := ⟨_, rfl⟩
  obtain ⟨m, hm⟩ : ∃ m, m = lb.length := ⟨_, rfl⟩
  obtain ⟨xf, hxf⟩ : ∃ l, l = (PagM.take p).1 := ⟨_, rfl⟩
  obtain ⟨I, hI⟩ : ∃ l, l = (PagM.take p).2 := ⟨_, rfl⟩
  obtain ⟨Q, hQ⟩ : ∃ l, l = (lay xf).1 := ⟨_, rfl⟩
  obtain ⟨kk, hkk⟩ : ∃ l, l = (lay xf).2 := ⟨_, rfl⟩
  rw [← hlb] at hs1 hc1
  rw [← hE, ← hzf, ← hE2, ← hm] at hc1
  rw [← hxf] at hs2 hc2
  rw [← hI, ← hQ, ← hkk] at hc2
  have C1 : Hid (∀ wx, Below w.heap.size w wx → n1 ≤ 10000 → Calls Try.prog 12 #[frV f.kind.toNat f.first f.last (.slice a1 n1 k1)] wx fun e w' => ∃ a c, e = .returned (.tuple #[.slice a m c, .int .i64 (E : Int)]) ∧ Given w' a m c lb ∧ Below wx.heap.size wx w') := by
    intro wx hwx hn
    rw [hm, hlb, hE]
    exact K.lay f a1 n1 k1 hwx (hf.later hwx) (by omega)
  have C2 : Hid (∀ wx a c, Below w.heap.size w wx → Given wx a m c lb → Calls Try.prog 14 #[.slice a m c] wx fun e w' => ∃ a c, e = .returned (.tuple #[frV zf.kind.toNat zf.first zf.last (.slice a zf.data.length c), .int .i64 (E2 : Int)]) ∧ Given w' a zf.data.length c zf.data ∧ Below wx.heap.size wx w') := by
    intro wx a c hwx h
    refine (K.take a m c lb hwx h (by omega)).mono ?_
    rw [hzf, hE2]
    rintro e w' ⟨a, c, h1, h2, _, h3⟩
    exact ⟨a, c, h1, h2, h3⟩
  have C3 : Hid (∀ wx, Below w.heap.size w wx → n ≤ 10000 → Calls Try.prog 14 #[.slice ao n cap] wx fun e w' => ∃ a c, e = .returned (.tuple #[frV xf.kind.toNat xf.first xf.last (.slice a xf.data.length c), .int .i64 (I : Int)]) ∧ Given w' a xf.data.length c xf.data ∧ Below wx.heap.size wx w') := by
    intro wx hwx hn
    refine (K.take ao n cap p hwx (hg.later hwx) (by omega)).mono ?_
    rw [hxf, hI]
    rintro e w' ⟨a, c, h1, h2, _, h3⟩
    exact ⟨a, c, h1, h2, h3⟩
  have C4 : Hid (∀ wx a c, Below w.heap.size w wx → Given wx a xf.data.length c xf.data → Calls Try.prog 12 #[frV xf.kind.toNat xf.first xf.last (.slice a xf.data.length c)] wx fun e w' => ∃ a c, e = .returned (.tuple #[.slice a Q.length c, .int .i64 (kk : Int)]) ∧ Given w' a Q.length c Q ∧ Below wx.heap.size wx w') := by
    intro wx a c hwx h
    rw [hQ, hkk]
    exact K.lay xf a _ c hwx h (by omega)
  have H0 := Lib.hid ((Own.St.start w).boxV 24 (frC f.kind.toNat f.first f.last (.slice a1 n1 k1)).toList)
  have CS := Lib.hid (shown_any K H0.out.below)
  have HC1 := Lib.hid hc1
  have HC2 := Lib.hid hc2
  have HG := Lib.hid hg
  have HF := Lib.hid hf
  obtain ⟨kd, fi, la, fd⟩ := f
  simp only at C1 H0 CS HF ⊢
  clear hc1 hc2 hs1 hs2 hlb hE hzf hE2 hm hxf hI hQ hkk hf hg K
  go_enter Try.func7, Try.ntmps7
  go_wp2_with (fail)
  refine CS.out.mono ?_
  clear CS
  rintro e w1 ⟨rfl, hb1⟩
  have H1 := Lib.hid (H0.out.later hb1)
  have c3 := (H1.out.cellV 0 rfl 3 rfl).1
  have c2 := (H1.out.cellV 0 rfl 2 rfl).1
  have c1 := (H1.out.cellV 0 rfl 1 rfl).1
  have c0 := (H1.out.cellV 0 rfl 0 rfl).1
  clear hb1 H0
  by_cases hlong : (10000 : Int) < (n1 : Int)
  · go_wp2
    go_ret
    exact ⟨rfl, H1.out.below⟩
  by_cases hlong2 : (10000 : Int) < (n : Int)
  · go_wp2
    go_ret
    exact ⟨rfl, H1.out.below⟩
  have hn1 : n1 ≤ 10000 := by omega
  have hn : n ≤ 10000 := by omega
  have D1 := Lib.hid (C1.out w1 H1.out.below hn1)
  clear C1
  go_wp2_with (fail)
  refine D1.out.mono ?_
  clear D1
  rintro e w2 ⟨a2, k2, rfl, hg2, hb2⟩
  have H2 := Lib.hid (H1.out.later hb2)
  have D2 := Lib.hid (C2.out w2 a2 k2 H2.out.below hg2)
  clear hg2 hb2 H1 C2 c0 c1 c2 c3
  go_wp2_with (fail)
  refine D2.out.mono ?_
  clear D2
  rintro e w3 ⟨a3, k3, rfl, hg3, hb3⟩
  have H3 := Lib.hid ((H2.out.later hb3).boxV 24 (frC zf.kind.toNat zf.first zf.last (.slice a3 zf.data.length k3)).toList)
  have G3 := Lib.hid (hg3.later ((Own.St.start w3).alloc (.cells (frC zf.kind.toNat zf.first zf.last (.slice a3 zf.data.length k3)) 24)).below)
  obtain ⟨b8, hb8⟩ : ∃ b, b = w3.heap.size := ⟨_, rfl⟩
  rw [← hb8] at H3
  obtain ⟨W3, hW3⟩ : ∃ W, W = w3.alloc (.cells (frC zf.kind.toNat zf.first zf.last (.slice a3 zf.data.length k3)) 24) := ⟨_, rfl⟩
  have H4 : Hid (Own.St w.heap.size w W3 [AVals b8 24 (frC zf.kind.toNat zf.first zf.last (.slice a3 zf.data.length k3)).toList, AVals w.heap.size 24 (frC kd.toNat fi la (.slice a1 n1 k1)).toList]) := by rw [hW3]; exact H3.out
  have G4 : Hid (Given W3 a3 zf.data.length k3 zf.data) := by show Given W3 _ _ _ _; rw [hW3]; exact G3.out
  have HW3 : Hid (w3.alloc (.cells #[.int .u8 (zf.kind.toNat : Int), .bool zf.first, .bool zf.last, .slice a3 zf.data.length k3] 24) = W3) := hW3.symm
  have HB8 : Hid (w3.heap.size = b8) := hb8.symm
  have c3 := (H4.out.cellV 1 rfl 3 rfl).1
  have c2 := (H4.out.cellV 1 rfl 2 rfl).1
  have c1 := (H4.out.cellV 1 rfl 1 rfl).1
  have c0 := (H4.out.cellV 1 rfl 0 rfl).1
  have d3 := (H4.out.cellV 0 rfl 3 rfl).1
  have d2 := (H4.out.cellV 0 rfl 2 rfl).1
  have d1 := (H4.out.cellV 0 rfl 1 rfl).1
  have d0 := (H4.out.cellV 0 rfl 0 rfl).1
  have GF := Lib.hid (HF.out.later H4.out.below)
  clear hg3 hb3 H2 H3 G3 hb8 hW3 HF
  have hsp : Hid ((E = 0 ∧ zf = ⟨kd, fi, la, fd⟩ ∧ E2 = 0) ∨ (¬ E = 0 ∧ m = 0 ∧ E2 = 90)) := HC1
  clear HC1
  rcases hsp.out with ⟨rfl, rfl, rfl⟩ | ⟨hE, rfl, rfl⟩
  · clear hsp
    have CQ := Lib.hid (same_any ⟨kd, fi, la, fd⟩ ⟨kd, fi, la, fd⟩ a1 a3 n1 k1 fd.length k3 W3 GF.out G4.out)
    rw [sameB_self] at CQ
    clear GF G4
    simp only at c0 c1 c2 c3 d0 d1 d2 d3 HW3
    go_wp2_with (first | (rw [HW3.out, HB8.out]) | fail)
    refine CQ.out.mono ?_
    clear CQ HW3 HB8
    rintro e w4 ⟨rfl, hb4⟩
    have H5 := Lib.hid (H4.out.later hb4)
    have D3 := Lib.hid (C3.out w4 H5.out.below hn)
    clear hb4 H4 c0 c1 c2 c3 d0 d1 d2 d3 C3
    go_wp2_with (fail)
    refine D3.out.mono ?_
    clear D3
    rintro e w5 ⟨a5, k5, rfl, hg5, hb5⟩
    have H6 := Lib.hid ((H5.out.later hb5).boxV 24 (frC xf.kind.toNat xf.first xf.last (.slice a5 xf.data.length k5)).toList)
    have G6 := Lib.hid (hg5.later ((Own.St.start w5).alloc (.cells (frC xf.kind.toNat xf.first xf.last (.slice a5 xf.data.length k5)) 24)).below)
    obtain ⟨b10, hb10⟩ : ∃ b, b = w5.heap.size := ⟨_, rfl⟩
    rw [← hb10] at H6
    obtain ⟨W5, hW5⟩ : ∃ W, W = w5.alloc (.cells (frC xf.kind.toNat xf.first xf.last (.slice a5 xf.data.length k5)) 24) := ⟨_, rfl⟩
    have H7 : Hid (Own.St w.heap.size w W5 [AVals b10 24 (frC xf.kind.toNat xf.first xf.last (.slice a5 xf.data.length k5)).toList, AVals b8 24 (frC kd.toNat fi la (.slice a3 fd.length k3)).toList, AVals w.heap.size 24 (frC kd.toNat fi la (.slice a1 n1 k1)).toList]) := by rw [hW5]; exact H6.out
    have G7 : Hid (Given W5 a5 xf.data.length k5 xf.data) := by show Given W5 _ _ _ _; rw [hW5]; exact G6.out
    have HW5 : Hid (w5.alloc (.cells #[.int .u8 (xf.kind.toNat : Int), .bool xf.first, .bool xf.last, .slice a5 xf.data.length k5] 24) = W5) := hW5.symm
    have HB10 : Hid (w5.heap.size = b10) := hb10.symm
    have e3 := (H7.out.cellV 0 rfl 3 rfl).1
    have e2 := (H7.out.cellV 0 rfl 2 rfl).1
    have e1 := (H7.out.cellV 0 rfl 1 rfl).1
    have e0 := (H7.out.cellV 0 rfl 0 rfl).1
    have D4 := Lib.hid (C4.out W5 a5 k5 H7.out.below G7.out)
    clear hg5 hb5 H5 H6 G6 hb10 hW5 C4
    go_wp2_with (first | (rw [HW5.out, HB10.out]) | fail)
    refine D4.out.mono ?_
    clear D4 HW5 HB10 e0 e1 e2 e3
    rintro e w6 ⟨a6, k6, rfl, hg6, hb6⟩
    have H8 := Lib.hid (H7.out.later hb6)
    have G8 := Lib.hid (G7.out.later hb6)
    have G9 := Lib.hid hg6
    have GP := Lib.hid (HG.out.later H8.out.below)
    have e3 := (H8.out.cellV 0 rfl 3 rfl).1
    have e2 := (H8.out.cellV 0 rfl 2 rfl).1
    have e1 := (H8.out.cellV 0 rfl 1 rfl).1
    have e0 := (H8.out.cellV 0 rfl 0 rfl).1
    have BZ := Lib.hid H8.out.below
    clear hg6 hb6 H7 H8 G7
    rcases HC2.out with ⟨rfl, rfl, rfl⟩ | ⟨rfl, rfl⟩
    · have HSM : Hid (decide (Q = Q) = true) := decide_eq_true rfl
      clear G8 e0 e1 e2 e3
      go_wp2_with (first
        | (refine Byt.wpList_str8 rfl (.tmp 79) rfl a6 _ k6 rfl _ _ G9.out.view G9.out.size ?_)
        | (refine Byt.wpList_str8 rfl (.tmp 81) rfl ao n cap rfl _ _ GP.out.view GP.out.size ?_)
        | (refine Byt.wpList_val rfl (eql_str rfl _ _ true HSM.out _ _ rfl rfl) ?_))
      go_ret
      exact ⟨rfl, BZ.out⟩
    · have CQ := Lib.hid (same_any zeroF zeroF a5 none 0 k5 0 0 w6 G8.out (given_zero w6))
      rw [sameB_self] at CQ
      clear G8 G9 GP
      go_wp2_with (fail)
      refine CQ.out.mono ?_
      clear CQ
      rintro e w7 ⟨rfl, hb7⟩
      have B7 := Lib.hid (BZ.out.trans (hb7.mono BZ.out.size))
      clear hb7
      go_wp2
      go_ret
      exact ⟨rfl, B7.out⟩
  · clear hsp
    have hE2 : ¬ (E : Int) = 0 := by omega
    have hE3 : ((E : Int) != 0) = true := by simpa using hE2
    have D3 := Lib.hid (C3.out W3 H4.out.below hn)
    have H5 := Lib.hid H4.out
    clear GF G4 c0 c1 c2 c3 d0 d1 d2 d3 H4 C3 hE
    go_wp2_with (first | (rw [HW3.out, HB8.out]) | fail)
    clear HW3 HB8 hE2 hE3
    refine D3.out.mono ?_
    clear D3
    rintro e w5 ⟨a5, k5, rfl, hg5, hb5⟩
    have H6 := Lib.hid ((H5.out.later hb5).boxV 24 (frC xf.kind.toNat xf.first xf.last (.slice a5 xf.data.length k5)).toList)
    have G6 := Lib.hid (hg5.later ((Own.St.start w5).alloc (.cells (frC xf.kind.toNat xf.first xf.last (.slice a5 xf.data.length k5)) 24)).below)
    obtain ⟨b10, hb10⟩ : ∃ b, b = w5.heap.size := ⟨_, rfl⟩
    rw [← hb10] at H6
    obtain ⟨W5, hW5⟩ : ∃ W, W = w5.alloc (.cells (frC xf.kind.toNat xf.first xf.last (.slice a5 xf.data.length k5)) 24) := ⟨_, rfl⟩
    have H7 : Hid (Own.St w.heap.size w W5 [AVals b10 24 (frC xf.kind.toNat xf.first xf.last (.slice a5 xf.data.length k5)).toList, AVals b8 24 (frC zf.kind.toNat zf.first zf.last (.slice a3 zf.data.length k3)).toList, AVals w.heap.size 24 (frC kd.toNat fi la (.slice a1 n1 k1)).toList]) := by rw [hW5]; exact H6.out
    have G7 : Hid (Given W5 a5 xf.data.length k5 xf.data) := by show Given W5 _ _ _ _; rw [hW5]; exact G6.out
    have HW5 : Hid (w5.alloc (.cells #[.int .u8 (xf.kind.toNat : Int), .bool xf.first, .bool xf.last, .slice a5 xf.data.length k5] 24) = W5) := hW5.symm
    have HB10 : Hid (w5.heap.size = b10) := hb10.symm
    have e3 := (H7.out.cellV 0 rfl 3 rfl).1
    have e2 := (H7.out.cellV 0 rfl 2 rfl).1
    have e1 := (H7.out.cellV 0 rfl 1 rfl).1
    have e0 := (H7.out.cellV 0 rfl 0 rfl).1
    have D4 := Lib.hid (C4.out W5 a5 k5 H7.out.below G7.out)
    clear hg5 hb5 H5 H6 G6 hb10 hW5 C4
    go_wp2_with (first | (rw [HW5.out, HB10.out]) | fail)
    refine D4.out.mono ?_
    clear D4 HW5 HB10 e0 e1 e2 e3
    rintro e w6 ⟨a6, k6, rfl, hg6, hb6⟩
    have H8 := Lib.hid (H7.out.later hb6)
    have G8 := Lib.hid (G7.out.later hb6)
    have G9 := Lib.hid hg6
    have GP := Lib.hid (HG.out.later H8.out.below)
    have e3 := (H8.out.cellV 0 rfl 3 rfl).1
    have e2 := (H8.out.cellV 0 rfl 2 rfl).1
    have e1 := (H8.out.cellV 0 rfl 1 rfl).1
    have e0 := (H8.out.cellV 0 rfl 0 rfl).1
    have BZ := Lib.hid H8.out.below
    clear hg6 hb6 H7 H8 G7
    rcases HC2.out with ⟨rfl, rfl, rfl⟩ | ⟨rfl, rfl⟩
    · have HSM : Hid (decide (Q = Q) = true) := decide_eq_true rfl
      clear G8 e0 e1 e2 e3
      go_wp2_with (first
        | (refine Byt.wpList_str8 rfl (.tmp 79) rfl a6 _ k6 rfl _ _ G9.out.view G9.out.size ?_)
        | (refine Byt.wpList_str8 rfl (.tmp 81) rfl ao n cap rfl _ _ GP.out.view GP.out.size ?_)
        | (refine Byt.wpList_val rfl (eql_str rfl _ _ true HSM.out _ _ rfl rfl) ?_))
      go_ret
      exact ⟨rfl, BZ.out⟩
    · have CQ := Lib.hid (same_any zeroF zeroF a5 none 0 k5 0 0 w6 G8.out (given_zero w6))
      rw [sameB_self] at CQ
      clear G8 G9 GP
      go_wp2_with (fail)
      refine CQ.out.mono ?_
      clear CQ
      rintro e w7 ⟨rfl, hb7⟩
      have B7 := Lib.hid (BZ.out.trans (hb7.mono BZ.out.size))
      clear hb7
      go_wp2
      go_ret
      exact ⟨rfl, B7.out⟩
end Pag
end Go.Proofs.Ytphdpjfkpidofaa
