/- Layer 9: PageTorn. -/
import Derived.Test.YtphdpjfkpidofaaLawPagD
namespace Go.Proofs.Ytphdpjfkpidofaa
open Go.RowKit Go.Own
namespace Pag
open Go.PagM Byt
theorem blankP_len : blankP.length = 128 := List.length_replicate
set_option maxRecDepth 10000 in
set_option maxHeartbeats 8000000 in
theorem walk_torn (f : Frm) (a1 : Option Addr) (n1 k1 : Nat) (nn : UInt8) {w : World} (hf : Given w a1 n1 k1 f.data) (K : Kept w) :
    Calls Try.prog 9 #[frV f.kind.toNat f.first f.last (.slice a1 n1 k1), .int .u8 (nn.toNat : Int)] w (RetYes w) := by
  obtain ⟨kd0, fi, la, fd⟩ := f
  simp only at hf ⊢
  obtain ⟨kd, hkd⟩ : ∃ k, k = kd0 % 64 := ⟨_, rfl⟩
  have hk63 : kd.toNat ≤ 63 := by rw [hkd]; exact kind64 kd0
  have hrem := rem64 kd0
  rw [← hkd] at hrem
  obtain ⟨nv, hnv⟩ : ∃ v, v = nn.toNat := ⟨_, rfl⟩
  have hnb : nv ≤ 255 := by have := nn.toNat_lt; omega
  rw [← hnv]
  clear hnv
  obtain ⟨kk, hkk⟩ : ∃ k, k = nv % 129 := ⟨_, rfl⟩
  have hkb : kk ≤ 128 := by omega
  have hrem2 : (nv : Int) % 129 = (kk : Int) := by omega
  obtain ⟨P, hP⟩ : ∃ P, P = laid ⟨kd, fi, la, fd⟩ := ⟨_, rfl⟩
  obtain ⟨bp, hbp⟩ : ∃ b, b = blankP := ⟨_, rfl⟩
  have hbl : bp.length = 128 := by rw [hbp]; exact blankP_len
  have hfl := hf.size
  have HPL : Hid (n1 ≤ 125 → P.length = 128) := fun h => by rw [hP]; exact laid_len _ (by show fd.length ≤ 125; omega)
  obtain ⟨zf, hzf⟩ : ∃ z, z = (PagM.take (P.take kk ++ bp.drop kk)).1 := ⟨_, rfl⟩
  obtain ⟨E, hE⟩ : ∃ z, z = (PagM.take (P.take kk ++ bp.drop kk)).2 := ⟨_, rfl⟩
  have HC : Hid (n1 ≤ 125 → (kk = 128 ∧ zf = ⟨kd, fi, la, fd⟩ ∧ E = 0) ∨ (kk < 128 ∧ zf = zeroF ∧ E = 90)) := by
    intro hn
    have hpl := HPL.out hn
    by_cases h : kk = 128
    · left
      have e : P.take kk ++ bp.drop kk = P := by
        rw [h, List.take_of_length_le (by omega), List.drop_of_length_le (by omega), List.append_nil]
      have ht : PagM.take P = (⟨kd, fi, la, fd⟩, 0) := by rw [hP]; exact take_laid hk63 (by show fd.length ≤ 125; omega)
      rw [e, ht] at hzf hE
      exact ⟨h, hzf, hE⟩
    · right
      have ht : PagM.take (P.take kk ++ bp.drop kk) = (zeroF, 90) := by
        unfold PagM.take
        rw [hbp, if_neg]
        have := torn kk (show kk < 128 by omega) hpl
        rw [show blankP = List.replicate 128 255 from rfl, this]
        exact Bool.false_ne_true
      rw [ht] at hzf hE
      exact ⟨by omega, hzf, hE⟩
  have C1 : Hid (∀ wx, Below w.heap.size w wx → n1 ≤ 125 → Calls Try.prog 12 #[frV kd.toNat fi la (.slice a1 n1 k1)] wx fun e w' => ∃ a c, e = .returned (.tuple #[.slice a 128 c, .int .i64 0]) ∧ Given w' a 128 c P ∧ Below wx.heap.size wx w') := by
    intro wx hwx hn
    refine (K.lay ⟨kd, fi, la, fd⟩ a1 n1 k1 hwx (hf.later hwx) (by omega)).mono ?_
    have e : lay ⟨kd, fi, la, fd⟩ = (P, 0) := by
      unfold lay
      rw [if_pos (layE_ok hk63 (by show fd.length ≤ 125; omega)), hP]
    rw [e]
    rintro e w' ⟨a, c, h1, h2, h3⟩
    simp only [HPL.out hn] at h1 h2
    exact ⟨a, c, h1, h2, h3⟩
  have C2 : Hid (∀ wx a c, Below w.heap.size w wx → Given wx a 128 c (P.take kk ++ bp.drop kk) → Calls Try.prog 14 #[.slice a 128 c] wx fun e w' => ∃ a c, e = .returned (.tuple #[frV zf.kind.toNat zf.first zf.last (.slice a zf.data.length c), .int .i64 (E : Int)]) ∧ Given w' a zf.data.length c zf.data ∧ Below wx.heap.size wx w') := by
    intro wx a c hwx h
    refine (K.take a _ c _ hwx h (by omega)).mono ?_
    rw [hzf, hE]
    rintro e w' ⟨a, c, h1, h2, _, h3⟩
    exact ⟨a, c, h1, h2, h3⟩
  have H0 := Lib.hid ((Own.St.start w).boxV 24 (frC kd0.toNat fi la (.slice a1 n1 k1)).toList)
  have CS := Lib.hid (shown_any K H0.out.below)
  have HF := Lib.hid hf
  have CE : Hid (∀ {wx : World} {Ps : List Asn}, Own.St w.heap.size w wx Ps → Calls Try.prog 22 #[] wx fun e w' => ∃ g, e = .returned (.slice (some ⟨g, 0, none⟩) 128 128) ∧ Own.St w.heap.size w w' (AB (some ⟨g, 0, none⟩) 128 128 bp :: Ps)) := by
    intro wx Ps H
    rw [hbp]
    exact erased_any H
  clear hP hbp hzf hE hf K hkd hkk hfl
  go_enter Try.func9, Try.ntmps9
  go_wp2_with (fail)
  refine CS.out.mono ?_
  clear CS
  rintro e w1 ⟨rfl, hb1⟩
  have H1 := Lib.hid (H0.out.later hb1)
  have H2 : Hid (Own.St w.heap.size w (w1.setCell ⟨w.heap.size, 0, none⟩ (.int .u8 (kd.toNat : Int))) [AVals w.heap.size 24 (frC kd.toNat fi la (.slice a1 n1 k1)).toList]) := H1.out.storeV 0 rfl 0 _
  have c0 := (H1.out.cellV 0 rfl 0 rfl).1
  have f0 := (H1.out.cellV 0 rfl 0 rfl).2
  have d3 := (H2.out.cellV 0 rfl 3 rfl).1
  have d2 := (H2.out.cellV 0 rfl 2 rfl).1
  have d1 := (H2.out.cellV 0 rfl 1 rfl).1
  have d0 := (H2.out.cellV 0 rfl 0 rfl).1
  clear hb1 H0
  by_cases hlong : (125 : Int) < (n1 : Int)
  · go_wp2
    go_ret
    exact ⟨rfl, H2.out.below⟩
  have hn1 : n1 ≤ 125 := by omega
  have HPL2 := Lib.hid (HPL.out hn1)
  have HC2 := Lib.hid (HC.out hn1)
  have D1 := Lib.hid (C1.out _ H2.out.below hn1)
  clear C1 HPL HC
  go_wp2_with (fail)
  clear c0 f0 d0 d1 d2 d3
  refine D1.out.mono ?_
  clear D1
  rintro e w2 ⟨a2, k2, rfl, hg2, hb2⟩
  have H3 := Lib.hid (H2.out.later hb2)
  have G3 := Lib.hid hg2
  have BE := Lib.hid (ab_empty H3.out)
  have hCT := cutTo (ao := a2) (l := P) (m := 128) (cap := k2) kk G3.out.size hkb G3.out.room.1 G3.out.room.2 G3.out.nil
  have CT := Lib.hid hCT.1
  have VT := Lib.hid (hCT.2.view _ _ (G3.out.later (ab_empty (Own.St.start w2)).below).view)
  have LT := Lib.hid hCT.2.len
  have NT : Hid (a2 = none → kk = 0 ∧ k2 = 0) := fun h => by have h1 := G3.out.nil h; have h2 := G3.out.room.1; omega
  clear hg2 hb2 hCT H1 H2
  go_wp2_with (first
    | (show wpList _ _ _ ({ dst := some 37, op := _, type := _, pos := _, after := _, guard := _ } :: _) _ _; rw [hrem2])
    | (refine Byt.wpList_val rfl (CT.out _ (.tmp 38) (.tmp 39) rfl _ _ rfl rfl) ?_)
    | (at_builtin; refine Byt.wpList_ab_append rfl (.tmp 37) (.tmp 40) rfl BE.out 0 rfl rfl a2 kk k2 (P.take kk) rfl NT.out LT.out (vcells VT.out) (by omega) ?_; intro a4 c4 w4 h4; simp only [Nat.zero_add, List.nil_append, List.set_cons_zero] at h4 ⊢; have H4 := Lib.hid h4; have D4 := Lib.hid (CE.out H4.out); clear h4))
  clear BE NT LT VT CT CE hrem2 hrem
  refine D4.out.mono ?_
  clear D4
  rintro e w5 ⟨g, rfl, h5⟩
  have H5 := Lib.hid h5
  obtain ⟨ar, cr, hcf1, hcf2⟩ := cutFrom (ao := some ⟨g, 0, none⟩) (l := bp) (m := 128) (cap := 128) kk hbl hkb (by omega) (by unfold maxLen; omega) (fun h => by cases h)
  have CF := Lib.hid hcf1
  have VF := Lib.hid (hcf2.view _ _ (given_own H5.out 0 rfl).view)
  have LF := Lib.hid hcf2.len
  have NF : Hid (ar = none → 128 - kk = 0 ∧ cr = 0) := fun h => by have h1 := hcf2.none h; have h2 := hcf2.cap; omega
  clear h5 hcf1 hcf2 H4 H3
  go_wp2_with (first
    | (refine Byt.wpList_val rfl (CF.out _ (.tmp 42) (.tmp 43) rfl _ _ rfl rfl) ?_)
    | (at_builtin; refine Byt.wpList_ab_append rfl (.tmp 41) (.tmp 44) rfl H5.out 1 rfl rfl ar (128 - kk) cr (bp.drop kk) rfl NF.out LF.out (vcells VF.out) (by omega) ?_; intro a6 c6 w6 h6; simp only [List.set_cons_zero, List.set_cons_succ] at h6 ⊢; have H6 := Lib.hid h6; have D6 := Lib.hid (C2.out w6 a6 c6 h6.below (by have h := given_own h6 1 rfl; rwa [show kk + (128 - kk) = 128 by omega] at h)); clear h6))
  clear CF VF LF NF H5 C2 HPL2
  refine D6.out.mono ?_
  clear D6
  rintro e w7 ⟨a7, k7, rfl, hg7, hb7⟩
  have H7 := Lib.hid ((H6.out.later hb7).boxV 24 (frC zf.kind.toNat zf.first zf.last (.slice a7 zf.data.length k7)).toList)
  have G7 := Lib.hid (hg7.later ((Own.St.start w7).alloc (.cells (frC zf.kind.toNat zf.first zf.last (.slice a7 zf.data.length k7)) 24)).below)
  obtain ⟨b9, hb9⟩ : ∃ b, b = w7.heap.size := ⟨_, rfl⟩
  rw [← hb9] at H7
  obtain ⟨W7, hW7⟩ : ∃ W, W = w7.alloc (.cells (frC zf.kind.toNat zf.first zf.last (.slice a7 zf.data.length k7)) 24) := ⟨_, rfl⟩
  have H8 : Hid (Own.St w.heap.size w W7 [AVals b9 24 (frC zf.kind.toNat zf.first zf.last (.slice a7 zf.data.length k7)).toList, AB (some ⟨g, 0, none⟩) 128 128 bp, AB a6 (kk + (128 - kk)) c6 (P.take kk ++ bp.drop kk), AVals w.heap.size 24 (frC kd.toNat fi la (.slice a1 n1 k1)).toList]) := by rw [hW7]; exact H7.out
  have G8 : Hid (Given W7 a7 zf.data.length k7 zf.data) := by show Given W7 _ _ _ _; rw [hW7]; exact G7.out
  have HW7 : Hid (w7.alloc (.cells #[.int .u8 (zf.kind.toNat : Int), .bool zf.first, .bool zf.last, .slice a7 zf.data.length k7] 24) = W7) := hW7.symm
  have HB9 : Hid (w7.heap.size = b9) := hb9.symm
  have e3 := (H8.out.cellV 0 rfl 3 rfl).1
  have e2 := (H8.out.cellV 0 rfl 2 rfl).1
  have e1 := (H8.out.cellV 0 rfl 1 rfl).1
  have e0 := (H8.out.cellV 0 rfl 0 rfl).1
  have d3 := (H8.out.cellV 3 rfl 3 rfl).1
  have d2 := (H8.out.cellV 3 rfl 2 rfl).1
  have d1 := (H8.out.cellV 3 rfl 1 rfl).1
  have d0 := (H8.out.cellV 3 rfl 0 rfl).1
  have GF := Lib.hid (HF.out.later H8.out.below)
  have BZ := Lib.hid H8.out.below
  clear hg7 hb7 H6 H7 H8 G7 hb9 hW7 HF
  rcases HC2.out with ⟨rfl, rfl, rfl⟩ | ⟨hk, rfl, rfl⟩
  · have CQ := Lib.hid (same_any ⟨kd, fi, la, fd⟩ ⟨kd, fi, la, fd⟩ a1 a7 n1 k1 fd.length k7 W7 GF.out G8.out)
    rw [sameB_self] at CQ
    clear GF G8 HC2
    simp only at e0 e1 e2 e3 HW7
    go_wp2_with (first | (rw [HW7.out, HB9.out]) | fail)
    refine CQ.out.mono ?_
    clear CQ HW7 HB9 e0 e1 e2 e3 d0 d1 d2 d3
    rintro e w8 ⟨rfl, hb8⟩
    have B8 := Lib.hid (BZ.out.trans (hb8.mono BZ.out.size))
    clear hb8
    go_wp2
    go_ret
    exact ⟨rfl, B8.out⟩
  · have CQ := Lib.hid (same_any zeroF zeroF a7 none 0 k7 0 0 W7 G8.out (given_zero W7))
    rw [sameB_self] at CQ
    have hkn : ¬ (kk : Int) = 128 := by omega
    have hkf : ((kk : Int) == 128) = false := by simpa using hkn
    clear GF G8 HC2
    go_wp2_with (first | (rw [HW7.out, HB9.out]) | fail)
    refine CQ.out.mono ?_
    clear CQ HW7 HB9 e0 e1 e2 e3 d0 d1 d2 d3
    rintro e w8 ⟨rfl, hb8⟩
    have B8 := Lib.hid (BZ.out.trans (hb8.mono BZ.out.size))
    clear hb8
    go_wp2
    go_ret
    exact ⟨rfl, B8.out⟩
end Pag
end Go.Proofs.Ytphdpjfkpidofaa
