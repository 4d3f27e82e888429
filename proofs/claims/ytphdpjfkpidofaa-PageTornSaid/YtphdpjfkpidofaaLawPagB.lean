/- Layer 9: PageTakes. -/
import Derived.Test.YtphdpjfkpidofaaLawPagA
namespace Go.Proofs.Ytphdpjfkpidofaa
open Go.RowKit Go.Own
namespace Pag
open Go.PagM Byt
theorem xor85 (c : UInt8) : bits .xor .u8 (c.toNat : Int) 85 = (((c ^^^ 85 : UInt8)).toNat : Int) := by
  have h := u8_xor_nat c.toNat 85 c.toNat_lt (by decide)
  rw [UInt8.toNat_xor]
  exact h
set_option maxRecDepth 10000 in
set_option maxHeartbeats 8000000 in
theorem walk_takes (ao : Option Addr) (n cap : Nat) (p : PagM.Bs) {w : World} (hg : Given w ao n cap p) (K : Kept w) :
    Calls Try.prog 4 #[.slice ao n cap] w (RetYes w) := by
  obtain ⟨Y, hY⟩ : ∃ Y, Y = PagM.take p := ⟨_, rfl⟩
  have C1 : Hid (∀ wx a c, Below w.heap.size w wx → n ≤ 10000 → Given wx a n c p → Calls Try.prog 14 #[.slice a n c] wx (TakeNew Y wx)) := by
    intro wx a c hwx hn h
    rw [hY]
    exact K.take a n c p hwx h (by omega)
  have C2 : Hid (∀ wx, Below w.heap.size w wx → n ≤ 10000 → Calls Try.prog 15 #[.slice ao n cap] wx (TakeSub ao p Y wx)) := by
    intro wx hwx hn
    rw [hY]
    exact refTake_sub ao n cap p wx (hg.later hwx) (by omega)
  have CS := Lib.hid (shown_any K (Below.refl _ w))
  have HG := Lib.hid hg
  have HN := Lib.hid hg.size
  have HNO := Lib.hid (given_nil hg)
  clear hY hg K
  go_enter Try.func4, Try.ntmps4
  go_wp2_with (fail)
  refine CS.out.mono ?_
  clear CS
  rintro e w1 ⟨rfl, hb1⟩
  have B1 := Lib.hid hb1
  have H1 := Lib.hid ((Own.St.start w).later hb1)
  clear hb1
  by_cases hlong : (10000 : Int) < (n : Int)
  · go_wp2
    go_ret
    exact ⟨rfl, B1.out⟩
  have hn : n ≤ 10000 := by omega
  have HE := Lib.hid (ab_empty H1.out)
  have HC := Lib.hid (vcells (HG.out.later HE.out.below).view)
  clear B1
  go_wp2_with (at_builtin; refine Byt.wpList_ab_append rfl (.tmp 15) (.tmp 16) rfl HE.out 0 rfl rfl ao n cap p rfl HNO.out HN.out HC.out (by omega) ?_; intro a4 c4 w4 h4; simp only [List.set_cons_zero, Nat.zero_add, List.nil_append] at h4 ⊢; have H4 := Lib.hid h4; have D1 := Lib.hid (C1.out w4 a4 c4 h4.below hn (given_own h4 0 rfl)); clear h4)
  refine D1.out.mono ?_
  clear D1 C1 HE HC
  rintro e w5 ⟨a5, c5, rfl, hg5, hv5, hb5⟩
  have H5 := Lib.hid ((H4.out.adoptView hb5 hv5).boxV 24 (frC Y.1.kind.toNat Y.1.first Y.1.last (.slice a5 Y.1.data.length c5)).toList)
  have G5 : Hid (Y.1.data.length ≤ c5 ∧ c5 ≤ maxLen ∧ (a5 = none → c5 = 0)) := ⟨hg5.room.1, hg5.room.2, hg5.nil⟩
  obtain ⟨b5, hb5'⟩ : ∃ b, b = w5.heap.size := ⟨_, rfl⟩
  rw [← hb5'] at H5
  obtain ⟨W5, hW5⟩ : ∃ W, W = w5.alloc (.cells (frC Y.1.kind.toNat Y.1.first Y.1.last (.slice a5 Y.1.data.length c5)) 24) := ⟨_, rfl⟩
  have H5' : Hid (Own.St w.heap.size w W5 [AVals b5 24 (frC Y.1.kind.toNat Y.1.first Y.1.last (.slice a5 Y.1.data.length c5)).toList, AView a5 Y.1.data, AB a4 n c4 p]) := by rw [hW5]; exact H5.out
  have HW5 : Hid (w5.alloc (.cells #[.int .u8 (Y.1.kind.toNat : Int), .bool Y.1.first, .bool Y.1.last, .slice a5 Y.1.data.length c5] 24) = W5) := hW5.symm
  have HB5 : Hid (w5.heap.size = b5) := hb5'.symm
  have D2 := Lib.hid (C2.out W5 H5'.out.below hn)
  have V5 : Hid (View W5 (fun k => k < w.heap.size) ao p) := View.below HG.out.view H5'.out.below
  clear hg5 hv5 hb5 H4 C2 H5 hb5' hW5
  go_wp2_with (fail)
  rw [HW5.out, HB5.out]
  clear HW5 HB5
  refine D2.out.mono ?_
  clear D2
  rintro e w7 ⟨a7, c7, rfl, hg7, hv7, hb7⟩
  have V7 := Lib.hid (View.below (hv7 _ V5.out) (Below.refl w.heap.size w7))
  have G7 : Hid (Y.1.data.length ≤ c7 ∧ c7 ≤ maxLen ∧ (a7 = none → c7 = 0)) := ⟨hg7.room.1, hg7.room.2, hg7.nil⟩
  have H7 := Lib.hid ((H5'.out.later hb7).boxV 24 (frC Y.1.kind.toNat Y.1.first Y.1.last (.slice a7 Y.1.data.length c7)).toList)
  have V8 := Lib.hid (View.below V7.out (((Own.St.start w7).alloc (.cells (frC Y.1.kind.toNat Y.1.first Y.1.last (.slice a7 Y.1.data.length c7)) 24)).below.mono (H5'.out.later hb7).below.size))
  obtain ⟨b7, hb7'⟩ : ∃ b, b = w7.heap.size := ⟨_, rfl⟩
  rw [← hb7'] at H7
  obtain ⟨W7, hW7⟩ : ∃ W, W = w7.alloc (.cells (frC Y.1.kind.toNat Y.1.first Y.1.last (.slice a7 Y.1.data.length c7)) 24) := ⟨_, rfl⟩
  have H8 : Hid (Own.St w.heap.size w W7 [AVals b7 24 (frC Y.1.kind.toNat Y.1.first Y.1.last (.slice a7 Y.1.data.length c7)).toList, AVals b5 24 (frC Y.1.kind.toNat Y.1.first Y.1.last (.slice a5 Y.1.data.length c5)).toList, AView a5 Y.1.data, AB a4 n c4 p]) := by rw [hW7]; exact H7.out
  have VN : Hid (View W7 (fun k => k < w.heap.size) a7 Y.1.data) := by show View W7 _ _ _; rw [hW7]; exact V8.out
  have HW7 : Hid (w7.alloc (.cells #[.int .u8 (Y.1.kind.toNat : Int), .bool Y.1.first, .bool Y.1.last, .slice a7 Y.1.data.length c7] 24) = W7) := hW7.symm
  have HB7 : Hid (w7.heap.size = b7) := hb7'.symm
  clear hg7 hv7 hb7 H5' V5 V7 V8 H7 hb7' hW7 HG
  go_wp2_with (fail)
  rw [HW7.out, HB7.out]
  clear HW7 HB7
  go_loopw [30] (fun v wr => ∃ (i : Nat) (q : List UInt8), i ≤ n ∧ v = .int .i64 (i : Int) ∧ Own.St w.heap.size w wr [AVals b7 24 (frC Y.1.kind.toNat Y.1.first Y.1.last (.slice a7 Y.1.data.length c7)).toList, AVals b5 24 (frC Y.1.kind.toNat Y.1.first Y.1.last (.slice a5 Y.1.data.length c5)).toList, AView a5 Y.1.data, AB a4 n c4 q]) (fun v _ => n - (intOf v).toNat)
  case atStart => exact ⟨0, p, Nat.zero_le _, rfl, H8.out⟩
  case round =>
    obtain ⟨i, q, hin, rfl, h⟩ := hrel
    have H := Lib.hid h
    clear h
    by_cases hi : (i : Int) < (n : Int)
    · have hin2 : i < n := by omega
      obtain ⟨g, hga, cb, fb, hput⟩ := ab_byte H.out 3 rfl i hin2
      subst hga
      obtain ⟨c0, hc0⟩ : ∃ c, c = q.getD i 0 := ⟨_, rfl⟩
      rw [← hc0] at cb
      have hxor := xor85 c0
      obtain ⟨c1, hc1⟩ : ∃ c, c = c0 ^^^ 85 := ⟨_, rfl⟩
      rw [← hc1] at hxor
      have PUT := Lib.hid (hput c1)
      clear hput hc0 hc1 H H8
      go_wp2
      go_roundw
      case rel => exact ⟨i + 1, q.set i c1, by omega, by go_num, PUT.out⟩
      case measure => simp [intOf]; omega
    · have c3 := (H.out.cellV 0 rfl 3 rfl).1
      have c2 := (H.out.cellV 0 rfl 2 rfl).1
      have c1 := (H.out.cellV 0 rfl 1 rfl).1
      have c0 := (H.out.cellV 0 rfl 0 rfl).1
      have d3 := (H.out.cellV 1 rfl 3 rfl).1
      have d2 := (H.out.cellV 1 rfl 2 rfl).1
      have d1 := (H.out.cellV 1 rfl 1 rfl).1
      have d0 := (H.out.cellV 1 rfl 0 rfl).1
      have GA : Hid (Given wr a5 Y.1.data.length c5 Y.1.data) := ⟨H.out.viewAt 2 rfl, rfl, ⟨G5.out.1, G5.out.2.1⟩, G5.out.2.2⟩
      have GB : Hid (Given wr a7 Y.1.data.length c7 Y.1.data) := ⟨(View.same VN.out (fun k hk => (H.out.below.block k hk).trans (H8.out.below.block k hk).symm)).mono (fun k hk => Nat.lt_of_lt_of_le hk H.out.below.size), rfl, ⟨G7.out.1, G7.out.2.1⟩, G7.out.2.2⟩
      have CS := Lib.hid (same_any Y.1 Y.1 a5 a7 Y.1.data.length c5 Y.1.data.length c7 wr GA.out GB.out)
      have BR := Lib.hid H.out.below
      clear GA GB H H8 VN G5 G7 H1
      go_wp2_with (fail)
      refine CS.out.mono ?_
      clear CS
      rintro e wz ⟨rfl, hz⟩
      have BZ := Lib.hid (BR.out.trans (hz.mono BR.out.size))
      rw [sameB_self]
      clear hz BR
      go_wp2
      go_ret
      exact ⟨rfl, BZ.out⟩
end Pag
end Go.Proofs.Ytphdpjfkpidofaa
