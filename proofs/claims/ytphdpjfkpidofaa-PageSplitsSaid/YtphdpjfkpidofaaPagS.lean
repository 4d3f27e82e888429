/- Layer 9: the examples at the head of all statements. -/
import Derived.Test.YtphdpjfkpidofaaPagQ
import Derived.Lib.SlBytesConst
namespace Go.Proofs.Ytphdpjfkpidofaa
open Go.RowKit Go.Own
namespace Pag
open Go.PagM Byt
def exF : Frm := ⟨2, true, true, [97, 98]⟩
theorem ex_lay : lay exF = (laid exF, 0) := rfl
theorem ex_take : PagM.take blankP = (zeroF, 90) := by
  have h : isPage blankP = false := by decide +kernel
  unfold PagM.take
  rw [h]
  rfl
theorem ex_split : (split 2 (List.replicate 126 0)).1.length = 2 ∧ (split 2 (List.replicate 126 0)).2 = 0 := by decide +kernel
theorem ex_head : (laid exF).take 5 = [194, 2, 97, 98, 0] := rfl
theorem ex_last : (laid exF).getD 127 0 = 90 := rfl
theorem eql_strC {o : Oper} {x : Tmp} {s : ByteArray} (ho : o.op = .binOp .eql 9 (.tmp x) (.const (.string s)) 9) (a : List UInt8) (hs : strB a = s) (ρ : Operand → Value) (w : World) (h0 : ρ (.tmp x) = strV a) (h1 : ρ (.const (.string s)) = .string s) :
    (execOp ρ o).run Try.prog w = .ok (.value (.bool true)) w := by
  subst hs
  simp only [execOp, ho, h0, h1]
  simp [go_sem]
set_option maxRecDepth 10000 in
set_option maxHeartbeats 4000000 in
theorem shown_any {W w : World} (K : Kept W) (hW : Below W.heap.size W w) : Calls Try.prog 11 #[] w (RetYes w) := by
  have HW := Lib.hid (fun wx (hwx : Below w.heap.size w wx) => hW.trans (hwx.mono hW.size))
  obtain ⟨P, hP⟩ : ∃ P, P = laid exF := ⟨_, rfl⟩
  have hPl : P.length = 128 := by rw [hP]; rfl
  have HPL := Lib.hid hPl
  have HPH : Hid (P.take 5 = [194, 2, 97, 98, 0]) := by rw [hP]; exact ex_head
  have HPE : Hid (P.getD 127 0 = 90) := by rw [hP]; exact ex_last
  have CLAY : Hid (∀ wx (g c : Nat), Below w.heap.size w wx → Given wx (some ⟨g, 0, none⟩) 2 c [97, 98] → Calls Try.prog 12 #[.agg #[.int .u8 2, .bool true, .bool true, .slice (some ⟨g, 0, none⟩) 2 c]] wx fun e w' => ∃ ao cap, e = .returned (.tuple #[.slice ao 128 cap, errP 0]) ∧ Given w' ao 128 cap P ∧ Below wx.heap.size wx w') := by
    intro wx g c hwx hg
    have h := K.lay exF (some ⟨g, 0, none⟩) 2 c (HW.out wx hwx) hg (by decide)
    rw [ex_lay, ← hP] at h
    unfold LayDone at h
    simp only [hPl] at h
    exact h
  have CTAKE : Hid (∀ wx (g : Nat), Below w.heap.size w wx → Given wx (some ⟨g, 0, none⟩) 128 128 blankP → Calls Try.prog 14 #[.slice (some ⟨g, 0, none⟩) 128 128] wx fun e w' => ∃ ao cap, e = .returned (.tuple #[.agg #[.int .u8 0, .bool false, .bool false, .slice ao 0 cap], errP 90]) ∧ Below wx.heap.size wx w') := by
    intro wx g hwx hg
    have h := K.take (some ⟨g, 0, none⟩) 128 128 blankP (HW.out wx hwx) hg (by decide)
    rw [ex_take] at h
    refine h.mono ?_
    rintro e w' ⟨ao, cap, he, _, _, hb⟩
    exact ⟨ao, cap, he, hb⟩
  have CSPL : Hid (∀ wx (g : Nat), Below w.heap.size w wx → Given wx (some ⟨g, 0, none⟩) 126 126 (List.replicate 126 0) → Calls Try.prog 17 #[.int .u8 2, .slice (some ⟨g, 0, none⟩) 126 126] wx fun e w' => ∃ ao cap, e = .returned (.tuple #[.slice ao 2 cap, errP 0]) ∧ Below wx.heap.size wx w') := by
    intro wx g hwx hg
    have h := K.split 2 (some ⟨g, 0, none⟩) 126 126 (List.replicate 126 0) (HW.out wx hwx) hg (by decide)
    refine h.mono ?_
    rintro e w' ⟨ao, cap, he, _, hb⟩
    rw [ex_split.1, ex_split.2] at he
    exact ⟨ao, cap, he, hb⟩
  have hcv := Lib.run_convert_bytes_const (P := Try.prog) w 22 5 #[.int .u8 97, .int .u8 98] 2 2 Try.underlying22 Try.underlying5
  have hgn := given_new w [97, 98] 2 rfl (by decide) 5 (2, 3)
  have hbel := ((Own.St.start w).alloc (.cells #[.int .u8 97, .int .u8 98] 5 (2, 3)))
  have HBEL := Lib.hid hbel
  have C1 := Lib.hid (CLAY.out (w.alloc (.cells #[.int .u8 97, .int .u8 98] 5 (2, 3))) w.heap.size 2 hbel.below hgn)
  clear hP hPl CLAY hgn hbel
  go_enter Try.func11, Try.ntmps11
  go_wp2_with (fail)
  refine C1.out.mono ?_
  clear C1
  rintro e w1 ⟨a1, c1, rfl, hg1, hb1⟩
  have G1 := Lib.hid hg1
  have HB1 := Lib.hid (HBEL.out.below.trans (hb1.mono HBEL.out.size))
  have LAT : Hid (∀ wx, Below w1.heap.size w1 wx → Below w.heap.size w wx) := fun wx h => HB1.out.trans (h.mono HB1.out.size)
  have CE := Lib.hid (erased_any (Own.St.start w1))
  clear hg1 hb1 HBEL hcv
  go_wp2_with (fail)
  refine CE.out.mono ?_
  clear CE
  rintro e w2 ⟨g2, rfl, h2⟩
  have C2 := Lib.hid (CTAKE.out w2 g2 (LAT.out _ h2.below) (given_own h2 0 rfl))
  have H2 := Lib.hid (h2.drop 1)
  clear h2
  go_wp2_with (fail)
  refine C2.out.mono ?_
  clear C2 CTAKE
  rintro e w3 ⟨a3, c3, rfl, hb3⟩
  have H3 := Lib.hid (H2.out.later hb3)
  clear hb3 H2
  have h4 := H3.out.alloc (.cells #[.int .u8 0, .bool false, .bool false, .slice a3 0 c3] 24)
  obtain ⟨w5, hmk, h5⟩ := ab_make h4 .i64 .i64 126 (by decide)
  have H5 := Lib.hid h5
  have hmk2 : (Instr.makeSlice 22 (.int .i64 126) (.int .i64 126)).run Try.prog (w3.alloc (.cells #[.int .u8 0, .bool false, .bool false, .slice a3 0 c3] 24)) = .ok (.slice (some ⟨(w3.alloc (.cells #[.int .u8 0, .bool false, .bool false, .slice a3 0 c3] 24)).heap.size, 0, none⟩) 126 126) w5 := hmk
  obtain ⟨g5, hg5⟩ : ∃ g, g = (w3.alloc (.cells #[.int .u8 0, .bool false, .bool false, .slice a3 0 c3] 24)).heap.size := ⟨_, rfl⟩
  rw [← hg5] at hmk2
  have C5 := CSPL.out w5 (w3.alloc (.cells #[.int .u8 0, .bool false, .bool false, .slice a3 0 c3] 24)).heap.size (LAT.out _ h5.below) (given_own h5 0 rfl)
  rw [← hg5] at C5
  have C5' := Lib.hid C5
  clear h4 h5 hmk hg5 C5 CSPL H3
  go_wp2_with (fail)
  refine C5'.out.mono ?_
  clear C5' hmk2
  rintro e w6 ⟨a6, c6, rfl, hb6⟩
  have H6 := Lib.hid (H5.out.later hb6)
  have G6 := Lib.hid (G1.out.later H6.out.below)
  clear hb6 H5 G1
  obtain ⟨b, o, hbo, _, _, c127⟩ := vat G6.out.view (k := 127) (by rw [HPL.out]; decide)
  subst hbo
  rw [HPE.out] at c127
  have hroom := G6.out.room
  unfold maxLen at hroom
  have CT := Lib.hid (cutTo (ao := some ⟨b, o, none⟩) (l := P) (m := 128) (cap := c1) 5 HPL.out (by decide) hroom.1 G6.out.room.2 (by intro h; cases h)).1
  have G7 := Lib.hid (given_take G6.out 5 (by decide))
  go_wp2_with (first
    | (refine Byt.wpList_val rfl (CT.out _ (.tmp 32) (.const (.int .i64 5)) rfl _ _ rfl rfl) ?_)
    | (refine Byt.wpList_str8 rfl (.tmp 33) rfl (some ⟨b, o, none⟩) 5 c1 rfl _ _ G7.out.view G7.out.size ?_)
    | (refine Byt.wpList_val rfl (eql_strC rfl (P.take 5) (by rw [HPH.out]; rfl) _ _ rfl rfl) ?_))
  go_ret
  exact ⟨rfl, LAT.out _ H6.out.below⟩
end Pag
end Go.Proofs.Ytphdpjfkpidofaa
