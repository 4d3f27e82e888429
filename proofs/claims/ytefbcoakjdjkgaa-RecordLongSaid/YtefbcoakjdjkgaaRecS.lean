/- Layer 10: the examples at the head of all statements. -/
import Derived.Test.YtefbcoakjdjkgaaRecQ
import Derived.Lib.SlBytesConst
namespace Go.Proofs.Ytefbcoakjdjkgaa
open Go.RowKit Go.Own
namespace Rec
open Go.RecM Byt
def exA : Nte := ⟨3, 0, 5, zsum, 0, []⟩
def exB : Nte := ⟨1, 0, 0, zsum, 0, List.replicate 300 0⟩
theorem exA_fits : Fits exA := ⟨by decide, by decide, rfl, by decide⟩
theorem exB_fits : Fits exB := ⟨by decide, by decide, rfl, by decide⟩
theorem exA_lay : lay exA = ([3, 5, 0, 0, 0, 0, 0, 0, 0], 0) := by decide +kernel
theorem exA_pages : pagesN exA = 1 := by decide +kernel
theorem exB_pages : pagesN exB = 3 := by decide +kernel
theorem built_exA : Try.prog.built 30 [(0, .int .u8 3), (2, .int .u64 5)] = some (ntC exA nilV).toArray := by kernel_rfl
theorem built_exB (a : Option Addr) (n c : Nat) : Try.prog.built 30 [(0, .int .u8 1), (4, .slice a n c)] = some (ntC exB (.slice a n c)).toArray := by kernel_rfl
theorem eql_strC {o : Oper} {x : Tmp} {s : ByteArray} (ho : o.op = .binOp .eql 9 (.tmp x) (.const (.string s)) 9) (a : List UInt8) (hs : strB a = s) (ρ : Operand → Value) (w : World) (h0 : ρ (.tmp x) = strV a) (h1 : ρ (.const (.string s)) = .string s) :
    (execOp ρ o).run Try.prog w = .ok (.value (.bool true)) w := by
  subst hs
  simp only [execOp, ho, h0, h1]
  simp [go_sem]
set_option maxRecDepth 10000 in
set_option maxHeartbeats 4000000 in
theorem shown_any {W w : World} (K : Kept W) (hW : Below W.heap.size W w) : Calls Try.prog 9 #[] w (RetYes w) := by
  have HW := Lib.hid (fun wx (hwx : Below w.heap.size w wx) => hW.trans (hwx.mono hW.size))
  have gnil : ∀ wx : World, Given wx none 0 0 exA.data := fun wx => ⟨.inl rfl, rfl, ⟨Nat.le_refl _, by unfold maxLen; decide⟩, fun _ => rfl⟩
  obtain ⟨ca, hca⟩ : ∃ cs, cs = ntC exA nilV := ⟨_, rfl⟩
  have BA : Hid (Try.prog.built 30 [(0, .int .u8 3), (2, .int .u64 5)] = some ca.toArray) := by rw [hca]; exact built_exA
  have CL : Hid (∀ wx, Below w.heap.size w wx → Calls Try.prog 10 #[.agg ca.toArray] wx fun e w' => ∃ ao cap, e = .returned (.tuple #[.slice ao 9 cap, errN 0]) ∧ Given w' ao 9 cap [3, 5, 0, 0, 0, 0, 0, 0, 0] ∧ Below wx.heap.size wx w') := by
    intro wx hwx
    rw [hca]
    have h := K.lay exA none 0 0 exA_fits (HW.out wx hwx) (gnil wx) (by decide)
    rw [exA_lay] at h
    exact h
  have CP : Hid (∀ wx, Below w.heap.size w wx → Calls Try.prog 14 #[.agg ca.toArray] wx fun e w' => e = .returned (.int .i64 1) ∧ Below wx.heap.size wx w') := by
    intro wx hwx
    rw [hca]
    have h := K.pages exA none 0 0 exA_fits (HW.out wx hwx) (gnil wx) (by decide)
    rw [exA_pages] at h
    exact h
  have CB : Hid (∀ wx (g : Nat), Below w.heap.size w wx → Given wx (some ⟨g, 0, none⟩) 300 300 (List.replicate 300 0) → Calls Try.prog 14 #[.agg (ntC exB (.slice (some ⟨g, 0, none⟩) 300 300)).toArray] wx fun e w' => e = .returned (.int .i64 3) ∧ Below wx.heap.size wx w') := by
    intro wx g hwx hg
    have h := K.pages exB (some ⟨g, 0, none⟩) 300 300 exB_fits (HW.out wx hwx) hg (by decide)
    rw [exB_pages] at h
    exact h
  have C1 := Lib.hid (CL.out w (Below.refl _ w))
  clear hca gnil hW K CL HW
  go_enter Try.func9, Try.ntmps9
  go_wp2_with (refine Own.wpList_built rfl 30 #[(0, .const (.int .u8 3)), (2, .const (.int .u64 5))] rfl ca.toArray ?_ ?_; · (simp only [List.map_toArray, List.map_cons, List.map_nil, List.toList_toArray]; exact BA.out))
  refine C1.out.mono ?_
  clear C1
  rintro e w1 ⟨a1, c1, rfl, hg1, hb1⟩
  have G1 := Lib.hid hg1
  have HB1 := Lib.hid hb1
  have C2 := Lib.hid (CP.out w1 hb1)
  clear hg1 hb1 CP
  go_wp2_with (first
    | (refine Byt.wpList_str8 rfl (.tmp 11) rfl a1 9 c1 rfl _ _ G1.out.view G1.out.size ?_)
    | (refine Byt.wpList_val rfl (eql_strC rfl _ rfl _ _ rfl rfl) ?_)
    | (refine wpList_val rfl (build_e (t := 30) (parts := #[(0, .const (.int .u8 3)), (2, .const (.int .u64 5))]) rfl ca.toArray _ _ (by simp only [List.map_toArray, List.map_cons, List.map_nil, List.toList_toArray]; exact BA.out)) ?_))
  refine C2.out.mono ?_
  clear C2
  rintro e w2 ⟨rfl, hb2⟩
  have H2 := Lib.hid (((Own.St.start w).later HB1.out).later hb2)
  clear hb2
  obtain ⟨w5, hmk, h5⟩ := ab_make H2.out .i64 .i64 300 (by decide)
  obtain ⟨g5, hg5⟩ : ∃ g, g = w2.heap.size := ⟨_, rfl⟩
  rw [← hg5] at hmk h5
  have hmk2 : (Instr.makeSlice 28 (.int .i64 300) (.int .i64 300)).run Try.prog w2 = .ok (.slice (some ⟨g5, 0, none⟩) 300 300) w5 := hmk
  obtain ⟨cb, hcb⟩ : ∃ cs, cs = ntC exB (.slice (some ⟨g5, 0, none⟩) 300 300) := ⟨_, rfl⟩
  have BB : Hid (Try.prog.built 30 [(0, .int .u8 1), (4, .slice (some ⟨g5, 0, none⟩) 300 300)] = some cb.toArray) := by rw [hcb]; exact built_exB _ _ _
  have C5 := CB.out w5 g5 h5.below (given_own h5 0 rfl)
  rw [← hcb] at C5
  have C5' := Lib.hid C5
  have H5 := Lib.hid h5.below
  clear hmk hg5 C5 h5 CB hcb H2
  go_wp2_with (refine wpList_val rfl (build_e (t := 30) (parts := #[(0, .const (.int .u8 1)), (4, .tmp 21)]) rfl cb.toArray _ _ (by simp only [List.map_toArray, List.map_cons, List.map_nil, List.toList_toArray]; exact BB.out)) ?_)
  refine C5'.out.mono ?_
  clear C5' hmk2
  rintro e w6 ⟨rfl, hb6⟩
  have H6 := Lib.hid (H5.out.trans (hb6.mono H5.out.size))
  clear hb6
  go_wp2
  go_ret
  exact ⟨rfl, H6.out⟩
end Rec
end Go.Proofs.Ytefbcoakjdjkgaa
