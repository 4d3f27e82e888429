/- The landed record: Right. -/
import Derived.Test.YtefbcoakjdjkgaaRedA
namespace Go.Proofs.Ytefbcoakjdjkgaa
open Go.RowKit Go.Own
namespace Rec
open Go.RecM Byt
/-- the fields that a note has, and a kind has not -/
def overN (n : Nte) : Nat := usedN n &&& (255 - fieldsN n.kind.toNat)
theorem usedB_none : ∀ a s z l : Bool,
    (decide (usedB a s z l &&& (255 - 15) = 0) = true) ∧
    (decide (usedB a s z l &&& (255 - 3) = 0) = (!z && !l)) ∧
    (decide (usedB a s z l &&& (255 - 2) = 0) = (!a && !z && !l)) ∧
    (decide (usedB a s z l &&& (255 - 12) = 0) = (!a && !s)) := by decide
theorem right_by (n : Nte) : right n = (decide (fieldsN n.kind.toNat ≠ 0) && decide (overN n = 0) && decide (n.data.length ≤ 300) && (decide (n.kind.toNat ≠ 4) || decide (0 < n.data.length))) := by
  obtain ⟨i1, i2, i3, i4⟩ := kind_is n.kind
  obtain ⟨u1, u2, u3, u4⟩ := usedB_none (decide (n.addr ≠ 0)) (decide (n.seq ≠ 0)) (!(decide (n.sum = zsum) && decide (n.kn = 0))) (decide (0 < n.data.length))
  unfold right overN fieldsN usedN
  obtain ⟨k, hk⟩ : ∃ k, k = n.kind.toNat := ⟨_, rfl⟩
  rw [← hk] at i1 i2 i3 i4 ⊢
  have hz : decide (n.data.length = 0) = !decide (0 < n.data.length) := by
    by_cases h : n.data.length = 0 <;> simp [h] <;> omega
  by_cases k1 : k = 1
  · rw [if_pos (i1.2 k1), if_pos k1, u1]
    simp [k1]
  rw [if_neg (fun h => k1 (i1.1 h)), if_neg k1]
  by_cases k2 : k = 2
  · rw [if_pos (i2.2 k2), if_pos k2, u2, hz]
    simp [k2, Bool.and_comm]
  rw [if_neg (fun h => k2 (i2.1 h)), if_neg k2]
  by_cases k3 : k = 3
  · rw [if_pos (i3.2 k3), if_pos k3, u3, hz]
    simp [k3, Bool.and_comm, Bool.and_assoc, Bool.and_left_comm]
  rw [if_neg (fun h => k3 (i3.1 h)), if_neg k3]
  by_cases k4 : k = 4
  · rw [if_pos (i4.2 k4), if_pos k4, u4]
    simp [k4, Bool.and_comm, Bool.and_assoc, Bool.and_left_comm]
  rw [if_neg (fun h => k4 (i4.1 h)), if_neg k4]
  simp
set_option maxHeartbeats 3200000 in
theorem lRight_any (n : Nte) (hs : n.sum.length = 32) (ao : Option Addr) (len cap : Nat) (hl : n.data.length = len) (hb : len ≤ 1000000) (w : World) :
    Calls Try.prog 12 #[.agg (ntC n (.slice ao len cap)).toArray] w fun e w' => e = .returned (.bool (right n)) ∧ Below w.heap.size w w' := by
  obtain ⟨cs, hcs⟩ : ∃ cs, cs = ntC n (.slice ao len cap) := ⟨_, rfl⟩
  have hbox := (Own.St.start w).boxV 30 cs
  obtain ⟨w1, hw1⟩ : ∃ w1, w1 = w.alloc (.cells cs.toArray 30) := ⟨_, rfl⟩
  rw [← hw1] at hbox
  have CU : Hid (∀ wx, Below w1.heap.size w1 wx → Calls Try.prog 26 #[.agg cs.toArray] wx fun e w' => e = .returned (.int .u8 (usedN n : Int)) ∧ Below wx.heap.size wx w') := by
    rw [hcs]
    exact fun wx _ => used_any n hs ao len cap hl hb wx
  have NL : Hid (cs.length = 37) := by show cs.length = 37; rw [hcs]; exact ntC_len n _ hs
  have RN : Hid (w1.rangeAt w.heap.size 0 cs) := fun j v hv => by rw [Nat.zero_add]; exact (hbox.cellV 0 rfl j hv).1
  have cc : ∀ wx, Below w1.heap.size w1 wx → ∀ j v, cs[j]? = some v → wx.cell? ⟨w.heap.size, j, none⟩ = some v := fun wx hwx j v h => ((hbox.later hwx).cellV 0 rfl j h).1
  have C0 : Hid (∀ wx, Below w1.heap.size w1 wx → wx.cell? ⟨w.heap.size, 0, none⟩ = some (.int .u8 (n.kind.toNat : Int))) := fun wx hwx => cc wx hwx 0 _ (by rw [hcs]; rfl)
  have C36 : Hid (∀ wx, Below w1.heap.size w1 wx → wx.cell? ⟨w.heap.size, 36, none⟩ = some (.slice ao len cap)) := fun wx hwx => cc wx hwx 36 _ (by rw [hcs]; exact ntC_data n _ hs)
  have HB := Lib.hid hbox
  have hr := right_by n
  rw [hl] at hr
  obtain ⟨r, hrr⟩ : ∃ r, r = right n := ⟨_, rfl⟩
  rw [← hrr] at hr ⊢
  have hkl : n.kind.toNat < 256 := n.kind.toNat_lt
  obtain ⟨k, hk⟩ : ∃ k, k = n.kind.toNat := ⟨_, rfl⟩
  rw [← hk] at hr C0 hkl
  have FO : Hid (∀ w, Calls Try.prog 21 #[.int .u8 (k : Int)] w fun e w' => e = .returned (.int .u8 (fieldsN k : Int)) ∧ w = w') := fun w => fields_any k hkl w
  have fl := fieldsN_lt k
  have ul := usedN_lt n
  have AN : bits .andNot .u8 (usedN n : Int) (fieldsN k : Int) = (overN n : Int) := by rw [u8_andNot_nat _ _ (by omega) (by omega)]; unfold overN; rw [hk]
  obtain ⟨f, hf⟩ : ∃ f, f = fieldsN k := ⟨_, rfl⟩
  rw [← hf] at hr FO AN
  obtain ⟨u, hu⟩ : ∃ u, u = usedN n := ⟨_, rfl⟩
  rw [← hu] at AN CU
  obtain ⟨m, hm⟩ : ∃ m, m = overN n := ⟨_, rfl⟩
  rw [← hm] at hr AN
  have HW1 := Lib.hid hw1
  rw [← hcs]
  have c0 := C0.out w1 (Below.refl _ _)
  rw [hw1] at c0
  clear hw1 hcs hbox cc hrr hk hf hu hm fl ul hs hl
  by_cases f0 : f = 0
  · subst f0
    simp only [ne_eq, not_true_eq_false, decide_false, Bool.false_and] at hr
    subst hr
    clear AN CU
    go_enter Try.func12, Try.ntmps12
    go_wp2_with (fail)
    rw [← HW1.out]
    refine (FO.out _).mono ?_
    rintro e w2 ⟨rfl, rfl⟩
    go_wp2_with (fail)
    go_ret
    exact ⟨rfl, HB.out.below⟩
  have f0' : ((f : Int) == 0) = false := by simp; omega
  rw [decide_eq_true f0, Bool.true_and] at hr
  by_cases m0 : m = 0
  · subst m0
    rw [decide_eq_true rfl, Bool.true_and] at hr
    by_cases hl3 : (len : Int) > 300
    · rw [decide_eq_false (by omega), Bool.false_and] at hr
      subst hr
      go_enter Try.func12, Try.ntmps12
      go_wp2_with (fail)
      rw [← HW1.out]
      refine (FO.out _).mono ?_
      rintro e w2 ⟨rfl, rfl⟩
      go_wp2_with (refine wpList_val rfl (load_note cs NL.out rfl _ (b := w.heap.size) (k := 0) RN.out rfl) ?_)
      refine (CU.out _ (Below.refl _ _)).mono ?_
      rintro e w3 ⟨rfl, h3⟩
      have d36 := C36.out _ h3
      have H3 := Lib.hid (HB.out.below.trans (h3.mono HB.out.below.size))
      clear h3
      go_wp2
      go_ret
      exact ⟨rfl, H3.out⟩
    rw [decide_eq_true (by omega), Bool.true_and] at hr
    by_cases k4 : k = 4
    · subst k4
      by_cases hl0 : (len : Int) > 0
      · have hl0' : 0 < len := by omega
        simp only [ne_eq, not_true_eq_false, decide_false, Bool.false_or, hl0', decide_true] at hr
        subst hr
        go_enter Try.func12, Try.ntmps12
        go_wp2_with (fail)
        rw [← HW1.out]
        refine (FO.out _).mono ?_
        rintro e w2 ⟨rfl, rfl⟩
        go_wp2_with (refine wpList_val rfl (load_note cs NL.out rfl _ (b := w.heap.size) (k := 0) RN.out rfl) ?_)
        refine (CU.out _ (Below.refl _ _)).mono ?_
        rintro e w3 ⟨rfl, h3⟩
        have d36 := C36.out _ h3
        have d0 := C0.out _ h3
        have H3 := Lib.hid (HB.out.below.trans (h3.mono HB.out.below.size))
        clear h3
        go_wp2
        go_ret
        exact ⟨rfl, H3.out⟩
      · have hl0' : ¬ 0 < len := by omega
        simp only [ne_eq, not_true_eq_false, decide_false, Bool.false_or, hl0'] at hr
        subst hr
        go_enter Try.func12, Try.ntmps12
        go_wp2_with (fail)
        rw [← HW1.out]
        refine (FO.out _).mono ?_
        rintro e w2 ⟨rfl, rfl⟩
        go_wp2_with (refine wpList_val rfl (load_note cs NL.out rfl _ (b := w.heap.size) (k := 0) RN.out rfl) ?_)
        refine (CU.out _ (Below.refl _ _)).mono ?_
        rintro e w3 ⟨rfl, h3⟩
        have d36 := C36.out _ h3
        have d0 := C0.out _ h3
        have H3 := Lib.hid (HB.out.below.trans (h3.mono HB.out.below.size))
        clear h3
        go_wp2
        go_ret
        exact ⟨rfl, H3.out⟩
    · rw [decide_eq_true k4, Bool.true_or] at hr
      subst hr
      have k4i : ¬ (k : Int) = 4 := by omega
      have k4b : ((k : Int) != 4) = true := by simp; omega
      go_enter Try.func12, Try.ntmps12
      go_wp2_with (fail)
      rw [← HW1.out]
      refine (FO.out _).mono ?_
      rintro e w2 ⟨rfl, rfl⟩
      go_wp2_with (refine wpList_val rfl (load_note cs NL.out rfl _ (b := w.heap.size) (k := 0) RN.out rfl) ?_)
      refine (CU.out _ (Below.refl _ _)).mono ?_
      rintro e w3 ⟨rfl, h3⟩
      have d36 := C36.out _ h3
      have d0 := C0.out _ h3
      have H3 := Lib.hid (HB.out.below.trans (h3.mono HB.out.below.size))
      clear h3
      go_wp2
      go_ret
      exact ⟨rfl, H3.out⟩
  · rw [decide_eq_false m0, Bool.false_and, Bool.false_and] at hr
    subst hr
    have m0i : ¬ (m : Int) = 0 := by omega
    have m0b : ((m : Int) != 0) = true := by simp; omega
    go_enter Try.func12, Try.ntmps12
    go_wp2_with (fail)
    rw [← HW1.out]
    refine (FO.out _).mono ?_
    rintro e w2 ⟨rfl, rfl⟩
    go_wp2_with (refine wpList_val rfl (load_note cs NL.out rfl _ (b := w.heap.size) (k := 0) RN.out rfl) ?_)
    refine (CU.out _ (Below.refl _ _)).mono ?_
    rintro e w3 ⟨rfl, h3⟩
    have H3 := Lib.hid (HB.out.below.trans (h3.mono HB.out.below.size))
    clear h3
    go_wp2
    go_ret
    exact ⟨rfl, H3.out⟩
/-- a cell of a note's fingerprint -/
theorem ntC_sum_at {cs : List Value} {n : Nte} {v : Value} (hcs : cs = ntC n v) (_hs : n.sum.length = 32) (j : Nat) (hj : j < n.sum.length) : cs[3 + j]? = some (byteV (n.sum.getD j 0)) := by
  rw [hcs]
  refine ntC_sum n v j _ ?_
  rw [List.getElem?_map, List.getD_eq_getElem?_getD, List.getElem?_eq_getElem hj]
  rfl
end Rec
end Go.Proofs.Ytefbcoakjdjkgaa
