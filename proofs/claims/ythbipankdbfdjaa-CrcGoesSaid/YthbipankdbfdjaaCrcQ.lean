/- Contracts of the document's own answer for layer 2: Seal and Open. -/
import Derived.Test.YthbipankdbfdjaaCrcR
import Derived.Test.YthbipankdbfdjaaRef1
import Derived.Test.YthbipankdbfdjaaLaxB
namespace Go.Proofs.Ythbipankdbfdjaa
open Go.RowKit Go.Own
namespace Crc
open Go.CrcM Cod

theorem view_none {w : World} {D : Nat → Prop} {ao : Option Addr} {l : List UInt8} (hV : View w D ao l) (h : ao = none) : l = [] := by
  rcases hV with h' | ⟨b, o, h', _⟩
  · exact h'
  · rw [h] at h'; cases h'

theorem row_len0 {w : World} {e : TypeId} {size : Nat} {T : Nat → Prop} {ao : Option Addr} {n cap : Nat} {xs : List Value} (h : Row w e size T (.slice ao n cap) n xs) (hn : ao = none) : n = 0 := by
  obtain ⟨ao', cap', hv, _, _, h0, _⟩ := h.form
  simp only [Value.slice.injEq, true_and] at hv
  obtain ⟨rfl, rfl⟩ := hv
  exact (h0 hn).1

set_option maxHeartbeats 800000 in
theorem refSeal_any (D : Nat → Prop) (ao : Option Addr) (l : List UInt8) (cap n : Nat) (w : World) (hV0 : View w D ao l) (hcap : ao = none → cap = 0) (hl : l.length ≤ 90000000) (hn : n = l.length + 4) :
    Calls Try.prog 19 #[.slice ao l.length cap] w (SealDone l n w) := by
  obtain ⟨i0, hi, hz0, hz1, hz2⟩ := info_parts Try.infoU8
  have HV := Lib.hid hV0.live
  have HN0 := Lib.hid hn
  have HC := Lib.hid (view_cells hV0)
  have hnone : Hid (ao = none → l.length = 0 ∧ cap = 0) := fun h => ⟨by rw [view_none hV0 h]; rfl, hcap h⟩
  clear hV0 hcap hn
  obtain ⟨len, hlen⟩ : ∃ len, len = l.length := ⟨_, rfl⟩
  rw [← hlen] at hl hnone ⊢
  have HL := Lib.hid hlen
  clear hlen
  go_enter Try.func19, Try.ntmps19
  go_wp2_with (at_builtin; refine wpList_append_row rfl (.tmp 4) (.tmp 5) 23 rfl 5 i0 (.int .u8 0) 1 1 Try.underlying23 hi hz0 hz1 hz2 rfl (by decide) (.slice none 0 0) 0 [] rfl (Row.nil _ _ _) ao len cap (l.map byteV) rfl hnone.out (by rw [List.length_map, Nat.mul_one]; exact HL.out.symm) HC.out (byteV_one _) (by unfold maxLen; omega) (by omega) ?_; intro v' w1 T1 hr1 hs1; simp only [Nat.zero_add, List.nil_append] at hr1; obtain ⟨ab, cb, rfl, -⟩ := hr1.form; have HR1 := Lib.hid hr1; have HS1 := Lib.hid hs1; clear hr1 hs1)
  have hr := refMore_any _ 0 ao l cap w1 (HV.out.step HS1.out (fun k _ h => h)) (by rw [← HL.out]; omega)
  obtain ⟨x, hx⟩ : ∃ x, x = msum 0 l := ⟨_, rfl⟩
  rw [← HL.out, ← hx] at hr
  have HX := Lib.hid hx
  have hcv : (x.toNat : Int) % 18446744073709551616 = (x.toNat : Int) := by have := x.isLt; omega
  have hxlt : x.toNat < 18446744073709551616 := by have := x.isLt; omega
  clear hx
  refine hr.mono ?_
  clear hr
  rintro e w2 ⟨rfl, rfl⟩
  go_wp2_with (fail)
  refine (refNum_any x.toNat 4 _ (by omega) hxlt).mono ?_
  rintro e w3 ⟨a3, c3, T3, rfl, hr3, hs3⟩
  have HR3 := Lib.hid hr3
  have HS3 := Lib.hid hs3
  clear hr3 hs3
  go_wp2_with (at_builtin; go_loud (refine wpList_append_row rfl (.tmp 7) (.tmp 11) 23 rfl 5 i0 (.int .u8 0) 1 1 Try.underlying23 hi hz0 hz1 hz2 rfl (by decide) (.slice ab len cb) len (l.map byteV) rfl (HR1.out.step HS3.out (fun _ _ h => h)) a3 4 c3 ((le x.toNat 4).map byteV) rfl (fun h => ⟨(row_len0 HR3.out h), row_none HR3.out h⟩) (by rw [List.length_map, le_len]) (view_cells (Row.view HR3.out)) (byteV_one _) (by unfold maxLen; omega) (by omega) ?_); intro v' w4 T4 hr4 hs4; obtain ⟨ad, cd, rfl, -⟩ := hr4.form; have HR4 := Lib.hid hr4; have HS4 := Lib.hid hs4; clear hr4 hs4)
  go_ret
  have e : n = len + 4 := by have := HL.out; have := HN0.out; omega
  subst e
  refine ⟨_, rfl, ad, cd, T4, rfl, ?_, ?_⟩
  · have := HR4.out
    rw [← List.map_append, le_four, HX.out] at this
    exact this
  · exact (HS1.out.trans (Step.pre HS3.out HS4.out))

theorem refSeal_ty {W w : World} {D : Nat → Prop} {ao : Option Addr} {l : List UInt8} {len : Nat} (cap n : Nat) (hV : View W D ao l) (hlen : l.length = len) (hcap : ao = none → cap = 0) (hl : len ≤ 90000000) (hn : n = len + 4) (hb : Below W.heap.size W w) :
    Calls Try.prog 19 #[.slice ao len cap] w fun e w' => ∃ v, e = .returned v ∧ (tyB (sealed l) n).holds v w' ∧ Below w.heap.size w w' := by
  subst hlen
  refine (refSeal_any _ ao l cap n w (view_later hV hb) hcap hl hn).mono ?_
  rintro e w' ⟨v, he, a, c, T, hv, hr, hs⟩
  exact ⟨v, he, ⟨a, c, T, hv, hr⟩, below_of_step hs⟩

/-- a part of what came in, or nothing -/
def RefOpenDone (ao : Option Addr) (cap : Nat) (x : List UInt8 × Bool) (w : World) (e : Ending) (w' : World) : Prop :=
  Below w.heap.size w w' ∧ ((x = ([], false) ∧ e = .returned (.tuple #[.slice none 0 0, .bool false])) ∨ (x.2 = true ∧ e = .returned (.tuple #[.slice ao x.1.length cap, .bool true])))

set_option maxHeartbeats 400000 in
theorem refOpen_any (D : Nat → Prop) (ao : Option Addr) (l : List UInt8) (cap : Nat) (w : World) (hV : View w D ao l) (hcap : ao = none → cap = 0) (hc1 : l.length ≤ cap) (hc2 : cap ≤ maxLen) (hl : l.length ≤ 90000000) :
    Calls Try.prog 17 #[.slice ao l.length cap] w (RefOpenDone ao cap (openOf l) w) := by
  by_cases h4 : l.length < 4
  · have hres : openOf l = ([], false) := by unfold openOf; rw [if_neg (fun h => by have := h.1; omega)]
    have HO := Lib.hid hres
    clear hres
    obtain ⟨len, hlen⟩ : ∃ len, len = l.length := ⟨_, rfl⟩
    rw [← hlen] at h4 ⊢
    have HL := Lib.hid hlen
    clear hlen
    have hd : decide (((len : Int) - 4) < 0) = true := by simp; omega
    go_enter Try.func17, Try.ntmps17
    go_wp2
    go_quiet (fail)
    go_wp2
    go_ret2
    exact ⟨⟨rfl, rfl, rfl, Nat.le_refl _, fun _ _ => rfl⟩, .inl ⟨HO.out, rfl⟩⟩
  · obtain ⟨m, hm⟩ : ∃ m : Nat, m = l.length - 4 := ⟨_, rfl⟩
    obtain ⟨len, hlen⟩ : ∃ len, len = l.length := ⟨_, rfl⟩
    obtain ⟨b, o, rfl, -, hbw, -⟩ := view_at hV (k := 0) (by omega)
    rw [← hlen] at h4 hl hc1 hm ⊢
    have hmi : (len : Int) - 4 = (m : Int) := by omega
    have hm4 : m + 4 = len := by omega
    obtain ⟨d, hd⟩ : ∃ d, d = l.take m := ⟨_, rfl⟩
    have hVd : View w D (some ⟨b, o, none⟩) d := by rw [hd]; exact View.take hV m
    have hdl : d.length = m := by rw [hd, List.length_take]; omega
    have HL := Lib.hid hlen
    have HV := Lib.hid hV
    have HVD := Lib.hid hVd
    have HDL := Lib.hid hdl
    have hopen : openOf l = if sealed d = l then (d, true) else ([], false) := by
      unfold openOf
      rw [show l.length - 4 = m by omega, ← hd]
      have e : l = d ++ l.drop m := by rw [hd, List.take_append_drop]
      by_cases h : l.drop m = le4 (msum 0 d)
      · rw [if_pos ⟨by omega, h⟩, if_pos]
        unfold sealed; rw [← h]; exact e.symm
      · rw [if_neg (fun g => h g.2), if_neg]
        intro g
        unfold sealed at g
        rw [e] at g
        exact h (List.append_cancel_left g).symm
    have HO := Lib.hid hopen
    unfold maxLen at hc2
    clear hlen hV hVd hdl hd hopen hcap hm
    go_enter Try.func17, Try.ntmps17
    go_wp2
    refine wp_lax_list (by kernel_rfl) (by kernel_rfl) (by kernel_rfl) ?_
    refine wpL_move (.int .i64 m) rfl (by kernel_rfl) (by kernel_rfl) (by kernel_rfl) (by kernel_rfl) ?_
    refine wpL_run1 (x := .tmp 8) (.int .i64 m) (.bool false) (by kernel_rfl) (by kernel_rfl) (by kernel_rfl) (by kernel_rfl) (by kernel_rfl) (fun wx ρ hwx h0 hc => by simp [go_sem, h0, hc]) ?_
    refine wpL_move (.bool false) rfl (by kernel_rfl) (by kernel_rfl) (by kernel_rfl) (by kernel_rfl) ?_
    refine wpL_move (.slice (some ⟨b, o, none⟩) len cap) rfl (by kernel_rfl) (by kernel_rfl) (by kernel_rfl) (by kernel_rfl) ?_
    refine wpL_move (.int .i64 m) rfl (by kernel_rfl) (by kernel_rfl) (by kernel_rfl) (by kernel_rfl) ?_
    refine wpL_run2 (x := .tmp 11) (y := .tmp 12) (.slice (some ⟨b, o, none⟩) len cap) (.int .i64 m) (.slice (some ⟨b, o, none⟩) m cap) (by kernel_rfl) (by kernel_rfl) (by kernel_rfl) (by kernel_rfl) (by kernel_rfl) (by kernel_rfl) (fun wx ρ hwx h0 h1 hc => by simp [h0, h1, hc, go_sem]; omega) ?_
    refine wpL_fnT (tyB (sealed d) (m + 4)) [.slice (some ⟨b, o, none⟩) m cap] rfl rfl (by kernel_rfl) (by kernel_rfl) (by kernel_rfl) (by kernel_rfl) (fun _ _ => by simp [go_sem]) (fun w1 hw => refSeal_ty cap (m + 4) HVD.out HDL.out (fun h => by cases h) (by omega) rfl hw) ?_
    refine wpL_conv (.string (strB (sealed d))) rfl rfl (by kernel_rfl) (by kernel_rfl) (fun u w1 hw hu => tyB_str hu) ?_
    refine wpL_move (.slice (some ⟨b, o, none⟩) len cap) rfl (by kernel_rfl) (by kernel_rfl) (by kernel_rfl) (by kernel_rfl) ?_
    refine wpL_convK (.slice (some ⟨b, o, none⟩) len cap) (.string (strB l)) rfl (by kernel_rfl) (by kernel_rfl) (by kernel_rfl) (by kernel_rfl) (fun w1 hw => str_old HV.out HL.out.symm cap hw) ?_
    by_cases heq : sealed d = l
    · refine wpL_run2 (x := .tmp 15) (y := .tmp 17) (.string (strB (sealed d))) (.string (strB l)) (.bool false) (by kernel_rfl) (by kernel_rfl) (by kernel_rfl) (by kernel_rfl) (by kernel_rfl) (by kernel_rfl) (fun wx ρ hwx h0 h1 hc => by simp [h0, h1, hc, go_sem, heq]) ?_
      refine wpL_run2 (x := .tmp 10) (y := .tmp 18) (.bool false) (.bool false) (.bool false) (by kernel_rfl) (by kernel_rfl) (by kernel_rfl) (by kernel_rfl) (by kernel_rfl) (by kernel_rfl) (fun wx ρ hwx h0 h1 hc => by simp [go_sem, h0, h1]) ?_
      refine wpL_end (by kernel_rfl) (fun w1 hw v hv => ?_)
      simp only [FinL, setL, List.set_cons_zero, List.set_cons_succ]
      have HO2 : Hid (openOf l = (d, true)) := by show openOf l = _; rw [HO.out, if_pos heq]
      clear heq
      go_wp2
      go_ret2
      rw [HO2.out]
      exact ⟨hw, .inr ⟨rfl, by rw [HDL.out]; rfl⟩⟩
    · have heqs : ¬ (strB (sealed d)).toList = (strB l).toList := by rw [strB_toList, strB_toList]; exact heq
      refine wpL_run2 (x := .tmp 15) (y := .tmp 17) (.string (strB (sealed d))) (.string (strB l)) (.bool true) (by kernel_rfl) (by kernel_rfl) (by kernel_rfl) (by kernel_rfl) (by kernel_rfl) (by kernel_rfl) (fun wx ρ hwx h0 h1 hc => by simp [h0, h1, hc, go_sem, heqs]) ?_
      refine wpL_run2 (x := .tmp 10) (y := .tmp 18) (.bool false) (.bool true) (.bool true) (by kernel_rfl) (by kernel_rfl) (by kernel_rfl) (by kernel_rfl) (by kernel_rfl) (by kernel_rfl) (fun wx ρ hwx h0 h1 hc => by simp [go_sem, h0, h1]) ?_
      refine wpL_end (by kernel_rfl) (fun w1 hw v hv => ?_)
      simp only [FinL, setL, List.set_cons_zero, List.set_cons_succ]
      have HO2 : Hid (openOf l = ([], false)) := by show openOf l = _; rw [HO.out, if_neg heq]
      clear heq heqs
      go_wp2
      go_ret2
      rw [HO2.out]
      exact ⟨hw, .inl ⟨rfl, rfl⟩⟩

end Crc
end Go.Proofs.Ythbipankdbfdjaa
