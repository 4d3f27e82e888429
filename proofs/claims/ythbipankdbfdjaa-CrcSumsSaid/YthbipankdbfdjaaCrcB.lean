/- Contracts of package crc: Seal and Open. -/
import Derived.Test.YthbipankdbfdjaaCrc
import Derived.Test.YthbipankdbfdjaaCodP
namespace Go.Proofs.Ythbipankdbfdjaa
open Go.RowKit Go.Own
namespace Crc
open Go.CrcM Cod

/-- new bytes of one's own -/
def NewBytes (l : List UInt8) (n : Nat) (w : World) (v : Value) (w' : World) : Prop := ∃ ao cap T, v = .slice ao n cap ∧ Row w' 5 1 T (.slice ao n cap) n (l.map byteV) ∧ Step (fun _ => False) T w w'

theorem St.step {w w' : World} {Ps : List Asn} (h : St w.heap.size w w' Ps) (i : Nat) {P : Asn} (hi : Ps[i]? = some P) : ∃ T, P.holds T w' ∧ Step (fun _ => False) T w w' := by
  obtain ⟨S, hS, hB, _⟩ := h.at i hi
  have b := h.below
  exact ⟨S, hS, b.os, b.tape, b.output, b.size, fun k hk _ => b.block k hk, fun k hk => .inr (hB k hk)⟩

theorem le_four (x : R) : le x.toNat 4 = le4 x := by
  simp [le, le4]

def SealDone (l : List UInt8) (n : Nat) (w : World) (e : Ending) (w' : World) : Prop := ∃ v, e = .returned v ∧ NewBytes (sealed l) n w v w'

theorem seal_any (D : Nat → Prop) (ao : Option Addr) (l : List UInt8) (cap n : Nat) (w : World) (hV0 : View w D ao l) (hl : l.length ≤ 90000000) (hn : n = l.length + 4) :
    Calls Try.prog 18 #[.slice ao l.length cap] w (SealDone l n w) := by
  have hV : View w (fun k => k < w.heap.size) ao l := hV0.live.mono fun k hk => hk.2
  have HV := Lib.hid hV
  have HN0 := Lib.hid hn
  have H0 := Lib.hid (St.start w)
  clear hV hV0 hn
  obtain ⟨len, hlen⟩ : ∃ len, len = l.length := ⟨_, rfl⟩
  rw [← hlen]
  rw [← hlen] at hl
  have HL := Lib.hid hlen
  clear hlen
  go_enter Try.func18, Try.ntmps18
  go_wp2_with (fail)
  refine (newWriter_st H0.out (len + 4) (by omega)).mono ?_
  rintro e w1 ⟨p, rfl, H1⟩
  have H1 := Lib.hid H1
  go_wp2_with (fail)
  have hr := raw_st H1.out 0 rfl cap (HV.out.below H1.out.below) (by rw [← HL.out]; omega) (by simp)
  rw [← HL.out] at hr
  refine hr.mono ?_
  clear hr
  rintro e w2 ⟨rfl, H2⟩
  have H2 := Lib.hid H2
  go_wp2_with (fail)
  have hr := sum_any _ ao l cap w2 (HV.out.below H2.out.below) (by rw [← HL.out]; omega)
  obtain ⟨x, hx⟩ : ∃ x, x = msum 0 l := ⟨_, rfl⟩
  rw [← HL.out, ← hx] at hr
  have HX := Lib.hid hx
  have hcv : (x.toNat : Int) % 18446744073709551616 = (x.toNat : Int) := by have := x.isLt; omega
  clear hx
  refine hr.mono ?_
  clear hr
  rintro e w3 ⟨rfl, rfl⟩
  go_wp2_with (fail)
  have hlay : WS.lay ⟨max ((len : Int) + 4) 0, [], 0⟩ l = ⟨(len : Int) + 4, l, 0⟩ := by
    simp only [WS.lay]
    rw [if_neg (by simp), if_neg (by have := HL.out; simp; omega)]
    simp; omega
  have hnum : WS.num ⟨(len : Int) + 4, l, 0⟩ x.toNat 4 = ⟨(len : Int) + 4, sealed l, 0⟩ := by
    simp only [WS.num, WS.lay]
    rw [if_neg (by simp), if_neg (by omega), if_neg (by simp), if_neg (by rw [le_len]; have := HL.out; simp; omega)]
    unfold sealed
    rw [← HX.out, ← le_four]
    rfl
  have H2' := H2.out
  simp only [List.set_cons_zero, hlay] at H2'
  have HN := Lib.hid hnum
  have H2' := Lib.hid H2'
  clear hlay hnum H2
  have hr := num_st H2'.out 0 rfl x.toNat 4 (by have := HL.out; show l.length ≤ _; omega)
  rw [HN.out] at hr
  refine hr.mono ?_
  clear hr
  rintro e w4 ⟨rfl, H3⟩
  have H3 := Lib.hid H3
  go_wp2_with (fail)
  refine (out_st H3.out 0 rfl (n := n) (by rw [HN0.out]; show (sealed l).length = _; unfold sealed; rw [List.length_append]; rfl) (by have := HL.out; have := HN0.out; omega)).mono ?_
  rintro e w5 ⟨ao', cap', rfl, H4⟩
  have H4 := Lib.hid H4
  go_wp2_with (fail)
  go_ret
  obtain ⟨T, h1, h2⟩ := St.step H4.out 0 rfl
  exact ⟨_, rfl, ao', cap', T, rfl, h1, h2⟩

theorem num_inj : ∀ (a b : List UInt8), a.length = b.length → num a = num b → a = b
  | [], [], _, _ => rfl
  | c :: r, d :: t, hl, h => by
    simp only [num] at h
    have h1 := c.toNat_lt
    have h2 := d.toNat_lt
    have e : c = d := UInt8.toNat_inj.1 (by omega)
    subst e
    rw [num_inj r t (by simpa using hl) (by omega)]
theorem num_le4 (x : R) : num (le4 x) = x.toNat := by
  rw [← le_four, num_le]
  exact Nat.mod_eq_of_lt x.isLt

/-- what Open answers -/
def openOf (l : List UInt8) : List UInt8 × Bool :=
  if 4 ≤ l.length ∧ l.drop (l.length - 4) = le4 (msum 0 (l.take (l.length - 4))) then (l.take (l.length - 4), true) else ([], false)

theorem openOf_sealed (l : List UInt8) : openOf (sealed l) = (l, true) := by
  have hl : (sealed l).length = l.length + 4 := by unfold sealed; rw [List.length_append]; rfl
  have h1 : (sealed l).take l.length = l := by unfold sealed; simp
  have h2 : (sealed l).drop l.length = le4 (msum 0 l) := by unfold sealed; simp
  unfold openOf
  rw [hl, Nat.add_sub_cancel, h1, h2, if_pos ⟨by omega, rfl⟩]

def OpenDone (x : List UInt8 × Bool) (w : World) (e : Ending) (w' : World) : Prop :=
  ∃ v n, e = .returned (.tuple #[v, .bool x.2]) ∧ x.1.length = n ∧ ∃ ao cap T, v = .slice ao n cap ∧ Row w' 5 1 T (.slice ao n cap) n (x.1.map byteV) ∧ Step (fun _ => False) T w w'

theorem OpenDone.no {w w' : World} {x : List UInt8 × Bool} (hx : x = ([], false)) (h : Below w.heap.size w w') : OpenDone x w (.returned (.tuple #[.slice none 0 0, .bool false])) w' := by
  subst hx
  exact ⟨_, 0, rfl, rfl, none, 0, fun _ => False, rfl, Row.nil _ _ _, h.os, h.tape, h.output, h.size, fun k hk _ => h.block k hk, fun _ h => h.elim⟩

set_option maxHeartbeats 400000 in
theorem open_any (D : Nat → Prop) (ao : Option Addr) (l : List UInt8) (cap : Nat) (w : World) (hV0 : View w D ao l) (hl : l.length ≤ 90000000) :
    Calls Try.prog 16 #[.slice ao l.length cap] w (OpenDone (openOf l) w) := by
  have hV : View w (fun k => k < w.heap.size) ao l := hV0.live.mono fun k hk => hk.2
  have HV := Lib.hid hV
  have H0 := Lib.hid (St.start w)
  clear hV hV0
  obtain ⟨len, hlen⟩ : ∃ len, len = l.length := ⟨_, rfl⟩
  rw [← hlen]
  rw [← hlen] at hl
  have HL := Lib.hid hlen
  clear hlen
  by_cases h4 : len < 4
  · have hraw : RS.raw ⟨l, 0⟩ ((len : Int) - 4) = ([], ⟨l, 1⟩) := by
      unfold RS.raw
      rw [if_neg (by simp), if_pos (by omega)]
    have hnum : RS.num ⟨l, 1⟩ 4 = (0, ⟨l, 1⟩) := by
      unfold RS.num
      rw [if_pos (by simp)]
    have hres : openOf l = ([], false) := by unfold openOf; rw [if_neg (fun h => by have := h.1; have := HL.out; omega)]
    have HR := Lib.hid hraw
    have HN := Lib.hid hnum
    have HO := Lib.hid hres
    clear hraw hnum hres
    go_enter Try.func16, Try.ntmps16
    go_wp2_with (fail)
    have hr := newReader_old H0.out cap HV.out (by rw [← HL.out]; omega)
    rw [← HL.out] at hr
    refine hr.mono ?_
    clear hr
    rintro e w1 ⟨p, rfl, H1⟩
    have H1 := Lib.hid H1
    go_wp2_with (fail)
    refine (rraw_st H1.out 0 rfl ((len : Int) - 4) HR.out (m := 0) rfl (by have := HL.out; show l.length ≤ _; omega)).mono ?_
    rintro e w2 ⟨a2, c2, rfl, H2⟩
    have H2 := Lib.hid H2
    go_wp2_with (fail)
    refine (rnum_st H2.out 1 rfl 4 HN.out (by have := HL.out; show l.length ≤ _; omega)).mono ?_
    rintro e w3 ⟨rfl, H3⟩
    have H3 := Lib.hid H3
    go_wp2_with (fail)
    refine (end_st H3.out 1 rfl).mono ?_
    rintro e w4 ⟨rfl, rfl⟩
    have hfin : RS.fin ⟨l, 1⟩ = 1 := by unfold RS.fin; rw [if_neg (by simp)]
    go_wp2_with (fail)
    go_ret2
    exact OpenDone.no HO.out H3.out.below
  · obtain ⟨m, hm⟩ : ∃ m : Nat, m = len - 4 := ⟨_, rfl⟩
    have hmi : (len : Int) - 4 = (m : Int) := by omega
    have hml : m + 4 = l.length := by rw [← HL.out]; omega
    obtain ⟨d, hd⟩ : ∃ d, d = l.take m := ⟨_, rfl⟩
    obtain ⟨q, hq⟩ : ∃ q, q = l.drop m := ⟨_, rfl⟩
    have hdl : d.length = m := by rw [hd, List.length_take]; omega
    have hql : q.length = 4 := by rw [hq, List.length_drop]; omega
    have hraw : RS.raw ⟨l, 0⟩ ((len : Int) - 4) = (d, ⟨q, 0⟩) := by
      unfold RS.raw
      rw [hmi, if_neg (by simp), if_neg (by omega), if_neg (by simp only; omega), Int.toNat_natCast, hd, hq]
    obtain ⟨y, hy⟩ : ∃ y, y = num q := ⟨_, rfl⟩
    have hnum : RS.num ⟨q, 0⟩ 4 = (y, ⟨[], 0⟩) := by
      unfold RS.num
      rw [if_neg (by simp), if_neg (by omega), if_neg (by simp only; omega)]
      simp only [show (4 : Int).toNat = 4 from rfl]
      rw [List.take_of_length_le (by omega), List.drop_eq_nil_of_le (by omega), hy]
    obtain ⟨x, hx⟩ : ∃ x, x = msum 0 d := ⟨_, rfl⟩
    have hopen : openOf l = if y = x.toNat then (d, true) else ([], false) := by
      unfold openOf
      rw [show l.length - 4 = m by omega, ← hd, ← hq, ← hx]
      by_cases h : y = x.toNat
      · rw [if_pos h, if_pos ⟨by omega, num_inj _ _ (by rw [hql]; rfl) (by rw [num_le4, ← hy, h])⟩]
      · rw [if_neg h, if_neg (fun g => h (by rw [hy, g.2, num_le4]))]
    have HR := Lib.hid hraw
    have HN := Lib.hid hnum
    have HO := Lib.hid hopen
    have HX := Lib.hid hx
    have HDL := Lib.hid hdl
    have hcv : (x.toNat : Int) % 18446744073709551616 = (x.toNat : Int) := by have := x.isLt; omega
    have hmle : m ≤ 90000000 := by omega
    have hqle : (RS.l ⟨q, 0⟩).length ≤ 1000000000 := by show q.length ≤ _; omega
    have hlle : (RS.l ⟨l, 0⟩).length ≤ 1000000000 := by show l.length ≤ _; omega
    clear hraw hnum hopen hx hm hmi hml hd hq hdl hql hy
    have fin0 : RS.fin ⟨[], 0⟩ = 0 := by unfold RS.fin; simp
    go_enter Try.func16, Try.ntmps16
    go_wp2_with (fail)
    have hr := newReader_old H0.out cap HV.out (by rw [← HL.out]; omega)
    rw [← HL.out] at hr
    refine hr.mono ?_
    clear hr
    rintro e w1 ⟨p, rfl, H1⟩
    have H1 := Lib.hid H1
    go_wp2_with (fail)
    refine (rraw_st H1.out 0 rfl ((len : Int) - 4) HR.out (m := m) HDL.out hlle).mono ?_
    rintro e w2 ⟨a2, c2, rfl, H2⟩
    have H2 := Lib.hid H2
    go_wp2_with (fail)
    refine (rnum_st H2.out 1 rfl 4 HN.out hqle).mono ?_
    rintro e w3 ⟨rfl, H3⟩
    have H3 := Lib.hid H3
    go_wp2_with (fail)
    refine (end_st H3.out 1 rfl).mono ?_
    rintro e w4 ⟨rfl, rfl⟩
    go_wp2_with (fail)
    obtain ⟨T, hT, hst⟩ := St.step H3.out 0 rfl
    have HT := Lib.hid hT
    have HST := Lib.hid hst
    have hr := sum_any T a2 d c2 w3 (AB.view hT) (by have := HDL.out; omega)
    rw [HDL.out, ← HX.out] at hr
    clear hT hst
    refine hr.mono ?_
    clear hr
    rintro e w5 ⟨rfl, rfl⟩
    go_wp2_with (fail)
    · have hne : ((y : Int) != (x.toNat : Int)) = true := by assumption
      have HNE : Hid (openOf l = ([], false)) := by
        show openOf l = _
        rw [HO.out, if_neg]
        intro h; rw [h] at hne; simp at hne
      clear hne
      go_ret2
      exact OpenDone.no HNE.out H3.out.below
    · have hne : ((y : Int) != (x.toNat : Int)) = false := by assumption
      have HNE : Hid (openOf l = (d, true)) := by
        show openOf l = _
        rw [HO.out, if_pos]
        simp at hne; omega
      clear hne
      go_ret2
      rw [HNE.out]
      exact ⟨_, m, rfl, HDL.out, a2, c2, T, rfl, HT.out, HST.out⟩

end Crc
end Go.Proofs.Ythbipankdbfdjaa
