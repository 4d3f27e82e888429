/- Contracts of package codec: the reader. -/
import Derived.Test.YtefbcoakjdjkgaaCodA
namespace Go.Proofs.Ytefbcoakjdjkgaa
open Go.RowKit Go.Own
namespace Cod

/-- a reader as plain data: the bytes that are left, its first error -/
structure RS where
  l : List UInt8
  err : Int

/-- what a reader is in memory -/
def Rd (w : World) (S : Nat → Prop) (p : Nat) (r : RS) : Prop :=
  ∃ ao cap D, w.heap[p]? = some (.cells #[.slice ao r.l.length cap, .int .i64 r.err] 64 (0, 0)) ∧ View w D ao r.l ∧ ¬ D p ∧ (∀ k, S k ↔ (k = p ∨ D k)) ∧ (∀ k, D k → k < w.heap.size) ∧
    r.l.length ≤ cap ∧ cap ≤ maxLen ∧ (ao = none → cap = 0) ∧ ∀ a, ao = some a → a.spot = none

theorem Rd.keep {w w' : World} {S T U : Nat → Prop} {p : Nat} {r : RS} (h : Rd w S p r) (g : Step T U w w') (hd : Dis S T) : Rd w' S p r := by
  obtain ⟨ao, cap, D, hb, hV, hD, hS, hl, rest⟩ := h
  exact ⟨ao, cap, D, (g.block p (lt_of_block hb) (hd p ((hS p).2 (.inl rfl)))).trans hb, hV.step g (fun k hk => hd k ((hS k).2 (.inr hk))), hD, hS, fun k hk => Nat.lt_of_lt_of_le (hl k hk) g.size, rest⟩

theorem Rd.lt {w : World} {S : Nat → Prop} {p : Nat} {r : RS} (h : Rd w S p r) : ∀ k, S k → k < w.heap.size := by
  obtain ⟨ao, cap, D, hb, hV, hD, hS, hl, rest⟩ := h
  intro k hk
  rcases (hS k).1 hk with rfl | h
  · exact lt_of_block hb
  · exact hl k h

/-- the reader is so, and only its blocks have turned -/
def RdTo (S : Nat → Prop) (p : Nat) (r : RS) (w w' : World) : Prop := Rd w' S p r ∧ Step S S w w'

theorem Rd.fault {w : World} {S : Nat → Prop} {p : Nat} {r : RS} (h : Rd w S p r) (n : Nat) (x : Int) : RdTo S p ⟨r.l, x⟩ w ((w.drewN n).setCell ⟨p, 1, none⟩ (.int .i64 x)) := by
  obtain ⟨ao, cap, D, hb, hV, hD, hS, hl, rest⟩ := h
  have g : Step (fun k => k = p) (fun k => k = p) w ((w.drewN n).setCell ⟨p, 1, none⟩ (.int .i64 x)) := ((Step.refl (fun k => k = p) w).drewN n).setCell (a := ⟨p, 1, none⟩) (Or.inl rfl) _
  refine ⟨⟨ao, cap, D, ?_, hV.step g (fun k h e => hD (e ▸ h)), hD, hS, fun k hk => Nat.lt_of_lt_of_le (hl k hk) g.size, rest⟩, ((Step.refl S w).drewN n).setCell (a := ⟨p, 1, none⟩) (Or.inl ((hS p).2 (.inl rfl))) _⟩
  have e : (w.drewN n).heap[p]? = some (.cells #[.slice ao r.l.length cap, .int .i64 r.err] 64 (0, 0)) := hb
  rw [block_setCell e]
  rfl

/-- what is left is set -/
theorem Rd.left {w : World} {S D : Nat → Prop} {p : Nat} {v : Value} {l : List UInt8} {err : Int} {ao : Option Addr} {cap : Nat}
    (hb : w.heap[p]? = some (.cells #[v, .int .i64 err] 64 (0, 0))) (hD : ¬ D p) (hS : ∀ k, S k ↔ (k = p ∨ D k)) (hl : ∀ k, D k → k < w.heap.size)
    (hV : View w D ao l) (h1 : l.length ≤ cap) (h2 : cap ≤ maxLen) (h3 : ao = none → cap = 0) (h4 : ∀ a, ao = some a → a.spot = none) :
    RdTo S p ⟨l, err⟩ w (w.setCell ⟨p, 0, none⟩ (.slice ao l.length cap)) := by
  have g : Step (fun k => k = p) (fun k => k = p) w (w.setCell ⟨p, 0, none⟩ (.slice ao l.length cap)) := (Step.refl (fun k => k = p) w).setCell (a := ⟨p, 0, none⟩) (Or.inl rfl) _
  refine ⟨⟨ao, cap, D, ?_, hV.step g (fun k h e => hD (e ▸ h)), hD, hS, fun k hk => Nat.lt_of_lt_of_le (hl k hk) g.size, h1, h2, h3, h4⟩, (Step.refl S w).setCell (a := ⟨p, 0, none⟩) (Or.inl ((hS p).2 (.inl rfl))) _⟩
  rw [block_setCell hb]
  rfl

theorem View.take {w : World} {D : Nat → Prop} {ao : Option Addr} {l : List UInt8} (h : View w D ao l) (n : Nat) : View w D ao (l.take n) := by
  rcases h with rfl | ⟨b, o, e, hS, hb, hc⟩
  · exact .inl (by simp)
  · refine .inr ⟨b, o, e, hS, hb, fun j hj => ?_⟩
    rw [List.length_take] at hj
    rw [hc j (by omega)]
    simp [List.getD, show j < n by omega]

theorem View.drop {w : World} {D : Nat → Prop} {b o : Nat} {l : List UInt8} (h : View w D (some ⟨b, o, none⟩) l) (n : Nat) : View w D (some ⟨b, o + n, none⟩) (l.drop n) := by
  rcases h with rfl | ⟨b', o', e, hS, hb, hc⟩
  · exact .inl (by simp)
  · cases e
    refine .inr ⟨b, o + n, rfl, hS, hb, fun j hj => ?_⟩
    rw [List.length_drop] at hj
    have := hc (n + j) (by omega)
    rw [Nat.add_assoc, this]
    simp [List.getD]

/-- what a take leaves: the first bytes as a part of the reader's own -/
def TakeDone (S : Nat → Prop) (p : Nat) (r : RS) (n : Nat) (w : World) (e : Ending) (w' : World) : Prop :=
  ∃ ao cap D, e = .returned (.slice ao n cap) ∧ View w' D ao (r.l.take n) ∧ (∀ k, D k → S k) ∧ RdTo S p ⟨r.l.drop n, r.err⟩ w w'

set_option maxHeartbeats 400000 in
theorem take_any (S : Nat → Prop) (p : Nat) (r : RS) (n : Nat) (w : World) (hR : Rd w S p r) (hn : n ≤ r.l.length) :
    Calls Try.prog 41 #[.pointer (some ⟨p, 0, none⟩), .int .i64 n] w (TakeDone S p r n w) := by
  obtain ⟨ao, cap, D, hb, hV, hD, hS, hlt, hlc, hm, hnone, hspot⟩ := hR
  obtain ⟨l, err⟩ := r
  simp only at hb hV hn hlc
  have h0 := cell_of_block (i := 0) hb rfl
  have f0 := frozen_of_block (i := 0) hb
  unfold maxLen at hm
  cases ao with
  | none =>
    obtain rfl := hnone rfl
    obtain rfl : l = [] := List.eq_nil_of_length_eq_zero (by omega)
    obtain rfl : n = 0 := by simpa using hn
    have key : TakeDone S p ⟨[], err⟩ 0 w (.returned (.slice none 0 0)) (w.setCell ⟨p, 0, none⟩ (.slice none 0 0)) :=
      ⟨none, 0, D, rfl, .inl (by simp), fun k hk => (hS k).2 (.inr hk), Rd.left (ao := none) (l := []) hb hD hS hlt hV (by simp) (by simp [maxLen]) (fun _ => rfl) (fun a h => by cases h)⟩
    have K := Lib.hid key
    clear key hb hV hD hS hlt
    simp only [List.length_nil] at h0
    go_enter Try.func41, Try.ntmps41
    go_wp2
    go_ret
    exact K.out
  | some a =>
    obtain ⟨b, o, sp⟩ := a
    obtain rfl : sp = none := hspot _ rfl
    obtain ⟨len, hlen⟩ : ∃ len, len = l.length := ⟨_, rfl⟩
    have key1 : cap = n → TakeDone S p ⟨l, err⟩ n w (.returned (.slice (some ⟨b, o, none⟩) n n)) (w.setCell ⟨p, 0, none⟩ (.slice (some ⟨b, o, none⟩) (len - n) 0)) := by
      intro hc
      have e : l.drop n = [] := List.drop_eq_nil_of_le (by omega)
      have e2 : len - n = 0 := by omega
      refine ⟨some ⟨b, o, none⟩, n, D, rfl, (View.take hV n).step (T := fun k => k = p) (U := fun k => k = p) ((Step.refl (fun k => k = p) w).setCell (a := ⟨p, 0, none⟩) (Or.inl rfl) _) (fun k h e => hD (e ▸ h)), fun k hk => (hS k).2 (.inr hk), ?_⟩
      rw [e, e2]
      exact Rd.left (ao := some ⟨b, o, none⟩) (l := []) hb hD hS hlt (.inl rfl) (by simp) (by simp [maxLen]) (fun h => by cases h) (fun a h => by cases h; rfl)
    have key2 : TakeDone S p ⟨l, err⟩ n w (.returned (.slice (some ⟨b, o, none⟩) n cap)) (w.setCell ⟨p, 0, none⟩ (.slice (some ⟨b, o + n, none⟩) (len - n) (cap - n))) := by
      refine ⟨some ⟨b, o, none⟩, cap, D, rfl, (View.take hV n).step (T := fun k => k = p) (U := fun k => k = p) ((Step.refl (fun k => k = p) w).setCell (a := ⟨p, 0, none⟩) (Or.inl rfl) _) (fun k h e => hD (e ▸ h)), fun k hk => (hS k).2 (.inr hk), ?_⟩
      have e : len - n = (l.drop n).length := by rw [List.length_drop]; omega
      rw [e]
      exact Rd.left (ao := some ⟨b, o + n, none⟩) (l := l.drop n) hb hD hS hlt (View.drop hV n) (by rw [List.length_drop]; omega) (by unfold maxLen; omega) (fun h => by cases h) (fun a h => by cases h; rfl)
    have K1 := Lib.hid key1
    have K2 := Lib.hid key2
    rw [← hlen] at h0 hn hlc
    clear key1 key2 hb hV hD hS hlt hlen hnone hspot
    go_enter Try.func41, Try.ntmps41
    go_wp2
    all_goals go_ret
    · exact K1.out (by omega)
    · exact K2.out

/-- bytes as a number, the least significant one first -/
def num : List UInt8 → Nat
  | [] => 0
  | c :: r => c.toNat + 256 * num r

theorem num_snoc (l : List UInt8) (c : UInt8) : num (l ++ [c]) = num l + 2 ^ (8 * l.length) * c.toNat := by
  induction l with
  | nil => simp [num]
  | cons d r ih =>
    have e : 2 ^ (8 * (r.length + 1)) = 256 * 2 ^ (8 * r.length) := by rw [Nat.mul_add, Nat.pow_add]; simp [Nat.mul_comm]
    rw [List.cons_append, num, ih, num, List.length_cons, e, Nat.mul_add, Nat.mul_assoc]
    omega

theorem or_shift (m k : Nat) (c : UInt8) (hk : k < 8) (hm : m < 2 ^ (8 * k)) :
    bits .or .u64 (m : Int) (IntKind.u64.wrap (IntKind.u64.wrap (c.toNat : Int) * 2 ^ (8 * k))) = ((m + 2 ^ (8 * k) * c.toNat : Nat) : Int) := by
  have hc := c.toNat_lt
  have hp : (2 : Nat) ^ (8 * k) ≤ 2 ^ 56 := Nat.pow_le_pow_right (by omega) (by omega)
  have hlt : 2 ^ (8 * k) * c.toNat < 2 ^ 64 := Nat.lt_of_le_of_lt (Nat.mul_le_mul hp (show c.toNat ≤ 255 by omega)) (by decide)
  have e1 : IntKind.u64.wrap (c.toNat : Int) = (c.toNat : Int) := IntWalk.u64_in _ (by omega)
  have e2 : (c.toNat : Int) * 2 ^ (8 * k) = ((2 ^ (8 * k) * c.toNat : Nat) : Int) := by simp [Int.mul_comm]
  have e3 : IntKind.u64.wrap ((2 ^ (8 * k) * c.toNat : Nat) : Int) = ((2 ^ (8 * k) * c.toNat : Nat) : Int) := IntWalk.u64_in _ (by omega)
  rw [e1, e2, e3, bits_or_u64_nat _ _ (by omega) (by omega), Nat.or_comm, ← Nat.two_pow_add_eq_or_of_lt hm]
  rw [Nat.add_comm]

theorem num_lt (l : List UInt8) : num l < 2 ^ (8 * l.length) := by
  induction l with
  | nil => simp [num]
  | cons d r ih =>
    have e : 2 ^ (8 * (r.length + 1)) = 256 * 2 ^ (8 * r.length) := by rw [Nat.mul_add, Nat.pow_add]; simp [Nat.mul_comm]
    have := d.toNat_lt
    simp only [num, List.length_cons, e]
    omega

set_option maxHeartbeats 400000 in
theorem number_any (D : Nat → Prop) (ao : Option Addr) (l : List UInt8) (cap : Nat) (w : World) (hV : View w D ao l) (hl : l.length ≤ 8) :
    Calls Try.prog 40 #[.slice ao l.length cap] w fun e w' => e = .returned (.int .u64 (num l)) ∧ w = w' := by
  obtain ⟨len, hlen⟩ : ∃ len, len = l.length := ⟨_, rfl⟩
  rw [← hlen]
  rw [← hlen] at hl
  have HL := Lib.hid hlen
  clear hlen
  go_enter Try.func40, Try.ntmps40
  go_wp2
  go_loop [3, 4, 7] (fun n _ i => ∃ k : Nat, k ≤ len ∧ i = .int .i64 k ∧ n = .int .u64 (num (l.take k))) (fun _ _ i => len - (intOf i).toNat)
  case atStart => exact ⟨0, Nat.zero_le _, rfl, rfl⟩
  case round =>
    obtain ⟨k, hk, rfl, rfl⟩ := hrel
    by_cases hlt : k < len
    · obtain ⟨b, o, rfl, hbD, hbw, hc⟩ : ∃ b o, ao = some ⟨b, o, none⟩ ∧ D b ∧ b < w.heap.size ∧ ∀ j, j < l.length → w.cell? ⟨b, o + j, none⟩ = some (.int .u8 ((l.getD j 0).toNat : Int)) := by
        rcases hV with h | h
        · have := HL.out; rw [h] at this; simp at this; omega
        · exact h
      obtain ⟨c, hcd⟩ : ∃ c, c = l.getD k 0 := ⟨_, rfl⟩
      have hcx : w.cell? ⟨b, o + k, none⟩ = some (.int .u8 (c.toNat : Int)) := by rw [hcd]; exact hc k (by rw [← HL.out]; exact hlt)
      have hsn : l.take (k + 1) = l.take k ++ [c] := by
        rw [List.take_succ_eq_append_getElem (by rw [← HL.out]; exact hlt), hcd]
        simp [show k < l.length by rw [← HL.out]; exact hlt]
      have HC := Lib.hid hsn
      have hk8 : IntKind.i64.wrap (8 * (k : Int)) = 8 * (k : Int) := IntWalk.i64_in _ (by omega)
      have hk0 : (0 : Int) ≤ 8 * (k : Int) := by omega
      clear hcd hsn hc hbD hbw hV
      obtain ⟨m, hm⟩ : ∃ m, m = num (l.take k) := ⟨_, rfl⟩
      rw [← hm]
      have HM := Lib.hid hm
      have hm2 : m < 2 ^ (8 * k) := by
        have := num_lt (l.take k)
        rw [List.length_take, Nat.min_eq_left (by rw [← HL.out]; omega), ← hm] at this
        exact this
      have hor := or_shift m k c (by omega) hm2
      clear hm hm2
      obtain ⟨q, hq⟩ : ∃ q : Nat, q = m + 2 ^ (8 * k) * c.toNat := ⟨_, rfl⟩
      rw [← hq] at hor
      have HQ := Lib.hid hq
      clear hq
      go_wp2
      go_round
      case rel =>
        refine ⟨k + 1, by omega, by go_num, ?_⟩
        rw [HC.out, num_snoc, ← HM.out, List.length_take, Nat.min_eq_left (by rw [← HL.out]; omega), ← HQ.out]
      case measure => simp [intOf]; omega
    · have hkl : l.take k = l := List.take_of_length_le (by rw [← HL.out]; omega)
      have HK := Lib.hid hkl
      clear hkl
      go_wp2
      go_ret
      exact ⟨by rw [HK.out]; rfl, rfl⟩

end Cod
end Go.Proofs.Ytefbcoakjdjkgaa
