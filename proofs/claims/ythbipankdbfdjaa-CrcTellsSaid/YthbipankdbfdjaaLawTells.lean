/- CrcTells: the walk. -/
import Derived.Test.YthbipankdbfdjaaLawThree
namespace Go.Proofs.Ythbipankdbfdjaa
open Go.RowKit Go.Own
namespace Crc
open Go.CrcM Cod

/-- byte c with bit q turned -/
def turnBit (c : UInt8) (q : Nat) : UInt8 := UInt8.ofNat (c.toNat ^^^ 2 ^ q)
theorem turnBit_nat (c : UInt8) (q : Nat) (hq : q < 8) : (turnBit c q).toNat = c.toNat ^^^ 2 ^ q := by
  have h1 := c.toNat_lt
  have h2 : 2 ^ q < 2 ^ 8 := Nat.pow_lt_pow_right (by omega) hq
  have : c.toNat ^^^ 2 ^ q < 2 ^ 8 := Nat.xor_lt_two_pow h1 h2
  unfold turnBit
  rw [UInt8.toNat_ofNat']
  exact Nat.mod_eq_of_lt this

/-- the first k of the bits turned, from bit f on -/
def flips (l : List UInt8) (f : Nat) (b : R) : Nat → List UInt8
  | 0 => l
  | k + 1 => if f + k < 8 * l.length ∧ b.getLsbD k = true then (flips l f b k).set ((f + k) / 8) (turnBit ((flips l f b k).getD ((f + k) / 8) 0) ((f + k) % 8)) else flips l f b k
/-- whether any was turned -/
def turned (n f : Nat) (b : R) : Nat → Bool
  | 0 => false
  | k + 1 => if f + k < n ∧ b.getLsbD k = true then true else turned n f b k

theorem flips_len (l : List UInt8) (f : Nat) (b : R) (k : Nat) : (flips l f b k).length = l.length := by
  induction k with
  | zero => rfl
  | succ k ih => unfold flips; split <;> simp [ih]

theorem flips_bit (l : List UInt8) (f : Nat) (b : R) (k i : Nat) (hi : i < 8 * l.length) : bitAt (flips l f b k) i = (bitAt l i ^^ (decide (f ≤ i ∧ i < f + k) && b.getLsbD (i - f))) := by
  induction k with
  | zero =>
    show bitAt l i = _
    rw [show decide (f ≤ i ∧ i < f + 0) = false from decide_eq_false (by omega)]
    simp
  | succ k ih =>
    unfold flips
    by_cases hc : f + k < 8 * l.length ∧ b.getLsbD k = true
    · rw [if_pos hc]
      have hlen := flips_len l f b k
      by_cases hik : i = f + k
      · have hb : b.getLsbD (i - f) = true := by rw [hik, Nat.add_sub_cancel_left]; exact hc.2
        have hd1 : decide (f ≤ i ∧ i < f + (k + 1)) = true := decide_eq_true (by omega)
        have hd2 : decide (f ≤ i ∧ i < f + k) = false := decide_eq_false (by omega)
        rw [hd2] at ih
        rw [hd1, hb]
        simp only [Bool.false_and, Bool.xor_false] at ih
        have e : bitAt ((flips l f b k).set ((f + k) / 8) (turnBit ((flips l f b k).getD ((f + k) / 8) 0) ((f + k) % 8))) i = !(bitAt (flips l f b k) i) := by
          unfold bitAt
          rw [hik]
          have h8 : (f + k) / 8 < (flips l f b k).length := by rw [hlen]; omega
          simp only [List.getD_eq_getElem?_getD, List.getElem?_set_self h8, Option.getD_some]
          rw [turnBit_nat _ _ (Nat.mod_lt _ (by decide)), Nat.testBit_xor, Nat.testBit_two_pow_self]
          simp
        rw [e, ih]
        simp
      · have hd : decide (f ≤ i ∧ i < f + (k + 1)) = decide (f ≤ i ∧ i < f + k) := decide_eq_decide.2 (by omega)
        rw [hd, ← ih]
        unfold bitAt
        by_cases h8 : i / 8 = (f + k) / 8
        · have h9 : i % 8 ≠ (f + k) % 8 := by omega
          have h8l : (f + k) / 8 < (flips l f b k).length := by rw [hlen]; omega
          rw [h8]
          simp only [List.getD_eq_getElem?_getD, List.getElem?_set_self h8l, Option.getD_some]
          rw [turnBit_nat _ _ (Nat.mod_lt _ (by decide)), Nat.testBit_xor, Nat.testBit_two_pow_of_ne (Ne.symm h9)]
          simp
        · simp only [List.getD_eq_getElem?_getD, List.getElem?_set_ne (Ne.symm h8)]
    · rw [if_neg hc, ih]
      by_cases hik : i = f + k
      · have hb : b.getLsbD (i - f) = false := by
          rw [hik, Nat.add_sub_cancel_left]
          cases hbk : b.getLsbD k with
          | false => rfl
          | true => exact absurd ⟨by omega, hbk⟩ hc
        rw [hb]; simp
      · rw [show decide (f ≤ i ∧ i < f + (k + 1)) = decide (f ≤ i ∧ i < f + k) from decide_eq_decide.2 (by omega)]

theorem turned_some (n f : Nat) (b : R) (k : Nat) (h : turned n f b k = true) : ∃ j, j < k ∧ f + j < n ∧ b.getLsbD j = true := by
  induction k with
  | zero => simp [turned] at h
  | succ k ih =>
    unfold turned at h
    split at h
    · rename_i hc; exact ⟨k, by omega, hc.1, hc.2⟩
    · obtain ⟨j, h1, h2, h3⟩ := ih h; exact ⟨j, by omega, h2, h3⟩
theorem turned_none (l : List UInt8) (f : Nat) (b : R) (k : Nat) (h : turned (8 * l.length) f b k = false) : flips l f b k = l := by
  induction k with
  | zero => rfl
  | succ k ih =>
    unfold turned at h
    split at h
    · cases h
    · rename_i hc; unfold flips; rw [if_neg hc]; exact ih h

theorem openOf_true {l d : List UInt8} (h : openOf l = (d, true)) : msum 0 l = 0x2144DF1C#32 := by
  have := (openOf_is h).1 rfl
  rw [← this, msum_sealed]

/-- THE STATEMENT's heart: what was turned is told -/
theorem tells (x : List UInt8) (f : Nat) (b : R) (k : Nat) (hend : k = 32 ∨ 8 * (sealed x).length ≤ f + k) (hk : k ≤ 32) :
    (openOf (flips (sealed x) f b k)).2 = !turned (8 * (sealed x).length) f b k := by
  cases ht : turned (8 * (sealed x).length) f b k with
  | false => rw [turned_none _ _ _ _ ht, openOf_sealed]; rfl
  | true =>
    cases ho : (openOf (flips (sealed x) f b k)).2 with
    | false => rfl
    | true =>
      exfalso
      obtain ⟨d, hd⟩ : ∃ d, openOf (flips (sealed x) f b k) = (d, true) := ⟨_, Prod.ext rfl ho⟩
      have h1 := openOf_true hd
      have h2 := msum_sealed x
      have h3 : crun (~~~ 0) (flips (sealed x) f b k) = crun (~~~ 0) (sealed x) := by
        unfold msum at h1 h2
        have := congrArg (~~~ ·) (h1.trans h2.symm)
        simpa using this
      rw [crun_bits, crun_bits, flips_len] at h3
      have h4 : rb (~~~ 0 ^^^ 0) (fun i => bitAt (sealed x) i ^^ (decide (f ≤ i) && (decide (i < f + k) && b.getLsbD (i - f)))) (8 * (sealed x).length) = rb (~~~ 0) (bitAt (sealed x)) (8 * (sealed x).length) := by
        rw [show (~~~ (0 : R)) ^^^ 0 = ~~~ 0 by decide, ← h3]
        refine rb_congr _ _ _ _ (fun i hi => ?_)
        rw [flips_bit _ _ _ _ _ hi]
        by_cases g1 : f ≤ i <;> by_cases g2 : i < f + k <;> simp [g1, g2]
      rw [rb_xor] at h4
      have h5 : rb 0 (fun i => decide (f ≤ i) && (decide (i < f + k) && b.getLsbD (i - f))) (8 * (sealed x).length) = 0 := by
        have := congrArg (rb (~~~ 0) (bitAt (sealed x)) (8 * (sealed x).length) ^^^ ·) h4
        simpa [← BitVec.xor_assoc] using this
      obtain ⟨j, j1, j2, j3⟩ := turned_some _ _ _ _ ht
      have h6 := burst _ b f _ (fun i hi => ?_) h5 (f + j) j2
      · simp [j1, j3] at h6
      · by_cases g1 : f ≤ i
        · rcases hend with rfl | hend
          · by_cases g2 : i < f + 32
            · simp [g1, g2]
            · simp [g1, g2]
              exact BitVec.getLsbD_of_ge _ _ (by omega)
          · simp [g1, show i < f + k by omega]
        · simp [g1]

end Crc
end Go.Proofs.Ythbipankdbfdjaa
