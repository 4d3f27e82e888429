/- Layer 7: what the laws need of acts: cuts, wear. -/
import Derived.Test.YtepllhfofhehaaaFlaQ
namespace Go.Proofs.Ytepllhfofhehaaa
open Go.RowKit Go.Own
namespace Fla
open Go.FlaM Byt

/-- what an operation comes to -/
inductive Op7 (s : FS) : FS × Nat → Prop
  | arg (e : Nat) : e = 1 ∨ e = 70 → Op7 s (s, e)
  | dead : s.off = true → Op7 s (s, 6)
  | trip : (trip s).off = true → Op7 s (trip s, 6)
  | ok (s1 : FS) : (trip s).off = false → s1.off = (trip s).off → s1.left = (trip s).left → s1.n = s.n → Op7 s (okd s1, 0)
theorem op_program (s : FS) (seg page : Int) (b : Bs) : Op7 s (progF s seg page b) := by
  unfold progF
  split
  · exact .arg 1 (.inl rfl)
  split
  · rename_i h; exact .dead h
  split
  · exact .arg 70 (.inr rfl)
  split
  · rename_i h; exact .trip h
  · rename_i h; exact .ok _ (by simpa using h) rfl rfl (trip_safe s).2.2.2.1
theorem op_erase (s : FS) (seg : Int) : Op7 s (erase s seg) := by
  unfold erase
  split
  · exact .arg 1 (.inl rfl)
  split
  · rename_i h; exact .trip h
  · rename_i h; exact .ok _ (by simpa using h) rfl rfl (trip_safe s).2.2.2.1
theorem op_barrier (s : FS) : Op7 s (barrier s) := by
  unfold barrier
  split
  · rename_i h; exact .trip h
  · rename_i h; exact .ok _ (by simpa using h) rfl rfl (trip_safe s).2.2.2.1
theorem op_act (s : FS) (a : ActD) (h : a.kind.toNat % 6 ≤ 2) : Op7 s (doAct s a) := by
  have h3 : a.kind.toNat % 6 = 0 ∨ a.kind.toNat % 6 = 1 ∨ a.kind.toNat % 6 = 2 := by omega
  unfold doAct
  rcases h3 with h | h | h <;> rw [h]
  · exact op_program s _ _ _
  · exact op_erase s _
  · exact op_barrier s

def CutInv (s : FS) (n : Nat) : Prop := (s.off = false ∧ s.left = (n : Int) - (s.n : Int) ∧ s.n ≤ n) ∨ (s.off = true ∧ s.n = n ∧ s.left = -1)
theorem cuts_step {s : FS} {n : Nat} {r : FS × Nat} (hi : CutInv s n) (h : Op7 s r) :
    CutInv r.1 n ∧ (r.2 = 0 ↔ r.1.n = s.n + 1) ∧ r.1.n ≤ n ∧ (r.2 = 6 → r.1.n = n ∧ r.1.off = true) := by
  have ht : trip s = if s.left = 0 then { s with off := true, left := -1 } else s := rfl
  cases h with
  | arg e he =>
    refine ⟨hi, ⟨fun h => ?_, fun h => ?_⟩, ?_, fun h => ?_⟩
    · have h' : e = 0 := h; omega
    · have h' : s.n = s.n + 1 := h; omega
    · show s.n ≤ n; rcases hi with h | h <;> omega
    · have h' : e = 6 := h; omega
  | dead hd =>
    rcases hi with ⟨h1, _⟩ | ⟨h1, h2, h3⟩
    · rw [h1] at hd; cases hd
    · refine ⟨.inr ⟨h1, h2, h3⟩, ⟨(fun h => by cases h), fun h => ?_⟩, Nat.le_of_eq h2, fun _ => ⟨h2, h1⟩⟩
      have h' : s.n = s.n + 1 := h; omega
  | trip hd =>
    have hn : (trip s).n = s.n := (trip_safe s).2.2.2.1
    rcases hi with ⟨h1, h2, h3⟩ | ⟨h1, h2, h3⟩
    · by_cases hl : s.left = 0
      · rw [if_pos hl] at ht
        have hsn : s.n = n := by omega
        refine ⟨.inr ⟨hd, by rw [hn]; exact hsn, by rw [ht]⟩, ⟨(fun h => by cases h), fun h => ?_⟩, by rw [hn]; exact h3, fun _ => ⟨by rw [hn]; exact hsn, hd⟩⟩
        have h' : (trip s).n = s.n + 1 := h; omega
      · rw [if_neg hl] at ht
        rw [ht, h1] at hd; cases hd
    · have hl : ¬ s.left = 0 := by omega
      rw [if_neg hl] at ht
      rw [ht]
      refine ⟨.inr ⟨h1, h2, h3⟩, ⟨(fun h => by cases h), fun h => ?_⟩, Nat.le_of_eq h2, fun _ => ⟨h2, h1⟩⟩
      have h' : s.n = s.n + 1 := h; omega
  | ok s1 hd ho hl hn =>
    rcases hi with ⟨h1, h2, h3⟩ | ⟨h1, h2, h3⟩
    · by_cases hz : s.left = 0
      · rw [if_pos hz] at ht
        rw [ht] at hd; cases hd
      · rw [if_neg hz] at ht
        have e1 : (okd s1).n = s.n + 1 := by show s1.n + 1 = _; rw [hn]
        have e2 : s1.left = s.left := by rw [hl, ht]
        have e3 : (okd s1).left = s.left - 1 := by
          show (if 0 < s1.left then s1.left - 1 else s1.left) = _
          rw [e2, if_pos (by omega)]
        have e4 : (okd s1).off = false := by show s1.off = false; rw [ho]; exact hd
        refine ⟨.inl ⟨e4, ?_, ?_⟩, ⟨fun _ => e1, fun _ => rfl⟩, ?_, fun h => by cases h⟩
        · rw [e3, e1]; omega
        · rw [e1]; omega
        · show (okd s1).n ≤ n
          rw [e1]; omega
    · have hz : ¬ s.left = 0 := by omega
      rw [if_neg hz] at ht
      rw [ht, h1] at hd; cases hd
theorem wear_trip (s : FS) (i : Int) : wearOf (trip s) i = wearOf s i := by unfold wearOf; rw [(trip_safe s).2.2.1]
/-- what is refused wears nothing -/
theorem wear_same {s : FS} {r : FS × Nat} (h : Op7 s r) (hr : r.2 ≠ 0) (i : Int) : wearOf r.1 i = wearOf s i := by
  cases h with
  | arg e he => rfl
  | dead hd => rfl
  | trip hd => exact wear_trip s i
  | ok => exact absurd rfl hr
end Fla
end Go.Proofs.Ytepllhfofhehaaa
