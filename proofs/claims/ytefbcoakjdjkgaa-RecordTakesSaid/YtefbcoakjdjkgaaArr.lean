/- Blocks of one's own that hold values, known whole: local arrays. -/
import Derived.Test.YtefbcoakjdjkgaaHeap
import Derived.Deep.MidRow
import Derived.Laws.Rows
namespace Go.Own
open Go.RowKit

theorem size_alloc' (w : World) (o : Obj) : (w.alloc o).heap.size = w.heap.size + 1 := by simp

/-- a block of one's own with these cells -/
def AVals (b : Nat) (t : TypeId) (vs : List Value) : Asn := ABlk b (.cells vs.toArray t (0, 0))

section
variable {B : Nat} {w0 w : World} {Ps : List Asn} {b : Nat} {t : TypeId} {vs : List Value}

theorem St.cellV (h : St B w0 w Ps) (i : Nat) (hi : Ps[i]? = some (AVals b t vs)) (j : Nat) {v : Value} (hj : vs[j]? = some v) : w.cell? ⟨b, j, none⟩ = some v ∧ w.frozen? ⟨b, j, none⟩ = false := by
  have hb := h.block i hi
  exact ⟨cell_of_block hb (by simpa using hj), frozen_of_block hb⟩

theorem St.storeV (h : St B w0 w Ps) (i : Nat) (hi : Ps[i]? = some (AVals b t vs)) (j : Nat) (v : Value) : St B w0 (w.setCell ⟨b, j, none⟩ v) (Ps.set i (AVals b t (vs.set j v))) := by
  obtain ⟨S, hS, _, put⟩ := h.at i hi
  refine put S _ (AVals b t (vs.set j v)) ⟨?_, hS.2⟩ ((Step.refl S w).setCell (a := ⟨b, j, none⟩) (Or.inl ((hS.2 b).2 rfl)) _)
  rw [block_setCell hS.1]
  simp

theorem St.boxV (h : St B w0 w Ps) (t : TypeId) (vs : List Value) : St B w0 (w.alloc (.cells vs.toArray t)) (AVals w.heap.size t vs :: Ps) := h.box _

/-- all its cells are written -/
theorem St.setAll (i : Nat) : ∀ (r : List Value) (o : Nat) (w : World) (Ps : List Asn) (vs : List Value), St B w0 w Ps → Ps[i]? = some (AVals b t vs) → o + r.length = vs.length → St B w0 (w.setCells b o r) (Ps.set i (AVals b t (vs.take o ++ r)))
  | [], o, w, Ps, vs, h, hi, hl => by
    have e : vs.take o ++ [] = vs := by rw [List.append_nil, List.take_of_length_le (by simp at hl; omega)]
    rw [e]
    have : Ps.set i (AVals b t vs) = Ps := by
      apply List.ext_getElem?
      intro j
      by_cases hj : j = i
      · subst hj
        have hlt : j < Ps.length := (List.getElem?_eq_some_iff.1 hi).1
        rw [List.getElem?_set_self hlt, hi]
      · rw [List.getElem?_set_ne (Ne.symm hj)]
    rw [this]
    exact h
  | v :: r, o, w, Ps, vs, h, hi, hl => by
    have hlt : i < Ps.length := (List.getElem?_eq_some_iff.1 hi).1
    have h1 := h.storeV i hi o v
    have h2 := St.setAll i r (o + 1) _ _ (vs.set o v) h1 (by rw [List.getElem?_set_self hlt]) (by simp at hl ⊢; omega)
    rw [List.set_set] at h2
    have e : (vs.set o v).take (o + 1) ++ r = vs.take o ++ v :: r := by
      have ho : o < vs.length := by simp at hl; omega
      have e0 : (vs.set o v).take o = vs.take o := by
        apply List.ext_getElem?
        intro j
        by_cases hj : j < o
        · rw [List.getElem?_take_of_lt hj, List.getElem?_take_of_lt hj, List.getElem?_set_ne (by omega)]
        · rw [List.getElem?_eq_none (by simp; omega), List.getElem?_eq_none (by simp; omega)]
      rw [List.take_succ_eq_append_getElem (by simpa using ho), e0]
      simp
    rw [e] at h2
    exact h2

/-- the block whole, as the laws on rows want it -/
theorem St.rowV (h : St B w0 w Ps) (i : Nat) (hi : Ps[i]? = some (AVals b t vs)) : w.heap[b]? = some (.cells vs.toArray t (0, 0)) := h.block i hi
theorem St.thereV (h : St B w0 w Ps) (i : Nat) (hi : Ps[i]? = some (AVals b t vs)) {n : Nat} (hn : n ≤ vs.length) : w.there b 0 n := by
  intro j hj
  obtain ⟨h1, h2⟩ := h.cellV i hi j (v := vs[j]) (by simp [show j < vs.length by omega])
  rw [Nat.zero_add]
  exact ⟨by rw [h1]; rfl, h2⟩

/-- nothing that is there has turned -/
theorem St.later {w' : World} (h : St B w0 w Ps) (hb : Below w.heap.size w w') : St B w0 w' Ps :=
  h.quiet (T := fun _ => False) ⟨hb.os, hb.tape, hb.output, hb.size, fun k hk _ => hb.block k hk, fun _ h => h.elim⟩

/-- which block it is: apart from every older one -/
theorem St.ltV (h : St B w0 w Ps) (i : Nat) (hi : Ps[i]? = some (AVals b t vs)) : B ≤ b ∧ b < w.heap.size := by
  obtain ⟨S, hS, hB, _⟩ := h.at i hi
  exact ⟨hB b ((hS.2 b).2 rfl), lt_of_block hS.1⟩
end
end Go.Own
