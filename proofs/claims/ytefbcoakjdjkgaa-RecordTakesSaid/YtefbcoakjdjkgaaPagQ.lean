/- Layer 9: what the landed package page keeps (a premise of the walks: 'Kept'; to be proved of the landed code); erased, same, few; the examples. -/
import Derived.Test.YtefbcoakjdjkgaaPagJ
namespace Go.PagM
/-- how many pages few lets be -/
def fewF : Nat → List Bs → Nat
  | _, [] => 0
  | i, p :: l => if 70 ≤ i ∨ 200 < p.length then 0 else fewF (i + 1) l + 1
def fewN (l : List Bs) : Nat := fewF 0 l
theorem fewF_le : ∀ (l : List Bs) (i : Nat), fewF i l ≤ l.length
  | [], _ => Nat.le_refl _
  | p :: l, i => by
    unfold fewF
    split
    · exact Nat.zero_le _
    · have := fewF_le l (i + 1); simp; omega
theorem fewF_most : ∀ (l : List Bs) (i : Nat), i ≤ 70 → fewF i l ≤ 70 - i
  | [], i, h => by unfold fewF; omega
  | p :: l, i, h => by
    unfold fewF
    split
    · omega
    · rename_i hc
      have hi : i < 70 := by omega
      have := fewF_most l (i + 1) (by omega)
      omega
theorem fewF_short : ∀ (l : List Bs) (i : Nat), ∀ p ∈ l.take (fewF i l), p.length ≤ 200
  | [], _, p, h => by simp at h
  | q :: l, i, p, h => by
    unfold fewF at h
    split at h
    · simp at h
    · rename_i hc
      rw [List.take_succ_cons] at h
      rcases List.mem_cons.1 h with rfl | h
      · omega
      · exact fewF_short l (i + 1) p h
end Go.PagM
namespace Go.Proofs.Ytefbcoakjdjkgaa
open Go.RowKit Go.Own
namespace Pag
open Go.PagM Byt
def RetYes (w : World) (e : Ending) (w' : World) : Prop := e = .returned (.bool true) ∧ Below w.heap.size w w'
/-- an answer of Take in memory of its own -/
def TakeNew (x : Frm × Nat) (w : World) (e : Ending) (w' : World) : Prop := ∃ ao cap, e = .returned (.tuple #[frV x.1.kind.toNat x.1.first x.1.last (.slice ao x.1.data.length cap), errP x.2]) ∧ Given w' ao x.1.data.length cap x.1.data ∧ View w' (fun k => w.heap.size ≤ k) ao x.1.data ∧ Below w.heap.size w w'
structure Kept (W : World) where
def blankP : PagM.Bs := List.replicate 128 255
/-- are both frames -/
def sameB (f g : Frm) : Bool := decide (f.kind = g.kind) && (f.first == g.first) && (f.last == g.last) && decide (f.data = g.data)
theorem sameB_self (f : Frm) : sameB f f = true := by unfold sameB; simp
theorem givenL_take {w : World} {ao : Option Addr} {n cap : Nat} {L : List PagM.Bs} (h : GivenL w ao n cap L) (m : Nat) (hm : m ≤ n) : GivenL w ao m cap (L.take m) :=
  ⟨by rw [List.length_take, h.size]; omega, ⟨Nat.le_trans hm h.room.1, h.room.2⟩, h.nil, fun j hj => by
    obtain ⟨b, o, aj, cj, h1, h2, h3, h4⟩ := h.rows j (by omega)
    have e : (L.take m).getD j [] = L.getD j [] := by rw [List.getD_eq_getElem?_getD, List.getElem?_take_of_lt hj, ← List.getD_eq_getElem?_getD]
    rw [e]
    exact ⟨b, o, aj, cj, h1, h2, h3, h4⟩⟩
end Pag
end Go.Proofs.Ytefbcoakjdjkgaa
