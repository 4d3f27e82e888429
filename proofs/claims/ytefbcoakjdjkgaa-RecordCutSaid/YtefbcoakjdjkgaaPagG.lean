/- Layer 9: lists of bytes that a call may be given; the document's Split. -/
import Derived.Test.YtefbcoakjdjkgaaPagT
import Derived.Test.YtefbcoakjdjkgaaGri
namespace Go.Proofs.Ytefbcoakjdjkgaa
open Go.RowKit Go.Own
namespace Byt
/-- a list of bytes that a call may be given -/
structure GivenL (w : World) (ao : Option Addr) (n cap : Nat) (L : List (List UInt8)) : Prop where
  size : L.length = n
  room : n ≤ cap ∧ cap ≤ maxLen
  nil : ao = none → cap = 0
  rows : ∀ j, j < n → ∃ b o aj cj, ao = some ⟨b, o, none⟩ ∧ b < w.heap.size ∧ w.cell? ⟨b, o + j, none⟩ = some (.slice aj (L.getD j []).length cj) ∧ Given w aj (L.getD j []).length cj (L.getD j [])
theorem GivenL.later {w w' : World} {ao : Option Addr} {n cap : Nat} {L : List (List UInt8)} (h : GivenL w ao n cap L) (g : Below w.heap.size w w') : GivenL w' ao n cap L :=
  ⟨h.size, h.room, h.nil, fun j hj => by
    obtain ⟨b, o, aj, cj, h1, h2, h3, h4⟩ := h.rows j hj
    exact ⟨b, o, aj, cj, h1, Nat.lt_of_lt_of_le h2 g.size, cellLater h3 g, h4.later g⟩⟩
/-- a table of bytes of one's own may be given -/
theorem givenL_own {B : Nat} {w0 w : World} {Ps : List Asn} {v : Value} {L : List (List UInt8)} (H : Own.St B w0 w (AGrid 28 5 byteV v L :: Ps)) : ∃ ao cap, v = .slice ao L.length cap ∧ GivenL w ao L.length cap L := by
  obtain ⟨rs, hl, h⟩ := H.gridOpen
  obtain ⟨ao, cap, rfl⟩ := h.rowForm 0 rfl
  obtain ⟨_, h1, h2, h3⟩ := h.rowLen 0 rfl
  refine ⟨ao, cap, rfl, rfl, ⟨h1, h2⟩, fun e => (h3 e).2, fun j hj => ?_⟩
  obtain ⟨g, rfl, ⟨u, hu, hc⟩, _, _⟩ := h.rowAt 0 rfl j (by omega)
  have hr : rs[j]? = some rs[j] := List.getElem?_eq_getElem (by omega)
  have hL : L[j]? = some L[j] := List.getElem?_eq_getElem hj
  rw [zip_at _ _ _ _ _ _ hr hL] at hu
  cases hu
  have hz := zip_at (gRow 5 byteV) rs L j _ _ hr hL
  have h4 : (gParts 28 5 byteV (.slice (some ⟨g, 0, none⟩) L.length cap) rs L ++ Ps)[j + 1]? = some (AB rs[j].1 L[j].length rs[j].2 L[j]) := by
    unfold gParts
    rw [List.cons_append, List.getElem?_cons_succ, List.getElem?_append_left (List.getElem?_eq_some_iff.1 hz).1]
    exact hz
  have e : L.getD j [] = L[j] := by rw [List.getD_eq_getElem?_getD, hL]; rfl
  rw [e]
  exact ⟨g, 0, rs[j].1, rs[j].2, rfl, World.block_lt_of_cell? w _ hc, by rw [Nat.zero_add]; exact hc, given_own h (j + 1) h4⟩
end Byt
namespace Pag
open Go.PagM Byt
def SplitDone (x : List PagM.Bs × Nat) (w : World) (e : Ending) (w' : World) : Prop := ∃ ao cap, e = .returned (.tuple #[.slice ao x.1.length cap, errP x.2]) ∧ GivenL w' ao x.1.length cap x.1 ∧ Below w.heap.size w w'
theorem split_err (x : List PagM.Bs × Nat) (k : Nat) (hx : x = ([], k)) (w : World) : SplitDone x w (.returned (.tuple #[.slice none 0 0, errP k])) w := by
  subst hx
  exact ⟨none, 0, rfl, ⟨rfl, ⟨Nat.le_refl _, Nat.zero_le _⟩, fun _ => rfl, fun j hj => absurd hj (Nat.not_lt_zero j)⟩, Below.refl _ _⟩
def boolN : Value → Nat
  | .bool true => 1
  | _ => 0
/-- what is still to come -/
def togo (kind : UInt8) (first : Bool) (b : PagM.Bs) : List PagM.Bs := if first = true ∨ 0 < b.length then rest kind first b else []
theorem togo_step (kind : UInt8) (first : Bool) (b : PagM.Bs) (h : first = true ∨ 0 < b.length) : togo kind first b = laid ⟨kind, first, decide (b.length ≤ 125), b.take 125⟩ :: togo kind false (b.drop 125) := by
  unfold togo
  rw [if_pos h, rest_step]
  congr 1
  by_cases hl : b.length ≤ 125
  · rw [if_pos hl, if_neg (by simp; omega)]
  · rw [if_neg hl, if_pos (by simp; omega)]
end Pag
end Go.Proofs.Ytefbcoakjdjkgaa
