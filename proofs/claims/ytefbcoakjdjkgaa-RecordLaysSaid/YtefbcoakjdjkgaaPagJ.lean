/- Layer 9: the document's Join. -/
import Derived.Test.YtefbcoakjdjkgaaPagG
namespace Go.Proofs.Ytefbcoakjdjkgaa
open Go.RowKit Go.Own
namespace Pag
open Go.PagM Byt
def JoinDone (x : (UInt8 × PagM.Bs × Nat) × Nat) (w : World) (e : Ending) (w' : World) : Prop := ∃ ao cap, e = .returned (.tuple #[.int .u8 (x.1.1.toNat : Int), .slice ao x.1.2.1.length cap, .int .i64 (x.1.2.2 : Int), errP x.2]) ∧ Given w' ao x.1.2.1.length cap x.1.2.1 ∧ Below w.heap.size w w'
theorem join_err (x : (UInt8 × PagM.Bs × Nat) × Nat) (hx : x = ((0, [], 0), 90)) {w w' : World} (h : Below w.heap.size w w') : JoinDone x w (.returned (.tuple #[.int .u8 0, .slice none 0 0, .int .i64 0, errP 90])) w' := by
  subst hx
  exact ⟨none, 0, rfl, ⟨.inl rfl, rfl, ⟨Nat.le_refl _, Nat.zero_le _⟩, fun _ => rfl⟩, h⟩
theorem joinF_at (i : Nat) (k : UInt8) (all : PagM.Bs) (L : List PagM.Bs) (h : i < L.length) (h64 : i < 64) : joinF i k all (L.drop i) = if !isPage (L.getD i []) || (guess (L.getD i [])).first != decide (i = 0) || (decide (0 < i) && (guess (L.getD i [])).kind != k) || (!(guess (L.getD i [])).last && decide ((guess (L.getD i [])).data.length ≠ 125)) then ((0, [], 0), 90)
    else if (guess (L.getD i [])).last then (((guess (L.getD i [])).kind, all ++ (guess (L.getD i [])).data, i + 1), 0)
    else joinF (i + 1) (guess (L.getD i [])).kind (all ++ (guess (L.getD i [])).data) (L.drop (i + 1)) := by
  rw [List.drop_eq_getElem_cons h, joinF, if_neg (by omega)]
  have e : L.getD i [] = L[i] := by rw [List.getD_eq_getElem?_getD, List.getElem?_eq_getElem h]; rfl
  rw [e]
end Pag
end Go.Proofs.Ytefbcoakjdjkgaa
