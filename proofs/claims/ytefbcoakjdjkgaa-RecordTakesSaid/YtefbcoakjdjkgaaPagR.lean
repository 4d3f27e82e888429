/- Layer 9: values; the document's answer: Lay, Take. -/
import Derived.Test.YtefbcoakjdjkgaaPagM
import Derived.Test.YtefbcoakjdjkgaaCpy
import Derived.Test.YtefbcoakjdjkgaaStrS
import Derived.BigRegion
import Derived.BigQuiet
import Derived.Deep.QuietTactic
import Derived.Lib.Hide
import Derived.Laws.Rows
namespace Go.Proofs.Ytefbcoakjdjkgaa
open Go.RowKit Go.Own
namespace Pag
open Go.PagM Byt

abbrev errP (n : Nat) : Value := .int .i64 (n : Int)
/-- a frame as a value -/
abbrev frV (k : Nat) (a z : Bool) (d : Value) : Value := .agg #[.int .u8 (k : Int), .bool a, .bool z, d]
abbrev frC (k : Nat) (a z : Bool) (d : Value) : Array Value := #[.int .u8 (k : Int), .bool a, .bool z, d]
/-- an answer of Lay -/
def LayDone (x : PagM.Bs × Nat) (w : World) (e : Ending) (w' : World) : Prop := ∃ ao cap, e = .returned (.tuple #[.slice ao x.1.length cap, errP x.2]) ∧ Given w' ao x.1.length cap x.1 ∧ Below w.heap.size w w'
/-- .. and its bytes are one's own -/
def LayNew (x : PagM.Bs × Nat) (w : World) (e : Ending) (w' : World) : Prop := ∃ ao cap, e = .returned (.tuple #[.slice ao x.1.length cap, errP x.2]) ∧ Own.St w.heap.size w w' [AB ao x.1.length cap x.1]
theorem LayNew.done {x : PagM.Bs × Nat} {w : World} {e : Ending} {w' : World} (h : LayNew x w e w') : LayDone x w e w' := by
  obtain ⟨ao, cap, he, h⟩ := h
  exact ⟨ao, cap, he, given_own h 0 rfl, h.below⟩
theorem lay_err (x : PagM.Bs × Nat) (k : Nat) (hx : x = ([], k)) {w w' : World} (h : Own.St w.heap.size w w' []) : LayNew x w (.returned (.tuple #[.slice none 0 0, errP k])) w' := by
  subst hx
  exact ⟨none, 0, rfl, ab_nil h⟩

end Pag
end Go.Proofs.Ytefbcoakjdjkgaa
