/- Layer 9: the document's Take. -/
import Derived.Test.YtefbcoakjdjkgaaRes
import Derived.Test.YtefbcoakjdjkgaaPagR
import Derived.Test.YtefbcoakjdjkgaaLaxH
namespace Go.Proofs.Ytefbcoakjdjkgaa
open Go.RowKit Go.Own
namespace Pag
open Go.PagM Byt
/-- an answer of Take -/
def TakeDone (x : Frm × Nat) (w : World) (e : Ending) (w' : World) : Prop := ∃ ao cap, e = .returned (.tuple #[frV x.1.kind.toNat x.1.first x.1.last (.slice ao x.1.data.length cap), errP x.2]) ∧ Given w' ao x.1.data.length cap x.1.data ∧ Below w.heap.size w w'
/-- .. and its bytes are a part of those that came in -/
def TakeSub (a0 : Option Addr) (p : PagM.Bs) (x : Frm × Nat) (w : World) (e : Ending) (w' : World) : Prop := ∃ ao cap, e = .returned (.tuple #[frV x.1.kind.toNat x.1.first x.1.last (.slice ao x.1.data.length cap), errP x.2]) ∧ Given w' ao x.1.data.length cap x.1.data ∧ (∀ D, View w D a0 p → View w' D ao x.1.data) ∧ Below w.heap.size w w'
theorem take_err (a0 : Option Addr) (p : PagM.Bs) (x : Frm × Nat) (hx : x = (zeroF, 90)) {w w' : World} (h : Below w.heap.size w w') : TakeSub a0 p x w (.returned (.tuple #[.agg #[.int .u8 0, .bool false, .bool false, .slice none 0 0], errP 90])) w' := by
  subst hx
  exact ⟨none, 0, rfl, ⟨.inl rfl, rfl, ⟨Nat.le_refl _, Nat.zero_le _⟩, fun _ => rfl⟩, fun _ _ => .inl rfl, h⟩
end Pag
end Go.Proofs.Ytefbcoakjdjkgaa
