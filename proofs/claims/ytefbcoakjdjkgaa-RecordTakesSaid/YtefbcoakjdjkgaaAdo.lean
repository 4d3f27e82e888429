/- Bytes that lie anywhere in blocks of one's own. -/
import Derived.Test.YtefbcoakjdjkgaaCpy
import Derived.Test.YtefbcoakjdjkgaaLaxB
namespace Go.Own
open Go.RowKit
/-- bytes that lie anywhere in blocks of one's own -/
def AView (ao : Option Addr) (l : List UInt8) : Asn where
  holds S w := View w S ao l ∧ ∀ k, S k → k < w.heap.size
  keep h g hd := ⟨h.1.step g hd, fun k hk => Nat.lt_of_lt_of_le (h.2 k hk) g.size⟩
  lt h := h.2
theorem St.adoptView {B : Nat} {w0 w1 w2 : World} {Ps : List Asn} (H : St B w0 w1 Ps) (g : Below w1.heap.size w1 w2) {ao : Option Addr} {l : List UInt8} (h : View w2 (fun k => w1.heap.size ≤ k) ao l) : St B w0 w2 (AView ao l :: Ps) :=
  H.adopt g (T := fun k => w1.heap.size ≤ k ∧ k < w2.heap.size) (AView ao l) ⟨h.live, fun _ hk => hk.2⟩ (fun _ hk => hk.1)
theorem St.viewAt {B : Nat} {w0 w : World} {Ps : List Asn} (H : St B w0 w Ps) (i : Nat) {ao : Option Addr} {l : List UInt8} (hi : Ps[i]? = some (AView ao l)) : View w (fun k => k < w.heap.size) ao l := by
  obtain ⟨S, hS, _⟩ := H.at i hi
  exact hS.1.mono hS.2
end Go.Own
