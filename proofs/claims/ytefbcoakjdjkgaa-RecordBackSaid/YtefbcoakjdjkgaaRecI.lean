/- Layer 10: what the laws' arguments are in memory; the walks over them. -/
import Derived.Test.YtefbcoakjdjkgaaLawRec
import Derived.Test.YtefbcoakjdjkgaaRecJ
namespace Go.Proofs.Ytefbcoakjdjkgaa
open Go.RowKit Go.Own
namespace Rec
open Go.RecM Byt
theorem in_lays (vs : Array Value) (n : Nte) {w : World} (h : inNte n w.heap.size w vs.toList) (K : Kept w) : Calls Try.prog 3 #[.agg vs] w (RetYes w) := by
  obtain ⟨ad, cd, e, g, f⟩ := nte_given h
  rw [e]
  exact walk_lays n f ad _ cd g K
theorem in_back (vs : Array Value) (n : Nte) {w : World} (h : inNte n w.heap.size w vs.toList) (K : Kept w) : Calls Try.prog 5 #[.agg vs] w (RetYes w) := by
  obtain ⟨ad, cd, e, g, f⟩ := nte_given h
  rw [e]
  exact walk_back n f ad _ cd g K
theorem in_long (vs : Array Value) (n : Nte) {w : World} (h : inNte n w.heap.size w vs.toList) (K : Kept w) : Calls Try.prog 8 #[.agg vs] w (RetYes w) := by
  obtain ⟨ad, cd, e, g, f⟩ := nte_given h
  rw [e]
  exact walk_long n f ad _ cd g K
theorem in_takes (ao : Option Addr) (n cap : Nat) (p : RecM.Bs) {w : World} (h : inBytes p w.heap.size w [.slice ao n cap]) (K : Kept w) : Calls Try.prog 4 #[.slice ao n cap] w (RetYes w) := walk_takes ao n cap p (in_given h) K
theorem in_once (ao : Option Addr) (n cap : Nat) (p : RecM.Bs) {w : World} (h : inBytes p w.heap.size w [.slice ao n cap]) (K : Kept w) : Calls Try.prog 6 #[.slice ao n cap] w (RetYes w) := walk_once ao n cap p (in_given h) K
theorem in_cut (vs : Array Value) (n : Nte) (c : Int) (hc : (Lit.int .u16 c).wf = true) (ab : Option Addr) (nb cb : Nat) (q : RecM.Bs) {w : World} (h : inNte n w.heap.size w vs.toList) (h2 : inBytes q w.heap.size w [.slice ab nb cb]) (K : Kept w) : Calls Try.prog 7 #[.agg vs, .int .u16 c, .slice ab nb cb] w (RetYes w) := by
  obtain ⟨ad, cd, e, g, f⟩ := nte_given h
  obtain ⟨u, rfl, hu⟩ := u16_nat hc
  rw [e]
  exact walk_cut n f ad _ cd u hu ab nb cb q g (in_given h2) K
end Rec
end Go.Proofs.Ytefbcoakjdjkgaa
