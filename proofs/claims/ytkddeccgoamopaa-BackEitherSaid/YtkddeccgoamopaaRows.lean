/-
  No cell of these rows narrows 'for every input' (looked for: loops, veiled, ifaces, maps, wideKeys, modest, calm, conditions, laid).
  DERIVED. THE GIVEN ROWS OF THIS SEAT. 5 by the template 'for every input the law returns true; each argument reads behind the call as it read before'; 0 by the template 'total and deterministic' (their statements: YtkddeccgoamopaaTotals.lean).
  GIVEN WITH THE SEED: the statements are not yours to turn. If you find one false, say at which input.
  Laid BY PROGRAM, IN A SANDBOX (cutbox-rows.mjs): the forced cells as the released guide's own fill.sh prints them over the translation 469c9a47c4fed09f… (all of the seat's roots in one cut). By AI agents, Wed Nov 11 2026. No macro, syntax, notation, axiom, sorry.
-/
import Derived.Test.YtkddeccgoamopaaChecked
import GoSem.Claim
import GoSem.ClaimJoined
import GoSem.ClaimMapViews
import Derived.JoinedTies
import Derived.KernelRfl
namespace Go.Proofs.Ytkddeccgoamopaa
/- THE CELL 'sum', in the pinned program and in every row, IS THE sha256 OF THE DUMP (.gsa) THAT YtkddeccgoamopaaProg.lean LOADS. Nothing in Lean hashes anything: it is a label: what it is worth is what the hold of that sum in a sandbox is worth. -/
noncomputable def Try.pinned : Pinned := { name := "ytkddeccgoamopaa", sum := "469c9a47c4fed09f08c2e118308cdb42d1018aeb002e0aaaac61218fd93c5cb7", checked := Try.checked }
namespace Rows
def none {H : Type} : Left H := { results := [], args := [] }

/-- 'pumicelaw08.BackPlays': WHATEVER THE INPUT: true; the input reads as it did. -/
def backPlaysSpec : ChangeSpec := { name := "backPlays", fn := fun _ => fun
  | [d1, d2] => { results := [.lit (.bool true)], args := [d1, d2] }
  | _ => none }
def backPlaysRow : OpenClaim := { program := "ytkddeccgoamopaa", sum := "469c9a47c4fed09f08c2e118308cdb42d1018aeb002e0aaaac61218fd93c5cb7", func := "pumice/pumicelaw08.BackPlays", spec := "backPlays", unfollowed := true, recurses := true, apart := false }
def BackPlaysSaid : Prop := backPlaysRow.holds Try.pinned (OpenSpec.ofChange backPlaysSpec)

/-- ITS FALSE NEIGHBOUR: 'it returns false'. Refute it at one input. -/
def backPlaysWrong : ChangeSpec := { name := "backPlays", fn := fun _ => fun
  | [d1, d2] => { results := [.lit (.bool false)], args := [d1, d2] }
  | _ => none }
def BackPlaysWrongFalsely : Prop := backPlaysRow.holds Try.pinned (OpenSpec.ofChange backPlaysWrong)

/-- 'pumicelaw08.BackEither': WHATEVER THE INPUT: true; the input reads as it did. -/
def backEitherSpec : ChangeSpec := { name := "backEither", fn := fun _ => fun
  | [d1, d2, d3, d4] => { results := [.lit (.bool true)], args := [d1, d2, d3, d4] }
  | _ => none }
def backEitherRow : OpenClaim := { program := "ytkddeccgoamopaa", sum := "469c9a47c4fed09f08c2e118308cdb42d1018aeb002e0aaaac61218fd93c5cb7", func := "pumice/pumicelaw08.BackEither", spec := "backEither", unfollowed := true, recurses := true, apart := false }
def BackEitherSaid : Prop := backEitherRow.holds Try.pinned (OpenSpec.ofChange backEitherSpec)

/-- ITS FALSE NEIGHBOUR: 'it returns false'. Refute it at one input. -/
def backEitherWrong : ChangeSpec := { name := "backEither", fn := fun _ => fun
  | [d1, d2, d3, d4] => { results := [.lit (.bool false)], args := [d1, d2, d3, d4] }
  | _ => none }
def BackEitherWrongFalsely : Prop := backEitherRow.holds Try.pinned (OpenSpec.ofChange backEitherWrong)

/-- 'pumicelaw08.BackCuts': WHATEVER THE INPUT: true; the input reads as it did. -/
def backCutsSpec : ChangeSpec := { name := "backCuts", fn := fun _ => fun
  | [d1, d2] => { results := [.lit (.bool true)], args := [d1, d2] }
  | _ => none }
def backCutsRow : OpenClaim := { program := "ytkddeccgoamopaa", sum := "469c9a47c4fed09f08c2e118308cdb42d1018aeb002e0aaaac61218fd93c5cb7", func := "pumice/pumicelaw08.BackCuts", spec := "backCuts", unfollowed := true, recurses := true, apart := false }
def BackCutsSaid : Prop := backCutsRow.holds Try.pinned (OpenSpec.ofChange backCutsSpec)

/-- ITS FALSE NEIGHBOUR: 'it returns false'. Refute it at one input. -/
def backCutsWrong : ChangeSpec := { name := "backCuts", fn := fun _ => fun
  | [d1, d2] => { results := [.lit (.bool false)], args := [d1, d2] }
  | _ => none }
def BackCutsWrongFalsely : Prop := backCutsRow.holds Try.pinned (OpenSpec.ofChange backCutsWrong)

/-- 'pumicelaw08.BackNil': WHATEVER THE INPUT: true; the input reads as it did. -/
def backNilSpec : ChangeSpec := { name := "backNil", fn := fun _ => fun
  | [d] => { results := [.lit (.bool true)], args := [d] }
  | _ => none }
def backNilRow : OpenClaim := { program := "ytkddeccgoamopaa", sum := "469c9a47c4fed09f08c2e118308cdb42d1018aeb002e0aaaac61218fd93c5cb7", func := "pumice/pumicelaw08.BackNil", spec := "backNil", unfollowed := true, recurses := true, apart := false }
def BackNilSaid : Prop := backNilRow.holds Try.pinned (OpenSpec.ofChange backNilSpec)

/-- ITS FALSE NEIGHBOUR: 'it returns false'. Refute it at one input. -/
def backNilWrong : ChangeSpec := { name := "backNil", fn := fun _ => fun
  | [d] => { results := [.lit (.bool false)], args := [d] }
  | _ => none }
def BackNilWrongFalsely : Prop := backNilRow.holds Try.pinned (OpenSpec.ofChange backNilWrong)

/-- 'pumicelaw08.BackLast': WHATEVER THE INPUT: true; the input reads as it did. -/
def backLastSpec : ChangeSpec := { name := "backLast", fn := fun _ => fun
  | [d] => { results := [.lit (.bool true)], args := [d] }
  | _ => none }
def backLastRow : OpenClaim := { program := "ytkddeccgoamopaa", sum := "469c9a47c4fed09f08c2e118308cdb42d1018aeb002e0aaaac61218fd93c5cb7", func := "pumice/pumicelaw08.BackLast", spec := "backLast", unfollowed := true, recurses := true, apart := false }
def BackLastSaid : Prop := backLastRow.holds Try.pinned (OpenSpec.ofChange backLastSpec)

/-- ITS FALSE NEIGHBOUR: 'it returns false'. Refute it at one input. -/
def backLastWrong : ChangeSpec := { name := "backLast", fn := fun _ => fun
  | [d] => { results := [.lit (.bool false)], args := [d] }
  | _ => none }
def BackLastWrongFalsely : Prop := backLastRow.holds Try.pinned (OpenSpec.ofChange backLastWrong)

/- THE SECOND FORM. 'bulk': how many values and letters a reading holds, each counted each time it is reached (what is shared counts as often as it is met; a slice's spare places count too). A statement '..UptoSaid' is the law's where the arguments, and the package variables that the reading takes, are together of bulk at most 1048576: NARROWER than '..Said'. Prove '..Said' where nothing that the law and all that it calls make is longer than what came in: it says more and counts as full. Else prove '..UptoSaid'. A law counts once. -/
mutual
def uptoBulk {H : Type} : DataW H → Nat
  | .lit (.string bytes) => bytes.length + 1
  | .lit _ => 1
  | .nil => 1
  | .ptr d => uptoBulk d + 1
  | .slice elems spare => uptoBulkAll elems + uptoBulkAll spare + 1
  | .agg parts => uptoBulkAll parts + 1
  | .iface _ d => uptoBulk d + 1
  | .map entries => uptoBulkEntries entries + 1
  | .held _ => 1
def uptoBulkAll {H : Type} : List (DataW H) → Nat
  | [] => 0
  | d :: r => uptoBulk d + uptoBulkAll r
def uptoBulkEntries {H : Type} : List (Lit × DataW H) → Nat
  | [] => 0
  | x :: r => uptoBulkEntry x + uptoBulkEntries r
def uptoBulkEntry {H : Type} : Lit × DataW H → Nat
  | (.string bytes, d) => bytes.length + uptoBulk d + 1
  | (_, d) => uptoBulk d + 1
 end
def uptoSmall : (H : Type) → List (DataW H) → Bool := fun _ ds => decide (uptoBulkAll ds ≤ 1048576)
def OpenSpec.upto (s : _root_.Go.ChangeSpec) : _root_.Go.OpenSpec := { _root_.Go.OpenSpec.ofChange s with cond := some uptoSmall }

/-- 'pumicelaw08.BackPlays', WHERE WHAT IT READS IS OF BULK AT MOST 1048576: true; the input reads as it did. -/
def backPlaysUptoRow : OpenClaim := { program := "ytkddeccgoamopaa", sum := "469c9a47c4fed09f08c2e118308cdb42d1018aeb002e0aaaac61218fd93c5cb7", func := "pumice/pumicelaw08.BackPlays", spec := "backPlays", unfollowed := true, recurses := true, apart := false, narrowed := true }
def BackPlaysUptoSaid : Prop := backPlaysUptoRow.holds Try.pinned (OpenSpec.upto backPlaysSpec)

/-- 'pumicelaw08.BackEither', WHERE WHAT IT READS IS OF BULK AT MOST 1048576: true; the input reads as it did. -/
def backEitherUptoRow : OpenClaim := { program := "ytkddeccgoamopaa", sum := "469c9a47c4fed09f08c2e118308cdb42d1018aeb002e0aaaac61218fd93c5cb7", func := "pumice/pumicelaw08.BackEither", spec := "backEither", unfollowed := true, recurses := true, apart := false, narrowed := true }
def BackEitherUptoSaid : Prop := backEitherUptoRow.holds Try.pinned (OpenSpec.upto backEitherSpec)

/-- 'pumicelaw08.BackCuts', WHERE WHAT IT READS IS OF BULK AT MOST 1048576: true; the input reads as it did. -/
def backCutsUptoRow : OpenClaim := { program := "ytkddeccgoamopaa", sum := "469c9a47c4fed09f08c2e118308cdb42d1018aeb002e0aaaac61218fd93c5cb7", func := "pumice/pumicelaw08.BackCuts", spec := "backCuts", unfollowed := true, recurses := true, apart := false, narrowed := true }
def BackCutsUptoSaid : Prop := backCutsUptoRow.holds Try.pinned (OpenSpec.upto backCutsSpec)

/-- 'pumicelaw08.BackNil', WHERE WHAT IT READS IS OF BULK AT MOST 1048576: true; the input reads as it did. -/
def backNilUptoRow : OpenClaim := { program := "ytkddeccgoamopaa", sum := "469c9a47c4fed09f08c2e118308cdb42d1018aeb002e0aaaac61218fd93c5cb7", func := "pumice/pumicelaw08.BackNil", spec := "backNil", unfollowed := true, recurses := true, apart := false, narrowed := true }
def BackNilUptoSaid : Prop := backNilUptoRow.holds Try.pinned (OpenSpec.upto backNilSpec)

/-- 'pumicelaw08.BackLast', WHERE WHAT IT READS IS OF BULK AT MOST 1048576: true; the input reads as it did. -/
def backLastUptoRow : OpenClaim := { program := "ytkddeccgoamopaa", sum := "469c9a47c4fed09f08c2e118308cdb42d1018aeb002e0aaaac61218fd93c5cb7", func := "pumice/pumicelaw08.BackLast", spec := "backLast", unfollowed := true, recurses := true, apart := false, narrowed := true }
def BackLastUptoSaid : Prop := backLastUptoRow.holds Try.pinned (OpenSpec.upto backLastSpec)

end Rows
end Go.Proofs.Ytkddeccgoamopaa
