/-
  No cell of these rows narrows 'for every input' (looked for: loops, veiled, ifaces, maps, wideKeys, modest, calm, conditions, laid).
  DERIVED. THE GIVEN ROWS OF THIS SEAT. 4 by the template 'for every input the law returns true; each argument reads behind the call as it read before'; 0 by the template 'total and deterministic' (their statements: YtmdphcebmgcdbaaTotals.lean).
  GIVEN WITH THE SEED: the statements are not yours to turn. If you find one false, say at which input.
  Laid BY PROGRAM, IN A SANDBOX (cutbox-rows.mjs): the forced cells as the released guide's own fill.sh prints them over the translation 49908773277cd508… (all of the seat's roots in one cut). By AI agents, Wed Nov 11 2026. No macro, syntax, notation, axiom, sorry.
-/
import Derived.Test.YtmdphcebmgcdbaaChecked
import GoSem.Claim
import GoSem.ClaimJoined
import GoSem.ClaimMapViews
import Derived.JoinedTies
import Derived.KernelRfl
namespace Go.Proofs.Ytmdphcebmgcdbaa
/- THE CELL 'sum', in the pinned program and in every row, IS THE sha256 OF THE DUMP (.gsa) THAT YtmdphcebmgcdbaaProg.lean LOADS. Nothing in Lean hashes anything: it is a label: what it is worth is what the hold of that sum in a sandbox is worth. -/
noncomputable def Try.pinned : Pinned := { name := "ytmdphcebmgcdbaa", sum := "49908773277cd5085ab24034b3b82efebf073fa0e7e204e51be35cae6393e5a8", checked := Try.checked }
namespace Rows
def none {H : Type} : Left H := { results := [], args := [] }

/-- 'pumicelaw12.LogMakes': WHATEVER THE INPUT: true; the input reads as it did. -/
def logMakesSpec : ChangeSpec := { name := "logMakes", fn := fun _ => fun
  | [d1, d2, d3, d4] => { results := [.lit (.bool true)], args := [d1, d2, d3, d4] }
  | _ => none }
def logMakesRow : OpenClaim := { program := "ytmdphcebmgcdbaa", sum := "49908773277cd5085ab24034b3b82efebf073fa0e7e204e51be35cae6393e5a8", func := "pumice/pumicelaw12.LogMakes", spec := "logMakes", unfollowed := true, recurses := true, plainKeys := false, apart := false }
def LogMakesSaid : Prop := logMakesRow.holds Try.pinned (OpenSpec.ofChange logMakesSpec)

/-- ITS FALSE NEIGHBOUR: 'it returns false'. Refute it at one input. -/
def logMakesWrong : ChangeSpec := { name := "logMakes", fn := fun _ => fun
  | [d1, d2, d3, d4] => { results := [.lit (.bool false)], args := [d1, d2, d3, d4] }
  | _ => none }
def LogMakesWrongFalsely : Prop := logMakesRow.holds Try.pinned (OpenSpec.ofChange logMakesWrong)

/-- 'pumicelaw12.LogPrefix': WHATEVER THE INPUT: true; the input reads as it did. -/
def logPrefixSpec : ChangeSpec := { name := "logPrefix", fn := fun _ => fun
  | [d1, d2, d3, d4] => { results := [.lit (.bool true)], args := [d1, d2, d3, d4] }
  | _ => none }
def logPrefixRow : OpenClaim := { program := "ytmdphcebmgcdbaa", sum := "49908773277cd5085ab24034b3b82efebf073fa0e7e204e51be35cae6393e5a8", func := "pumice/pumicelaw12.LogPrefix", spec := "logPrefix", unfollowed := true, recurses := true, plainKeys := false, apart := false }
def LogPrefixSaid : Prop := logPrefixRow.holds Try.pinned (OpenSpec.ofChange logPrefixSpec)

/-- ITS FALSE NEIGHBOUR: 'it returns false'. Refute it at one input. -/
def logPrefixWrong : ChangeSpec := { name := "logPrefix", fn := fun _ => fun
  | [d1, d2, d3, d4] => { results := [.lit (.bool false)], args := [d1, d2, d3, d4] }
  | _ => none }
def LogPrefixWrongFalsely : Prop := logPrefixRow.holds Try.pinned (OpenSpec.ofChange logPrefixWrong)

/-- 'pumicelaw12.LogNil': WHATEVER THE INPUT: true; the input reads as it did. -/
def logNilSpec : ChangeSpec := { name := "logNil", fn := fun _ => fun
  | [d] => { results := [.lit (.bool true)], args := [d] }
  | _ => none }
def logNilRow : OpenClaim := { program := "ytmdphcebmgcdbaa", sum := "49908773277cd5085ab24034b3b82efebf073fa0e7e204e51be35cae6393e5a8", func := "pumice/pumicelaw12.LogNil", spec := "logNil", unfollowed := true, recurses := true, plainKeys := false, apart := false }
def LogNilSaid : Prop := logNilRow.holds Try.pinned (OpenSpec.ofChange logNilSpec)

/-- ITS FALSE NEIGHBOUR: 'it returns false'. Refute it at one input. -/
def logNilWrong : ChangeSpec := { name := "logNil", fn := fun _ => fun
  | [d] => { results := [.lit (.bool false)], args := [d] }
  | _ => none }
def LogNilWrongFalsely : Prop := logNilRow.holds Try.pinned (OpenSpec.ofChange logNilWrong)

/-- 'pumicelaw12.LogApart': WHATEVER THE INPUT: true; the input reads as it did. -/
def logApartSpec : ChangeSpec := { name := "logApart", fn := fun _ => fun
  | [d1, d2] => { results := [.lit (.bool true)], args := [d1, d2] }
  | _ => none }
def logApartRow : OpenClaim := { program := "ytmdphcebmgcdbaa", sum := "49908773277cd5085ab24034b3b82efebf073fa0e7e204e51be35cae6393e5a8", func := "pumice/pumicelaw12.LogApart", spec := "logApart", unfollowed := true, recurses := true, plainKeys := false, apart := false }
def LogApartSaid : Prop := logApartRow.holds Try.pinned (OpenSpec.ofChange logApartSpec)

/-- ITS FALSE NEIGHBOUR: 'it returns false'. Refute it at one input. -/
def logApartWrong : ChangeSpec := { name := "logApart", fn := fun _ => fun
  | [d1, d2] => { results := [.lit (.bool false)], args := [d1, d2] }
  | _ => none }
def LogApartWrongFalsely : Prop := logApartRow.holds Try.pinned (OpenSpec.ofChange logApartWrong)

/- THE SECOND FORM. 'bulk': how many values and letters a reading holds, each counted each time it is reached (what is shared counts as often as it is met; a slice's spare places count too). A statement '..UptoSaid' is the law's where the arguments, and the package variables that the reading takes, are together of bulk at most 1048576: NARROWER than '..Said'. Prove '..Said' where nothing that the law and all that it calls make is longer than what came in: it says more and counts as full. Else prove '..UptoSaid'. A law counts once. -/
mutual
def uptoBulk {H : Type} : DataW H → Nat
  | .lit (.string bytes) => bytes.length + 1
  | .lit _ => 1
  | .nil => 1
  | .ptr d => uptoBulk d + 1
  | .slice elems spare => uptoBulkAll elems + uptoBulkAll spare + 1
  | .agg parts => uptoBulkAll parts + 1
  | .iface _ d => uptoBulk d + 1
  | .map entries => uptoBulkEntries entries + 1
  | .held _ => 1
def uptoBulkAll {H : Type} : List (DataW H) → Nat
  | [] => 0
  | d :: r => uptoBulk d + uptoBulkAll r
def uptoBulkEntries {H : Type} : List (Lit × DataW H) → Nat
  | [] => 0
  | x :: r => uptoBulkEntry x + uptoBulkEntries r
def uptoBulkEntry {H : Type} : Lit × DataW H → Nat
  | (.string bytes, d) => bytes.length + uptoBulk d + 1
  | (_, d) => uptoBulk d + 1
 end
def uptoSmall : (H : Type) → List (DataW H) → Bool := fun _ ds => decide (uptoBulkAll ds ≤ 1048576)
def OpenSpec.upto (s : _root_.Go.ChangeSpec) : _root_.Go.OpenSpec := { _root_.Go.OpenSpec.ofChange s with cond := some uptoSmall }

/-- 'pumicelaw12.LogMakes', WHERE WHAT IT READS IS OF BULK AT MOST 1048576: true; the input reads as it did. -/
def logMakesUptoRow : OpenClaim := { program := "ytmdphcebmgcdbaa", sum := "49908773277cd5085ab24034b3b82efebf073fa0e7e204e51be35cae6393e5a8", func := "pumice/pumicelaw12.LogMakes", spec := "logMakes", unfollowed := true, recurses := true, plainKeys := false, apart := false, narrowed := true }
def LogMakesUptoSaid : Prop := logMakesUptoRow.holds Try.pinned (OpenSpec.upto logMakesSpec)

/-- 'pumicelaw12.LogPrefix', WHERE WHAT IT READS IS OF BULK AT MOST 1048576: true; the input reads as it did. -/
def logPrefixUptoRow : OpenClaim := { program := "ytmdphcebmgcdbaa", sum := "49908773277cd5085ab24034b3b82efebf073fa0e7e204e51be35cae6393e5a8", func := "pumice/pumicelaw12.LogPrefix", spec := "logPrefix", unfollowed := true, recurses := true, plainKeys := false, apart := false, narrowed := true }
def LogPrefixUptoSaid : Prop := logPrefixUptoRow.holds Try.pinned (OpenSpec.upto logPrefixSpec)

/-- 'pumicelaw12.LogNil', WHERE WHAT IT READS IS OF BULK AT MOST 1048576: true; the input reads as it did. -/
def logNilUptoRow : OpenClaim := { program := "ytmdphcebmgcdbaa", sum := "49908773277cd5085ab24034b3b82efebf073fa0e7e204e51be35cae6393e5a8", func := "pumice/pumicelaw12.LogNil", spec := "logNil", unfollowed := true, recurses := true, plainKeys := false, apart := false, narrowed := true }
def LogNilUptoSaid : Prop := logNilUptoRow.holds Try.pinned (OpenSpec.upto logNilSpec)

/-- 'pumicelaw12.LogApart', WHERE WHAT IT READS IS OF BULK AT MOST 1048576: true; the input reads as it did. -/
def logApartUptoRow : OpenClaim := { program := "ytmdphcebmgcdbaa", sum := "49908773277cd5085ab24034b3b82efebf073fa0e7e204e51be35cae6393e5a8", func := "pumice/pumicelaw12.LogApart", spec := "logApart", unfollowed := true, recurses := true, plainKeys := false, apart := false, narrowed := true }
def LogApartUptoSaid : Prop := logApartUptoRow.holds Try.pinned (OpenSpec.upto logApartSpec)

end Rows
end Go.Proofs.Ytmdphcebmgcdbaa
