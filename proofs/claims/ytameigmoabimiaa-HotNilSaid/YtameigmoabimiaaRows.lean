/-
  No cell of these rows narrows 'for every input' (looked for: loops, veiled, ifaces, maps, wideKeys, modest, calm, conditions, laid).
  DERIVED. THE GIVEN ROWS OF THIS SEAT. 5 by the template 'for every input the law returns true; each argument reads behind the call as it read before'; 0 by the template 'total and deterministic' (their statements: YtameigmoabimiaaTotals.lean).
  GIVEN WITH THE SEED: the statements are not yours to turn. If you find one false, say at which input.
  Laid BY PROGRAM, IN A SANDBOX (cutbox-rows.mjs): the forced cells as the released guide's own fill.sh prints them over the translation cefa75a99f721cd7… (all of the seat's roots in one cut). By AI agents, Wed Nov 11 2026. No macro, syntax, notation, axiom, sorry.
-/
import Derived.Test.YtameigmoabimiaaChecked
import GoSem.Claim
import GoSem.ClaimJoined
import GoSem.ClaimMapViews
import Derived.JoinedTies
import Derived.KernelRfl
namespace Go.Proofs.Ytameigmoabimiaa
/- THE CELL 'sum', in the pinned program and in every row, IS THE sha256 OF THE DUMP (.gsa) THAT YtameigmoabimiaaProg.lean LOADS. Nothing in Lean hashes anything: it is a label: what it is worth is what the hold of that sum in a sandbox is worth. -/
noncomputable def Try.pinned : Pinned := { name := "ytameigmoabimiaa", sum := "cefa75a99f721cd7fc55c6c4adb468c1669133e82be4697b619112f27859b20d", checked := Try.checked }
namespace Rows
def none {H : Type} : Left H := { results := [], args := [] }

/-- 'pumicelaw16.HotPlays': WHATEVER THE INPUT: true; the input reads as it did. -/
def hotPlaysSpec : ChangeSpec := { name := "hotPlays", fn := fun _ => fun
  | [d1, d2, d3] => { results := [.lit (.bool true)], args := [d1, d2, d3] }
  | _ => none }
def hotPlaysRow : OpenClaim := { program := "ytameigmoabimiaa", sum := "cefa75a99f721cd7fc55c6c4adb468c1669133e82be4697b619112f27859b20d", func := "pumice/pumicelaw16.HotPlays", spec := "hotPlays", apart := false }
def HotPlaysSaid : Prop := hotPlaysRow.holds Try.pinned (OpenSpec.ofChange hotPlaysSpec)

/-- ITS FALSE NEIGHBOUR: 'it returns false'. Refute it at one input. -/
def hotPlaysWrong : ChangeSpec := { name := "hotPlays", fn := fun _ => fun
  | [d1, d2, d3] => { results := [.lit (.bool false)], args := [d1, d2, d3] }
  | _ => none }
def HotPlaysWrongFalsely : Prop := hotPlaysRow.holds Try.pinned (OpenSpec.ofChange hotPlaysWrong)

/-- 'pumicelaw16.HotLast': WHATEVER THE INPUT: true; the input reads as it did. -/
def hotLastSpec : ChangeSpec := { name := "hotLast", fn := fun _ => fun
  | [d1, d2, d3] => { results := [.lit (.bool true)], args := [d1, d2, d3] }
  | _ => none }
def hotLastRow : OpenClaim := { program := "ytameigmoabimiaa", sum := "cefa75a99f721cd7fc55c6c4adb468c1669133e82be4697b619112f27859b20d", func := "pumice/pumicelaw16.HotLast", spec := "hotLast", apart := false }
def HotLastSaid : Prop := hotLastRow.holds Try.pinned (OpenSpec.ofChange hotLastSpec)

/-- ITS FALSE NEIGHBOUR: 'it returns false'. Refute it at one input. -/
def hotLastWrong : ChangeSpec := { name := "hotLast", fn := fun _ => fun
  | [d1, d2, d3] => { results := [.lit (.bool false)], args := [d1, d2, d3] }
  | _ => none }
def HotLastWrongFalsely : Prop := hotLastRow.holds Try.pinned (OpenSpec.ofChange hotLastWrong)

/-- 'pumicelaw16.HotTwice': WHATEVER THE INPUT: true; the input reads as it did. -/
def hotTwiceSpec : ChangeSpec := { name := "hotTwice", fn := fun _ => fun
  | [d1, d2, d3, d4] => { results := [.lit (.bool true)], args := [d1, d2, d3, d4] }
  | _ => none }
def hotTwiceRow : OpenClaim := { program := "ytameigmoabimiaa", sum := "cefa75a99f721cd7fc55c6c4adb468c1669133e82be4697b619112f27859b20d", func := "pumice/pumicelaw16.HotTwice", spec := "hotTwice", apart := false }
def HotTwiceSaid : Prop := hotTwiceRow.holds Try.pinned (OpenSpec.ofChange hotTwiceSpec)

/-- ITS FALSE NEIGHBOUR: 'it returns false'. Refute it at one input. -/
def hotTwiceWrong : ChangeSpec := { name := "hotTwice", fn := fun _ => fun
  | [d1, d2, d3, d4] => { results := [.lit (.bool false)], args := [d1, d2, d3, d4] }
  | _ => none }
def HotTwiceWrongFalsely : Prop := hotTwiceRow.holds Try.pinned (OpenSpec.ofChange hotTwiceWrong)

/-- 'pumicelaw16.HotNil': WHATEVER THE INPUT: true; the input reads as it did. -/
def hotNilSpec : ChangeSpec := { name := "hotNil", fn := fun _ => fun
  | [d1, d2] => { results := [.lit (.bool true)], args := [d1, d2] }
  | _ => none }
def hotNilRow : OpenClaim := { program := "ytameigmoabimiaa", sum := "cefa75a99f721cd7fc55c6c4adb468c1669133e82be4697b619112f27859b20d", func := "pumice/pumicelaw16.HotNil", spec := "hotNil", apart := false }
def HotNilSaid : Prop := hotNilRow.holds Try.pinned (OpenSpec.ofChange hotNilSpec)

/-- ITS FALSE NEIGHBOUR: 'it returns false'. Refute it at one input. -/
def hotNilWrong : ChangeSpec := { name := "hotNil", fn := fun _ => fun
  | [d1, d2] => { results := [.lit (.bool false)], args := [d1, d2] }
  | _ => none }
def HotNilWrongFalsely : Prop := hotNilRow.holds Try.pinned (OpenSpec.ofChange hotNilWrong)

/-- 'pumicelaw16.HotFirst': WHATEVER THE INPUT: true; the input reads as it did. -/
def hotFirstSpec : ChangeSpec := { name := "hotFirst", fn := fun _ => fun
  | [d1, d2, d3, d4] => { results := [.lit (.bool true)], args := [d1, d2, d3, d4] }
  | _ => none }
def hotFirstRow : OpenClaim := { program := "ytameigmoabimiaa", sum := "cefa75a99f721cd7fc55c6c4adb468c1669133e82be4697b619112f27859b20d", func := "pumice/pumicelaw16.HotFirst", spec := "hotFirst", apart := false }
def HotFirstSaid : Prop := hotFirstRow.holds Try.pinned (OpenSpec.ofChange hotFirstSpec)

/-- ITS FALSE NEIGHBOUR: 'it returns false'. Refute it at one input. -/
def hotFirstWrong : ChangeSpec := { name := "hotFirst", fn := fun _ => fun
  | [d1, d2, d3, d4] => { results := [.lit (.bool false)], args := [d1, d2, d3, d4] }
  | _ => none }
def HotFirstWrongFalsely : Prop := hotFirstRow.holds Try.pinned (OpenSpec.ofChange hotFirstWrong)

/- THE SECOND FORM. 'bulk': how many values and letters a reading holds, each counted each time it is reached (what is shared counts as often as it is met; a slice's spare places count too). A statement '..UptoSaid' is the law's where the arguments, and the package variables that the reading takes, are together of bulk at most 1048576: NARROWER than '..Said'. Prove '..Said' where nothing that the law and all that it calls make is longer than what came in: it says more and counts as full. Else prove '..UptoSaid'. A law counts once. -/
mutual
def uptoBulk {H : Type} : DataW H → Nat
  | .lit (.string bytes) => bytes.length + 1
  | .lit _ => 1
  | .nil => 1
  | .ptr d => uptoBulk d + 1
  | .slice elems spare => uptoBulkAll elems + uptoBulkAll spare + 1
  | .agg parts => uptoBulkAll parts + 1
  | .iface _ d => uptoBulk d + 1
  | .map entries => uptoBulkEntries entries + 1
  | .held _ => 1
def uptoBulkAll {H : Type} : List (DataW H) → Nat
  | [] => 0
  | d :: r => uptoBulk d + uptoBulkAll r
def uptoBulkEntries {H : Type} : List (Lit × DataW H) → Nat
  | [] => 0
  | x :: r => uptoBulkEntry x + uptoBulkEntries r
def uptoBulkEntry {H : Type} : Lit × DataW H → Nat
  | (.string bytes, d) => bytes.length + uptoBulk d + 1
  | (_, d) => uptoBulk d + 1
 end
def uptoSmall : (H : Type) → List (DataW H) → Bool := fun _ ds => decide (uptoBulkAll ds ≤ 1048576)
def OpenSpec.upto (s : _root_.Go.ChangeSpec) : _root_.Go.OpenSpec := { _root_.Go.OpenSpec.ofChange s with cond := some uptoSmall }

/-- 'pumicelaw16.HotPlays', WHERE WHAT IT READS IS OF BULK AT MOST 1048576: true; the input reads as it did. -/
def hotPlaysUptoRow : OpenClaim := { program := "ytameigmoabimiaa", sum := "cefa75a99f721cd7fc55c6c4adb468c1669133e82be4697b619112f27859b20d", func := "pumice/pumicelaw16.HotPlays", spec := "hotPlays", apart := false, narrowed := true }
def HotPlaysUptoSaid : Prop := hotPlaysUptoRow.holds Try.pinned (OpenSpec.upto hotPlaysSpec)

/-- 'pumicelaw16.HotLast', WHERE WHAT IT READS IS OF BULK AT MOST 1048576: true; the input reads as it did. -/
def hotLastUptoRow : OpenClaim := { program := "ytameigmoabimiaa", sum := "cefa75a99f721cd7fc55c6c4adb468c1669133e82be4697b619112f27859b20d", func := "pumice/pumicelaw16.HotLast", spec := "hotLast", apart := false, narrowed := true }
def HotLastUptoSaid : Prop := hotLastUptoRow.holds Try.pinned (OpenSpec.upto hotLastSpec)

/-- 'pumicelaw16.HotTwice', WHERE WHAT IT READS IS OF BULK AT MOST 1048576: true; the input reads as it did. -/
def hotTwiceUptoRow : OpenClaim := { program := "ytameigmoabimiaa", sum := "cefa75a99f721cd7fc55c6c4adb468c1669133e82be4697b619112f27859b20d", func := "pumice/pumicelaw16.HotTwice", spec := "hotTwice", apart := false, narrowed := true }
def HotTwiceUptoSaid : Prop := hotTwiceUptoRow.holds Try.pinned (OpenSpec.upto hotTwiceSpec)

/-- 'pumicelaw16.HotNil', WHERE WHAT IT READS IS OF BULK AT MOST 1048576: true; the input reads as it did. -/
def hotNilUptoRow : OpenClaim := { program := "ytameigmoabimiaa", sum := "cefa75a99f721cd7fc55c6c4adb468c1669133e82be4697b619112f27859b20d", func := "pumice/pumicelaw16.HotNil", spec := "hotNil", apart := false, narrowed := true }
def HotNilUptoSaid : Prop := hotNilUptoRow.holds Try.pinned (OpenSpec.upto hotNilSpec)

/-- 'pumicelaw16.HotFirst', WHERE WHAT IT READS IS OF BULK AT MOST 1048576: true; the input reads as it did. -/
def hotFirstUptoRow : OpenClaim := { program := "ytameigmoabimiaa", sum := "cefa75a99f721cd7fc55c6c4adb468c1669133e82be4697b619112f27859b20d", func := "pumice/pumicelaw16.HotFirst", spec := "hotFirst", apart := false, narrowed := true }
def HotFirstUptoSaid : Prop := hotFirstUptoRow.holds Try.pinned (OpenSpec.upto hotFirstSpec)

end Rows
end Go.Proofs.Ytameigmoabimiaa
