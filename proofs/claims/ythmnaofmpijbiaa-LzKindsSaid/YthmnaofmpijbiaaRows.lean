/-
  No cell of these rows narrows 'for every input' (looked for: loops, veiled, ifaces, maps, wideKeys, modest, calm, conditions, laid).
  DERIVED. THE GIVEN ROWS OF THIS SEAT. 6 by the template 'for every input the law returns true; each argument reads behind the call as it read before'; 0 by the template 'total and deterministic' (their statements: YthmnaofmpijbiaaTotals.lean).
  GIVEN WITH THE SEED: the statements are not yours to turn. If you find one false, say at which input.
  Laid BY PROGRAM, IN A SANDBOX (cutbox-rows.mjs): the forced cells as the released guide's own fill.sh prints them over the translation 7ced8ef12fa2d20e… (all of the seat's roots in one cut). By AI agents, Wed Nov 11 2026. No macro, syntax, notation, axiom, sorry.
-/
import Derived.Test.YthmnaofmpijbiaaChecked
import GoSem.Claim
import GoSem.ClaimJoined
import GoSem.ClaimMapViews
import Derived.JoinedTies
import Derived.KernelRfl
namespace Go.Proofs.Ythmnaofmpijbiaa
/- THE CELL 'sum', in the pinned program and in every row, IS THE sha256 OF THE DUMP (.gsa) THAT YthmnaofmpijbiaaProg.lean LOADS. Nothing in Lean hashes anything: it is a label: what it is worth is what the hold of that sum in a sandbox is worth. -/
noncomputable def Try.pinned : Pinned := { name := "ythmnaofmpijbiaa", sum := "7ced8ef12fa2d20e998dd2007a0a66c1b26a1f772fdee3dc3c336deaa1fe3206", checked := Try.checked }
namespace Rows
def none {H : Type} : Left H := { results := [], args := [] }

/-- 'pumicelaw06.LzPacks': WHATEVER THE INPUT: true; the input reads as it did. -/
def lzPacksSpec : ChangeSpec := { name := "lzPacks", fn := fun _ => fun
  | [d] => { results := [.lit (.bool true)], args := [d] }
  | _ => none }
def lzPacksRow : OpenClaim := { program := "ythmnaofmpijbiaa", sum := "7ced8ef12fa2d20e998dd2007a0a66c1b26a1f772fdee3dc3c336deaa1fe3206", func := "pumice/pumicelaw06.LzPacks", spec := "lzPacks", unfollowed := true, recurses := true, plainKeys := false, apart := false }
def LzPacksSaid : Prop := lzPacksRow.holds Try.pinned (OpenSpec.ofChange lzPacksSpec)

/-- ITS FALSE NEIGHBOUR: 'it returns false'. Refute it at one input. -/
def lzPacksWrong : ChangeSpec := { name := "lzPacks", fn := fun _ => fun
  | [d] => { results := [.lit (.bool false)], args := [d] }
  | _ => none }
def LzPacksWrongFalsely : Prop := lzPacksRow.holds Try.pinned (OpenSpec.ofChange lzPacksWrong)

/-- 'pumicelaw06.LzUnpacks': WHATEVER THE INPUT: true; the input reads as it did. -/
def lzUnpacksSpec : ChangeSpec := { name := "lzUnpacks", fn := fun _ => fun
  | [d1, d2] => { results := [.lit (.bool true)], args := [d1, d2] }
  | _ => none }
def lzUnpacksRow : OpenClaim := { program := "ythmnaofmpijbiaa", sum := "7ced8ef12fa2d20e998dd2007a0a66c1b26a1f772fdee3dc3c336deaa1fe3206", func := "pumice/pumicelaw06.LzUnpacks", spec := "lzUnpacks", unfollowed := true, recurses := true, plainKeys := false, apart := false }
def LzUnpacksSaid : Prop := lzUnpacksRow.holds Try.pinned (OpenSpec.ofChange lzUnpacksSpec)

/-- ITS FALSE NEIGHBOUR: 'it returns false'. Refute it at one input. -/
def lzUnpacksWrong : ChangeSpec := { name := "lzUnpacks", fn := fun _ => fun
  | [d1, d2] => { results := [.lit (.bool false)], args := [d1, d2] }
  | _ => none }
def LzUnpacksWrongFalsely : Prop := lzUnpacksRow.holds Try.pinned (OpenSpec.ofChange lzUnpacksWrong)

/-- 'pumicelaw06.LzBack': WHATEVER THE INPUT: true; the input reads as it did. -/
def lzBackSpec : ChangeSpec := { name := "lzBack", fn := fun _ => fun
  | [d] => { results := [.lit (.bool true)], args := [d] }
  | _ => none }
def lzBackRow : OpenClaim := { program := "ythmnaofmpijbiaa", sum := "7ced8ef12fa2d20e998dd2007a0a66c1b26a1f772fdee3dc3c336deaa1fe3206", func := "pumice/pumicelaw06.LzBack", spec := "lzBack", unfollowed := true, recurses := true, plainKeys := false, apart := false }
def LzBackSaid : Prop := lzBackRow.holds Try.pinned (OpenSpec.ofChange lzBackSpec)

/-- ITS FALSE NEIGHBOUR: 'it returns false'. Refute it at one input. -/
def lzBackWrong : ChangeSpec := { name := "lzBack", fn := fun _ => fun
  | [d] => { results := [.lit (.bool false)], args := [d] }
  | _ => none }
def LzBackWrongFalsely : Prop := lzBackRow.holds Try.pinned (OpenSpec.ofChange lzBackWrong)

/-- 'pumicelaw06.LzLess': WHATEVER THE INPUT: true; the input reads as it did. -/
def lzLessSpec : ChangeSpec := { name := "lzLess", fn := fun _ => fun
  | [d1, d2, d3] => { results := [.lit (.bool true)], args := [d1, d2, d3] }
  | _ => none }
def lzLessRow : OpenClaim := { program := "ythmnaofmpijbiaa", sum := "7ced8ef12fa2d20e998dd2007a0a66c1b26a1f772fdee3dc3c336deaa1fe3206", func := "pumice/pumicelaw06.LzLess", spec := "lzLess", unfollowed := true, recurses := true, plainKeys := false, apart := false }
def LzLessSaid : Prop := lzLessRow.holds Try.pinned (OpenSpec.ofChange lzLessSpec)

/-- ITS FALSE NEIGHBOUR: 'it returns false'. Refute it at one input. -/
def lzLessWrong : ChangeSpec := { name := "lzLess", fn := fun _ => fun
  | [d1, d2, d3] => { results := [.lit (.bool false)], args := [d1, d2, d3] }
  | _ => none }
def LzLessWrongFalsely : Prop := lzLessRow.holds Try.pinned (OpenSpec.ofChange lzLessWrong)

/-- 'pumicelaw06.LzSteps': WHATEVER THE INPUT: true; the input reads as it did. -/
def lzStepsSpec : ChangeSpec := { name := "lzSteps", fn := fun _ => fun
  | [d1, d2, d3] => { results := [.lit (.bool true)], args := [d1, d2, d3] }
  | _ => none }
def lzStepsRow : OpenClaim := { program := "ythmnaofmpijbiaa", sum := "7ced8ef12fa2d20e998dd2007a0a66c1b26a1f772fdee3dc3c336deaa1fe3206", func := "pumice/pumicelaw06.LzSteps", spec := "lzSteps", unfollowed := true, recurses := true, plainKeys := false, apart := false }
def LzStepsSaid : Prop := lzStepsRow.holds Try.pinned (OpenSpec.ofChange lzStepsSpec)

/-- ITS FALSE NEIGHBOUR: 'it returns false'. Refute it at one input. -/
def lzStepsWrong : ChangeSpec := { name := "lzSteps", fn := fun _ => fun
  | [d1, d2, d3] => { results := [.lit (.bool false)], args := [d1, d2, d3] }
  | _ => none }
def LzStepsWrongFalsely : Prop := lzStepsRow.holds Try.pinned (OpenSpec.ofChange lzStepsWrong)

/-- 'pumicelaw06.LzKinds': WHATEVER THE INPUT: true; the input reads as it did. -/
def lzKindsSpec : ChangeSpec := { name := "lzKinds", fn := fun _ => fun
  | [d] => { results := [.lit (.bool true)], args := [d] }
  | _ => none }
def lzKindsRow : OpenClaim := { program := "ythmnaofmpijbiaa", sum := "7ced8ef12fa2d20e998dd2007a0a66c1b26a1f772fdee3dc3c336deaa1fe3206", func := "pumice/pumicelaw06.LzKinds", spec := "lzKinds", unfollowed := true, recurses := true, plainKeys := false, apart := false }
def LzKindsSaid : Prop := lzKindsRow.holds Try.pinned (OpenSpec.ofChange lzKindsSpec)

/-- ITS FALSE NEIGHBOUR: 'it returns false'. Refute it at one input. -/
def lzKindsWrong : ChangeSpec := { name := "lzKinds", fn := fun _ => fun
  | [d] => { results := [.lit (.bool false)], args := [d] }
  | _ => none }
def LzKindsWrongFalsely : Prop := lzKindsRow.holds Try.pinned (OpenSpec.ofChange lzKindsWrong)

/- THE SECOND FORM. 'bulk': how many values and letters a reading holds, each counted each time it is reached (what is shared counts as often as it is met; a slice's spare places count too). A statement '..UptoSaid' is the law's where the arguments, and the package variables that the reading takes, are together of bulk at most 1048576: NARROWER than '..Said'. Prove '..Said' where nothing that the law and all that it calls make is longer than what came in: it says more and counts as full. Else prove '..UptoSaid'. A law counts once. -/
mutual
def uptoBulk {H : Type} : DataW H → Nat
  | .lit (.string bytes) => bytes.length + 1
  | .lit _ => 1
  | .nil => 1
  | .ptr d => uptoBulk d + 1
  | .slice elems spare => uptoBulkAll elems + uptoBulkAll spare + 1
  | .agg parts => uptoBulkAll parts + 1
  | .iface _ d => uptoBulk d + 1
  | .map entries => uptoBulkEntries entries + 1
  | .held _ => 1
def uptoBulkAll {H : Type} : List (DataW H) → Nat
  | [] => 0
  | d :: r => uptoBulk d + uptoBulkAll r
def uptoBulkEntries {H : Type} : List (Lit × DataW H) → Nat
  | [] => 0
  | x :: r => uptoBulkEntry x + uptoBulkEntries r
def uptoBulkEntry {H : Type} : Lit × DataW H → Nat
  | (.string bytes, d) => bytes.length + uptoBulk d + 1
  | (_, d) => uptoBulk d + 1
 end
def uptoSmall : (H : Type) → List (DataW H) → Bool := fun _ ds => decide (uptoBulkAll ds ≤ 1048576)
def OpenSpec.upto (s : _root_.Go.ChangeSpec) : _root_.Go.OpenSpec := { _root_.Go.OpenSpec.ofChange s with cond := some uptoSmall }

/-- 'pumicelaw06.LzPacks', WHERE WHAT IT READS IS OF BULK AT MOST 1048576: true; the input reads as it did. -/
def lzPacksUptoRow : OpenClaim := { program := "ythmnaofmpijbiaa", sum := "7ced8ef12fa2d20e998dd2007a0a66c1b26a1f772fdee3dc3c336deaa1fe3206", func := "pumice/pumicelaw06.LzPacks", spec := "lzPacks", unfollowed := true, recurses := true, plainKeys := false, apart := false, narrowed := true }
def LzPacksUptoSaid : Prop := lzPacksUptoRow.holds Try.pinned (OpenSpec.upto lzPacksSpec)

/-- 'pumicelaw06.LzUnpacks', WHERE WHAT IT READS IS OF BULK AT MOST 1048576: true; the input reads as it did. -/
def lzUnpacksUptoRow : OpenClaim := { program := "ythmnaofmpijbiaa", sum := "7ced8ef12fa2d20e998dd2007a0a66c1b26a1f772fdee3dc3c336deaa1fe3206", func := "pumice/pumicelaw06.LzUnpacks", spec := "lzUnpacks", unfollowed := true, recurses := true, plainKeys := false, apart := false, narrowed := true }
def LzUnpacksUptoSaid : Prop := lzUnpacksUptoRow.holds Try.pinned (OpenSpec.upto lzUnpacksSpec)

/-- 'pumicelaw06.LzBack', WHERE WHAT IT READS IS OF BULK AT MOST 1048576: true; the input reads as it did. -/
def lzBackUptoRow : OpenClaim := { program := "ythmnaofmpijbiaa", sum := "7ced8ef12fa2d20e998dd2007a0a66c1b26a1f772fdee3dc3c336deaa1fe3206", func := "pumice/pumicelaw06.LzBack", spec := "lzBack", unfollowed := true, recurses := true, plainKeys := false, apart := false, narrowed := true }
def LzBackUptoSaid : Prop := lzBackUptoRow.holds Try.pinned (OpenSpec.upto lzBackSpec)

/-- 'pumicelaw06.LzLess', WHERE WHAT IT READS IS OF BULK AT MOST 1048576: true; the input reads as it did. -/
def lzLessUptoRow : OpenClaim := { program := "ythmnaofmpijbiaa", sum := "7ced8ef12fa2d20e998dd2007a0a66c1b26a1f772fdee3dc3c336deaa1fe3206", func := "pumice/pumicelaw06.LzLess", spec := "lzLess", unfollowed := true, recurses := true, plainKeys := false, apart := false, narrowed := true }
def LzLessUptoSaid : Prop := lzLessUptoRow.holds Try.pinned (OpenSpec.upto lzLessSpec)

/-- 'pumicelaw06.LzSteps', WHERE WHAT IT READS IS OF BULK AT MOST 1048576: true; the input reads as it did. -/
def lzStepsUptoRow : OpenClaim := { program := "ythmnaofmpijbiaa", sum := "7ced8ef12fa2d20e998dd2007a0a66c1b26a1f772fdee3dc3c336deaa1fe3206", func := "pumice/pumicelaw06.LzSteps", spec := "lzSteps", unfollowed := true, recurses := true, plainKeys := false, apart := false, narrowed := true }
def LzStepsUptoSaid : Prop := lzStepsUptoRow.holds Try.pinned (OpenSpec.upto lzStepsSpec)

/-- 'pumicelaw06.LzKinds', WHERE WHAT IT READS IS OF BULK AT MOST 1048576: true; the input reads as it did. -/
def lzKindsUptoRow : OpenClaim := { program := "ythmnaofmpijbiaa", sum := "7ced8ef12fa2d20e998dd2007a0a66c1b26a1f772fdee3dc3c336deaa1fe3206", func := "pumice/pumicelaw06.LzKinds", spec := "lzKinds", unfollowed := true, recurses := true, plainKeys := false, apart := false, narrowed := true }
def LzKindsUptoSaid : Prop := lzKindsUptoRow.holds Try.pinned (OpenSpec.upto lzKindsSpec)

end Rows
end Go.Proofs.Ythmnaofmpijbiaa
