/-
  No cell of these rows narrows 'for every input' (looked for: loops, veiled, ifaces, maps, wideKeys, modest, calm, conditions, laid).
  DERIVED. THE GIVEN ROWS OF THIS SEAT. 8 by the template 'for every input the law returns true; each argument reads behind the call as it read before'; 0 by the template 'total and deterministic' (their statements: YtepllhfofhehaaaTotals.lean).
  GIVEN WITH THE SEED: the statements are not yours to turn. If you find one false, say at which input.
  Laid BY PROGRAM, IN A SANDBOX (cutbox-rows.mjs): the forced cells as the released guide's own fill.sh prints them over the translation da85691ddba2896b… (all of the seat's roots in one cut). By AI agents, Wed Nov 11 2026. No macro, syntax, notation, axiom, sorry.
-/
import Derived.Test.YtepllhfofhehaaaChecked
import GoSem.Claim
import GoSem.ClaimJoined
import GoSem.ClaimMapViews
import Derived.JoinedTies
import Derived.KernelRfl
namespace Go.Proofs.Ytepllhfofhehaaa
/- THE CELL 'sum', in the pinned program and in every row, IS THE sha256 OF THE DUMP (.gsa) THAT YtepllhfofhehaaaProg.lean LOADS. Nothing in Lean hashes anything: it is a label: what it is worth is what the hold of that sum in a sandbox is worth. -/
noncomputable def Try.pinned : Pinned := { name := "ytepllhfofhehaaa", sum := "da85691ddba2896b3257f22c5eaa9bdb6c80dc2283b21cfca58c4916c1913f0b", checked := Try.checked }
namespace Rows
def none {H : Type} : Left H := { results := [], args := [] }

/-- 'pumicelaw07.FlashPlays': WHATEVER THE INPUT: true; the input reads as it did. -/
def flashPlaysSpec : ChangeSpec := { name := "flashPlays", fn := fun _ => fun
  | [d1, d2, d3] => { results := [.lit (.bool true)], args := [d1, d2, d3] }
  | _ => none }
def flashPlaysRow : OpenClaim := { program := "ytepllhfofhehaaa", sum := "da85691ddba2896b3257f22c5eaa9bdb6c80dc2283b21cfca58c4916c1913f0b", func := "pumice/pumicelaw07.FlashPlays", spec := "flashPlays", unfollowed := true, recurses := true, plainKeys := false, apart := false }
def FlashPlaysSaid : Prop := flashPlaysRow.holds Try.pinned (OpenSpec.ofChange flashPlaysSpec)

/-- ITS FALSE NEIGHBOUR: 'it returns false'. Refute it at one input. -/
def flashPlaysWrong : ChangeSpec := { name := "flashPlays", fn := fun _ => fun
  | [d1, d2, d3] => { results := [.lit (.bool false)], args := [d1, d2, d3] }
  | _ => none }
def FlashPlaysWrongFalsely : Prop := flashPlaysRow.holds Try.pinned (OpenSpec.ofChange flashPlaysWrong)

/-- 'pumicelaw07.FlashOnce': WHATEVER THE INPUT: true; the input reads as it did. -/
def flashOnceSpec : ChangeSpec := { name := "flashOnce", fn := fun _ => fun
  | [d] => { results := [.lit (.bool true)], args := [d] }
  | _ => none }
def flashOnceRow : OpenClaim := { program := "ytepllhfofhehaaa", sum := "da85691ddba2896b3257f22c5eaa9bdb6c80dc2283b21cfca58c4916c1913f0b", func := "pumice/pumicelaw07.FlashOnce", spec := "flashOnce", unfollowed := true, recurses := true, plainKeys := false, apart := false }
def FlashOnceSaid : Prop := flashOnceRow.holds Try.pinned (OpenSpec.ofChange flashOnceSpec)

/-- ITS FALSE NEIGHBOUR: 'it returns false'. Refute it at one input. -/
def flashOnceWrong : ChangeSpec := { name := "flashOnce", fn := fun _ => fun
  | [d] => { results := [.lit (.bool false)], args := [d] }
  | _ => none }
def FlashOnceWrongFalsely : Prop := flashOnceRow.holds Try.pinned (OpenSpec.ofChange flashOnceWrong)

/-- 'pumicelaw07.FlashSafe': WHATEVER THE INPUT: true; the input reads as it did. -/
def flashSafeSpec : ChangeSpec := { name := "flashSafe", fn := fun _ => fun
  | [d1, d2] => { results := [.lit (.bool true)], args := [d1, d2] }
  | _ => none }
def flashSafeRow : OpenClaim := { program := "ytepllhfofhehaaa", sum := "da85691ddba2896b3257f22c5eaa9bdb6c80dc2283b21cfca58c4916c1913f0b", func := "pumice/pumicelaw07.FlashSafe", spec := "flashSafe", unfollowed := true, recurses := true, plainKeys := false, apart := false }
def FlashSafeSaid : Prop := flashSafeRow.holds Try.pinned (OpenSpec.ofChange flashSafeSpec)

/-- ITS FALSE NEIGHBOUR: 'it returns false'. Refute it at one input. -/
def flashSafeWrong : ChangeSpec := { name := "flashSafe", fn := fun _ => fun
  | [d1, d2] => { results := [.lit (.bool false)], args := [d1, d2] }
  | _ => none }
def FlashSafeWrongFalsely : Prop := flashSafeRow.holds Try.pinned (OpenSpec.ofChange flashSafeWrong)

/-- 'pumicelaw07.FlashTorn': WHATEVER THE INPUT: true; the input reads as it did. -/
def flashTornSpec : ChangeSpec := { name := "flashTorn", fn := fun _ => fun
  | [d1, d2] => { results := [.lit (.bool true)], args := [d1, d2] }
  | _ => none }
def flashTornRow : OpenClaim := { program := "ytepllhfofhehaaa", sum := "da85691ddba2896b3257f22c5eaa9bdb6c80dc2283b21cfca58c4916c1913f0b", func := "pumice/pumicelaw07.FlashTorn", spec := "flashTorn", unfollowed := true, recurses := true, plainKeys := false, apart := false }
def FlashTornSaid : Prop := flashTornRow.holds Try.pinned (OpenSpec.ofChange flashTornSpec)

/-- ITS FALSE NEIGHBOUR: 'it returns false'. Refute it at one input. -/
def flashTornWrong : ChangeSpec := { name := "flashTorn", fn := fun _ => fun
  | [d1, d2] => { results := [.lit (.bool false)], args := [d1, d2] }
  | _ => none }
def FlashTornWrongFalsely : Prop := flashTornRow.holds Try.pinned (OpenSpec.ofChange flashTornWrong)

/-- 'pumicelaw07.FlashCuts': WHATEVER THE INPUT: true; the input reads as it did. -/
def flashCutsSpec : ChangeSpec := { name := "flashCuts", fn := fun _ => fun
  | [d1, d2] => { results := [.lit (.bool true)], args := [d1, d2] }
  | _ => none }
def flashCutsRow : OpenClaim := { program := "ytepllhfofhehaaa", sum := "da85691ddba2896b3257f22c5eaa9bdb6c80dc2283b21cfca58c4916c1913f0b", func := "pumice/pumicelaw07.FlashCuts", spec := "flashCuts", unfollowed := true, recurses := true, plainKeys := false, apart := false }
def FlashCutsSaid : Prop := flashCutsRow.holds Try.pinned (OpenSpec.ofChange flashCutsSpec)

/-- ITS FALSE NEIGHBOUR: 'it returns false'. Refute it at one input. -/
def flashCutsWrong : ChangeSpec := { name := "flashCuts", fn := fun _ => fun
  | [d1, d2] => { results := [.lit (.bool false)], args := [d1, d2] }
  | _ => none }
def FlashCutsWrongFalsely : Prop := flashCutsRow.holds Try.pinned (OpenSpec.ofChange flashCutsWrong)

/-- 'pumicelaw07.FlashNil': WHATEVER THE INPUT: true; the input reads as it did. -/
def flashNilSpec : ChangeSpec := { name := "flashNil", fn := fun _ => fun
  | [d] => { results := [.lit (.bool true)], args := [d] }
  | _ => none }
def flashNilRow : OpenClaim := { program := "ytepllhfofhehaaa", sum := "da85691ddba2896b3257f22c5eaa9bdb6c80dc2283b21cfca58c4916c1913f0b", func := "pumice/pumicelaw07.FlashNil", spec := "flashNil", unfollowed := true, recurses := true, plainKeys := false, apart := false }
def FlashNilSaid : Prop := flashNilRow.holds Try.pinned (OpenSpec.ofChange flashNilSpec)

/-- ITS FALSE NEIGHBOUR: 'it returns false'. Refute it at one input. -/
def flashNilWrong : ChangeSpec := { name := "flashNil", fn := fun _ => fun
  | [d] => { results := [.lit (.bool false)], args := [d] }
  | _ => none }
def FlashNilWrongFalsely : Prop := flashNilRow.holds Try.pinned (OpenSpec.ofChange flashNilWrong)

/-- 'pumicelaw07.FlashWears': WHATEVER THE INPUT: true; the input reads as it did. -/
def flashWearsSpec : ChangeSpec := { name := "flashWears", fn := fun _ => fun
  | [d] => { results := [.lit (.bool true)], args := [d] }
  | _ => none }
def flashWearsRow : OpenClaim := { program := "ytepllhfofhehaaa", sum := "da85691ddba2896b3257f22c5eaa9bdb6c80dc2283b21cfca58c4916c1913f0b", func := "pumice/pumicelaw07.FlashWears", spec := "flashWears", unfollowed := true, recurses := true, plainKeys := false, apart := false }
def FlashWearsSaid : Prop := flashWearsRow.holds Try.pinned (OpenSpec.ofChange flashWearsSpec)

/-- ITS FALSE NEIGHBOUR: 'it returns false'. Refute it at one input. -/
def flashWearsWrong : ChangeSpec := { name := "flashWears", fn := fun _ => fun
  | [d] => { results := [.lit (.bool false)], args := [d] }
  | _ => none }
def FlashWearsWrongFalsely : Prop := flashWearsRow.holds Try.pinned (OpenSpec.ofChange flashWearsWrong)

/-- 'pumicelaw07.FlashLast': WHATEVER THE INPUT: true; the input reads as it did. -/
def flashLastSpec : ChangeSpec := { name := "flashLast", fn := fun _ => fun
  | [d] => { results := [.lit (.bool true)], args := [d] }
  | _ => none }
def flashLastRow : OpenClaim := { program := "ytepllhfofhehaaa", sum := "da85691ddba2896b3257f22c5eaa9bdb6c80dc2283b21cfca58c4916c1913f0b", func := "pumice/pumicelaw07.FlashLast", spec := "flashLast", unfollowed := true, recurses := true, plainKeys := false, apart := false }
def FlashLastSaid : Prop := flashLastRow.holds Try.pinned (OpenSpec.ofChange flashLastSpec)

/-- ITS FALSE NEIGHBOUR: 'it returns false'. Refute it at one input. -/
def flashLastWrong : ChangeSpec := { name := "flashLast", fn := fun _ => fun
  | [d] => { results := [.lit (.bool false)], args := [d] }
  | _ => none }
def FlashLastWrongFalsely : Prop := flashLastRow.holds Try.pinned (OpenSpec.ofChange flashLastWrong)

/- THE SECOND FORM. 'bulk': how many values and letters a reading holds, each counted each time it is reached (what is shared counts as often as it is met; a slice's spare places count too). A statement '..UptoSaid' is the law's where the arguments, and the package variables that the reading takes, are together of bulk at most 1048576: NARROWER than '..Said'. Prove '..Said' where nothing that the law and all that it calls make is longer than what came in: it says more and counts as full. Else prove '..UptoSaid'. A law counts once. -/
mutual
def uptoBulk {H : Type} : DataW H → Nat
  | .lit (.string bytes) => bytes.length + 1
  | .lit _ => 1
  | .nil => 1
  | .ptr d => uptoBulk d + 1
  | .slice elems spare => uptoBulkAll elems + uptoBulkAll spare + 1
  | .agg parts => uptoBulkAll parts + 1
  | .iface _ d => uptoBulk d + 1
  | .map entries => uptoBulkEntries entries + 1
  | .held _ => 1
def uptoBulkAll {H : Type} : List (DataW H) → Nat
  | [] => 0
  | d :: r => uptoBulk d + uptoBulkAll r
def uptoBulkEntries {H : Type} : List (Lit × DataW H) → Nat
  | [] => 0
  | x :: r => uptoBulkEntry x + uptoBulkEntries r
def uptoBulkEntry {H : Type} : Lit × DataW H → Nat
  | (.string bytes, d) => bytes.length + uptoBulk d + 1
  | (_, d) => uptoBulk d + 1
 end
def uptoSmall : (H : Type) → List (DataW H) → Bool := fun _ ds => decide (uptoBulkAll ds ≤ 1048576)
def OpenSpec.upto (s : _root_.Go.ChangeSpec) : _root_.Go.OpenSpec := { _root_.Go.OpenSpec.ofChange s with cond := some uptoSmall }

/-- 'pumicelaw07.FlashPlays', WHERE WHAT IT READS IS OF BULK AT MOST 1048576: true; the input reads as it did. -/
def flashPlaysUptoRow : OpenClaim := { program := "ytepllhfofhehaaa", sum := "da85691ddba2896b3257f22c5eaa9bdb6c80dc2283b21cfca58c4916c1913f0b", func := "pumice/pumicelaw07.FlashPlays", spec := "flashPlays", unfollowed := true, recurses := true, plainKeys := false, apart := false, narrowed := true }
def FlashPlaysUptoSaid : Prop := flashPlaysUptoRow.holds Try.pinned (OpenSpec.upto flashPlaysSpec)

/-- 'pumicelaw07.FlashOnce', WHERE WHAT IT READS IS OF BULK AT MOST 1048576: true; the input reads as it did. -/
def flashOnceUptoRow : OpenClaim := { program := "ytepllhfofhehaaa", sum := "da85691ddba2896b3257f22c5eaa9bdb6c80dc2283b21cfca58c4916c1913f0b", func := "pumice/pumicelaw07.FlashOnce", spec := "flashOnce", unfollowed := true, recurses := true, plainKeys := false, apart := false, narrowed := true }
def FlashOnceUptoSaid : Prop := flashOnceUptoRow.holds Try.pinned (OpenSpec.upto flashOnceSpec)

/-- 'pumicelaw07.FlashSafe', WHERE WHAT IT READS IS OF BULK AT MOST 1048576: true; the input reads as it did. -/
def flashSafeUptoRow : OpenClaim := { program := "ytepllhfofhehaaa", sum := "da85691ddba2896b3257f22c5eaa9bdb6c80dc2283b21cfca58c4916c1913f0b", func := "pumice/pumicelaw07.FlashSafe", spec := "flashSafe", unfollowed := true, recurses := true, plainKeys := false, apart := false, narrowed := true }
def FlashSafeUptoSaid : Prop := flashSafeUptoRow.holds Try.pinned (OpenSpec.upto flashSafeSpec)

/-- 'pumicelaw07.FlashTorn', WHERE WHAT IT READS IS OF BULK AT MOST 1048576: true; the input reads as it did. -/
def flashTornUptoRow : OpenClaim := { program := "ytepllhfofhehaaa", sum := "da85691ddba2896b3257f22c5eaa9bdb6c80dc2283b21cfca58c4916c1913f0b", func := "pumice/pumicelaw07.FlashTorn", spec := "flashTorn", unfollowed := true, recurses := true, plainKeys := false, apart := false, narrowed := true }
def FlashTornUptoSaid : Prop := flashTornUptoRow.holds Try.pinned (OpenSpec.upto flashTornSpec)

/-- 'pumicelaw07.FlashCuts', WHERE WHAT IT READS IS OF BULK AT MOST 1048576: true; the input reads as it did. -/
def flashCutsUptoRow : OpenClaim := { program := "ytepllhfofhehaaa", sum := "da85691ddba2896b3257f22c5eaa9bdb6c80dc2283b21cfca58c4916c1913f0b", func := "pumice/pumicelaw07.FlashCuts", spec := "flashCuts", unfollowed := true, recurses := true, plainKeys := false, apart := false, narrowed := true }
def FlashCutsUptoSaid : Prop := flashCutsUptoRow.holds Try.pinned (OpenSpec.upto flashCutsSpec)

/-- 'pumicelaw07.FlashNil', WHERE WHAT IT READS IS OF BULK AT MOST 1048576: true; the input reads as it did. -/
def flashNilUptoRow : OpenClaim := { program := "ytepllhfofhehaaa", sum := "da85691ddba2896b3257f22c5eaa9bdb6c80dc2283b21cfca58c4916c1913f0b", func := "pumice/pumicelaw07.FlashNil", spec := "flashNil", unfollowed := true, recurses := true, plainKeys := false, apart := false, narrowed := true }
def FlashNilUptoSaid : Prop := flashNilUptoRow.holds Try.pinned (OpenSpec.upto flashNilSpec)

/-- 'pumicelaw07.FlashWears', WHERE WHAT IT READS IS OF BULK AT MOST 1048576: true; the input reads as it did. -/
def flashWearsUptoRow : OpenClaim := { program := "ytepllhfofhehaaa", sum := "da85691ddba2896b3257f22c5eaa9bdb6c80dc2283b21cfca58c4916c1913f0b", func := "pumice/pumicelaw07.FlashWears", spec := "flashWears", unfollowed := true, recurses := true, plainKeys := false, apart := false, narrowed := true }
def FlashWearsUptoSaid : Prop := flashWearsUptoRow.holds Try.pinned (OpenSpec.upto flashWearsSpec)

/-- 'pumicelaw07.FlashLast', WHERE WHAT IT READS IS OF BULK AT MOST 1048576: true; the input reads as it did. -/
def flashLastUptoRow : OpenClaim := { program := "ytepllhfofhehaaa", sum := "da85691ddba2896b3257f22c5eaa9bdb6c80dc2283b21cfca58c4916c1913f0b", func := "pumice/pumicelaw07.FlashLast", spec := "flashLast", unfollowed := true, recurses := true, plainKeys := false, apart := false, narrowed := true }
def FlashLastUptoSaid : Prop := flashLastUptoRow.holds Try.pinned (OpenSpec.upto flashLastSpec)

end Rows
end Go.Proofs.Ytepllhfofhehaaa
