/-
  No cell of these rows narrows 'for every input' (looked for: loops, veiled, ifaces, maps, wideKeys, modest, calm, conditions, laid).
  DERIVED. THE GIVEN ROWS OF THIS SEAT. 6 by the template 'for every input the law returns true; each argument reads behind the call as it read before'; 0 by the template 'total and deterministic' (their statements: YtcbkhgjjbponhaaTotals.lean).
  GIVEN WITH THE SEED: the statements are not yours to turn. If you find one false, say at which input.
  Laid BY PROGRAM, IN A SANDBOX (cutbox-rows.mjs): the forced cells as the released guide's own fill.sh prints them over the translation 1ce5526dfa59fd9f… (all of the seat's roots in one cut). By AI agents, Wed Nov 11 2026. No macro, syntax, notation, axiom, sorry.
-/
import Derived.Test.YtcbkhgjjbponhaaChecked
import GoSem.Claim
import GoSem.ClaimJoined
import GoSem.ClaimMapViews
import Derived.JoinedTies
import Derived.KernelRfl
namespace Go.Proofs.Ytcbkhgjjbponhaa
/- THE CELL 'sum', in the pinned program and in every row, IS THE sha256 OF THE DUMP (.gsa) THAT YtcbkhgjjbponhaaProg.lean LOADS. Nothing in Lean hashes anything: it is a label: what it is worth is what the hold of that sum in a sandbox is worth. -/
noncomputable def Try.pinned : Pinned := { name := "ytcbkhgjjbponhaa", sum := "1ce5526dfa59fd9fb7a131872996f0c810c1a706429ff403b621119d708585bb", checked := Try.checked }
namespace Rows
def none {H : Type} : Left H := { results := [], args := [] }

/-- 'pumicelaw17.PickCompares': WHATEVER THE INPUT: true; the input reads as it did. -/
def pickComparesSpec : ChangeSpec := { name := "pickCompares", fn := fun _ => fun
  | [d1, d2] => { results := [.lit (.bool true)], args := [d1, d2] }
  | _ => none }
def pickComparesRow : OpenClaim := { program := "ytcbkhgjjbponhaa", sum := "1ce5526dfa59fd9fb7a131872996f0c810c1a706429ff403b621119d708585bb", func := "pumice/pumicelaw17.PickCompares", spec := "pickCompares", apart := false }
def PickComparesSaid : Prop := pickComparesRow.holds Try.pinned (OpenSpec.ofChange pickComparesSpec)

/-- ITS FALSE NEIGHBOUR: 'it returns false'. Refute it at one input. -/
def pickComparesWrong : ChangeSpec := { name := "pickCompares", fn := fun _ => fun
  | [d1, d2] => { results := [.lit (.bool false)], args := [d1, d2] }
  | _ => none }
def PickComparesWrongFalsely : Prop := pickComparesRow.holds Try.pinned (OpenSpec.ofChange pickComparesWrong)

/-- 'pumicelaw17.PickBests': WHATEVER THE INPUT: true; the input reads as it did. -/
def pickBestsSpec : ChangeSpec := { name := "pickBests", fn := fun _ => fun
  | [d] => { results := [.lit (.bool true)], args := [d] }
  | _ => none }
def pickBestsRow : OpenClaim := { program := "ytcbkhgjjbponhaa", sum := "1ce5526dfa59fd9fb7a131872996f0c810c1a706429ff403b621119d708585bb", func := "pumice/pumicelaw17.PickBests", spec := "pickBests", apart := false }
def PickBestsSaid : Prop := pickBestsRow.holds Try.pinned (OpenSpec.ofChange pickBestsSpec)

/-- ITS FALSE NEIGHBOUR: 'it returns false'. Refute it at one input. -/
def pickBestsWrong : ChangeSpec := { name := "pickBests", fn := fun _ => fun
  | [d] => { results := [.lit (.bool false)], args := [d] }
  | _ => none }
def PickBestsWrongFalsely : Prop := pickBestsRow.holds Try.pinned (OpenSpec.ofChange pickBestsWrong)

/-- 'pumicelaw17.PickOrder': WHATEVER THE INPUT: true; the input reads as it did. -/
def pickOrderSpec : ChangeSpec := { name := "pickOrder", fn := fun _ => fun
  | [d1, d2, d3] => { results := [.lit (.bool true)], args := [d1, d2, d3] }
  | _ => none }
def pickOrderRow : OpenClaim := { program := "ytcbkhgjjbponhaa", sum := "1ce5526dfa59fd9fb7a131872996f0c810c1a706429ff403b621119d708585bb", func := "pumice/pumicelaw17.PickOrder", spec := "pickOrder", apart := false }
def PickOrderSaid : Prop := pickOrderRow.holds Try.pinned (OpenSpec.ofChange pickOrderSpec)

/-- ITS FALSE NEIGHBOUR: 'it returns false'. Refute it at one input. -/
def pickOrderWrong : ChangeSpec := { name := "pickOrder", fn := fun _ => fun
  | [d1, d2, d3] => { results := [.lit (.bool false)], args := [d1, d2, d3] }
  | _ => none }
def PickOrderWrongFalsely : Prop := pickOrderRow.holds Try.pinned (OpenSpec.ofChange pickOrderWrong)

/-- 'pumicelaw17.PickTops': WHATEVER THE INPUT: true; the input reads as it did. -/
def pickTopsSpec : ChangeSpec := { name := "pickTops", fn := fun _ => fun
  | [d] => { results := [.lit (.bool true)], args := [d] }
  | _ => none }
def pickTopsRow : OpenClaim := { program := "ytcbkhgjjbponhaa", sum := "1ce5526dfa59fd9fb7a131872996f0c810c1a706429ff403b621119d708585bb", func := "pumice/pumicelaw17.PickTops", spec := "pickTops", apart := false }
def PickTopsSaid : Prop := pickTopsRow.holds Try.pinned (OpenSpec.ofChange pickTopsSpec)

/-- ITS FALSE NEIGHBOUR: 'it returns false'. Refute it at one input. -/
def pickTopsWrong : ChangeSpec := { name := "pickTops", fn := fun _ => fun
  | [d] => { results := [.lit (.bool false)], args := [d] }
  | _ => none }
def PickTopsWrongFalsely : Prop := pickTopsRow.holds Try.pinned (OpenSpec.ofChange pickTopsWrong)

/-- 'pumicelaw17.PickLess': WHATEVER THE INPUT: true; the input reads as it did. -/
def pickLessSpec : ChangeSpec := { name := "pickLess", fn := fun _ => fun
  | [d1, d2, d3] => { results := [.lit (.bool true)], args := [d1, d2, d3] }
  | _ => none }
def pickLessRow : OpenClaim := { program := "ytcbkhgjjbponhaa", sum := "1ce5526dfa59fd9fb7a131872996f0c810c1a706429ff403b621119d708585bb", func := "pumice/pumicelaw17.PickLess", spec := "pickLess", apart := false }
def PickLessSaid : Prop := pickLessRow.holds Try.pinned (OpenSpec.ofChange pickLessSpec)

/-- ITS FALSE NEIGHBOUR: 'it returns false'. Refute it at one input. -/
def pickLessWrong : ChangeSpec := { name := "pickLess", fn := fun _ => fun
  | [d1, d2, d3] => { results := [.lit (.bool false)], args := [d1, d2, d3] }
  | _ => none }
def PickLessWrongFalsely : Prop := pickLessRow.holds Try.pinned (OpenSpec.ofChange pickLessWrong)

/-- 'pumicelaw17.PickAlone': WHATEVER THE INPUT: true; the input reads as it did. -/
def pickAloneSpec : ChangeSpec := { name := "pickAlone", fn := fun _ => fun
  | [d1, d2] => { results := [.lit (.bool true)], args := [d1, d2] }
  | _ => none }
def pickAloneRow : OpenClaim := { program := "ytcbkhgjjbponhaa", sum := "1ce5526dfa59fd9fb7a131872996f0c810c1a706429ff403b621119d708585bb", func := "pumice/pumicelaw17.PickAlone", spec := "pickAlone", apart := false }
def PickAloneSaid : Prop := pickAloneRow.holds Try.pinned (OpenSpec.ofChange pickAloneSpec)

/-- ITS FALSE NEIGHBOUR: 'it returns false'. Refute it at one input. -/
def pickAloneWrong : ChangeSpec := { name := "pickAlone", fn := fun _ => fun
  | [d1, d2] => { results := [.lit (.bool false)], args := [d1, d2] }
  | _ => none }
def PickAloneWrongFalsely : Prop := pickAloneRow.holds Try.pinned (OpenSpec.ofChange pickAloneWrong)

/- THE SECOND FORM. 'bulk': how many values and letters a reading holds, each counted each time it is reached (what is shared counts as often as it is met; a slice's spare places count too). A statement '..UptoSaid' is the law's where the arguments, and the package variables that the reading takes, are together of bulk at most 1048576: NARROWER than '..Said'. Prove '..Said' where nothing that the law and all that it calls make is longer than what came in: it says more and counts as full. Else prove '..UptoSaid'. A law counts once. -/
mutual
def uptoBulk {H : Type} : DataW H → Nat
  | .lit (.string bytes) => bytes.length + 1
  | .lit _ => 1
  | .nil => 1
  | .ptr d => uptoBulk d + 1
  | .slice elems spare => uptoBulkAll elems + uptoBulkAll spare + 1
  | .agg parts => uptoBulkAll parts + 1
  | .iface _ d => uptoBulk d + 1
  | .map entries => uptoBulkEntries entries + 1
  | .held _ => 1
def uptoBulkAll {H : Type} : List (DataW H) → Nat
  | [] => 0
  | d :: r => uptoBulk d + uptoBulkAll r
def uptoBulkEntries {H : Type} : List (Lit × DataW H) → Nat
  | [] => 0
  | x :: r => uptoBulkEntry x + uptoBulkEntries r
def uptoBulkEntry {H : Type} : Lit × DataW H → Nat
  | (.string bytes, d) => bytes.length + uptoBulk d + 1
  | (_, d) => uptoBulk d + 1
 end
def uptoSmall : (H : Type) → List (DataW H) → Bool := fun _ ds => decide (uptoBulkAll ds ≤ 1048576)
def OpenSpec.upto (s : _root_.Go.ChangeSpec) : _root_.Go.OpenSpec := { _root_.Go.OpenSpec.ofChange s with cond := some uptoSmall }

/-- 'pumicelaw17.PickCompares', WHERE WHAT IT READS IS OF BULK AT MOST 1048576: true; the input reads as it did. -/
def pickComparesUptoRow : OpenClaim := { program := "ytcbkhgjjbponhaa", sum := "1ce5526dfa59fd9fb7a131872996f0c810c1a706429ff403b621119d708585bb", func := "pumice/pumicelaw17.PickCompares", spec := "pickCompares", apart := false, narrowed := true }
def PickComparesUptoSaid : Prop := pickComparesUptoRow.holds Try.pinned (OpenSpec.upto pickComparesSpec)

/-- 'pumicelaw17.PickBests', WHERE WHAT IT READS IS OF BULK AT MOST 1048576: true; the input reads as it did. -/
def pickBestsUptoRow : OpenClaim := { program := "ytcbkhgjjbponhaa", sum := "1ce5526dfa59fd9fb7a131872996f0c810c1a706429ff403b621119d708585bb", func := "pumice/pumicelaw17.PickBests", spec := "pickBests", apart := false, narrowed := true }
def PickBestsUptoSaid : Prop := pickBestsUptoRow.holds Try.pinned (OpenSpec.upto pickBestsSpec)

/-- 'pumicelaw17.PickOrder', WHERE WHAT IT READS IS OF BULK AT MOST 1048576: true; the input reads as it did. -/
def pickOrderUptoRow : OpenClaim := { program := "ytcbkhgjjbponhaa", sum := "1ce5526dfa59fd9fb7a131872996f0c810c1a706429ff403b621119d708585bb", func := "pumice/pumicelaw17.PickOrder", spec := "pickOrder", apart := false, narrowed := true }
def PickOrderUptoSaid : Prop := pickOrderUptoRow.holds Try.pinned (OpenSpec.upto pickOrderSpec)

/-- 'pumicelaw17.PickTops', WHERE WHAT IT READS IS OF BULK AT MOST 1048576: true; the input reads as it did. -/
def pickTopsUptoRow : OpenClaim := { program := "ytcbkhgjjbponhaa", sum := "1ce5526dfa59fd9fb7a131872996f0c810c1a706429ff403b621119d708585bb", func := "pumice/pumicelaw17.PickTops", spec := "pickTops", apart := false, narrowed := true }
def PickTopsUptoSaid : Prop := pickTopsUptoRow.holds Try.pinned (OpenSpec.upto pickTopsSpec)

/-- 'pumicelaw17.PickLess', WHERE WHAT IT READS IS OF BULK AT MOST 1048576: true; the input reads as it did. -/
def pickLessUptoRow : OpenClaim := { program := "ytcbkhgjjbponhaa", sum := "1ce5526dfa59fd9fb7a131872996f0c810c1a706429ff403b621119d708585bb", func := "pumice/pumicelaw17.PickLess", spec := "pickLess", apart := false, narrowed := true }
def PickLessUptoSaid : Prop := pickLessUptoRow.holds Try.pinned (OpenSpec.upto pickLessSpec)

/-- 'pumicelaw17.PickAlone', WHERE WHAT IT READS IS OF BULK AT MOST 1048576: true; the input reads as it did. -/
def pickAloneUptoRow : OpenClaim := { program := "ytcbkhgjjbponhaa", sum := "1ce5526dfa59fd9fb7a131872996f0c810c1a706429ff403b621119d708585bb", func := "pumice/pumicelaw17.PickAlone", spec := "pickAlone", apart := false, narrowed := true }
def PickAloneUptoSaid : Prop := pickAloneUptoRow.holds Try.pinned (OpenSpec.upto pickAloneSpec)

end Rows
end Go.Proofs.Ytcbkhgjjbponhaa
