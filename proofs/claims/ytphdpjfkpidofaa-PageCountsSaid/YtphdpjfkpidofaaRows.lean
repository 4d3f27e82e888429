/-
  No cell of these rows narrows 'for every input' (looked for: loops, veiled, ifaces, maps, wideKeys, modest, calm, conditions, laid).
  DERIVED. THE GIVEN ROWS OF THIS SEAT. 8 by the template 'for every input the law returns true; each argument reads behind the call as it read before'; 0 by the template 'total and deterministic' (their statements: YtphdpjfkpidofaaTotals.lean).
  GIVEN WITH THE SEED: the statements are not yours to turn. If you find one false, say at which input.
  Laid BY PROGRAM, IN A SANDBOX (cutbox-rows.mjs): the forced cells as the released guide's own fill.sh prints them over the translation 355097f98017c5b9… (all of the seat's roots in one cut). By AI agents, Wed Nov 11 2026. No macro, syntax, notation, axiom, sorry.
-/
import Derived.Test.YtphdpjfkpidofaaChecked
import GoSem.Claim
import GoSem.ClaimJoined
import GoSem.ClaimMapViews
import Derived.JoinedTies
import Derived.KernelRfl
namespace Go.Proofs.Ytphdpjfkpidofaa
/- THE CELL 'sum', in the pinned program and in every row, IS THE sha256 OF THE DUMP (.gsa) THAT YtphdpjfkpidofaaProg.lean LOADS. Nothing in Lean hashes anything: it is a label: what it is worth is what the hold of that sum in a sandbox is worth. -/
noncomputable def Try.pinned : Pinned := { name := "ytphdpjfkpidofaa", sum := "355097f98017c5b9d55cb037f667f3c12b250cb307519de67cda14315bc825bf", checked := Try.checked }
namespace Rows
def none {H : Type} : Left H := { results := [], args := [] }

/-- 'pumicelaw09.PageLays': WHATEVER THE INPUT: true; the input reads as it did. -/
def pageLaysSpec : ChangeSpec := { name := "pageLays", fn := fun _ => fun
  | [d] => { results := [.lit (.bool true)], args := [d] }
  | _ => none }
def pageLaysRow : OpenClaim := { program := "ytphdpjfkpidofaa", sum := "355097f98017c5b9d55cb037f667f3c12b250cb307519de67cda14315bc825bf", func := "pumice/pumicelaw09.PageLays", spec := "pageLays", apart := false }
def PageLaysSaid : Prop := pageLaysRow.holds Try.pinned (OpenSpec.ofChange pageLaysSpec)

/-- ITS FALSE NEIGHBOUR: 'it returns false'. Refute it at one input. -/
def pageLaysWrong : ChangeSpec := { name := "pageLays", fn := fun _ => fun
  | [d] => { results := [.lit (.bool false)], args := [d] }
  | _ => none }
def PageLaysWrongFalsely : Prop := pageLaysRow.holds Try.pinned (OpenSpec.ofChange pageLaysWrong)

/-- 'pumicelaw09.PageTakes': WHATEVER THE INPUT: true; the input reads as it did. -/
def pageTakesSpec : ChangeSpec := { name := "pageTakes", fn := fun _ => fun
  | [d] => { results := [.lit (.bool true)], args := [d] }
  | _ => none }
def pageTakesRow : OpenClaim := { program := "ytphdpjfkpidofaa", sum := "355097f98017c5b9d55cb037f667f3c12b250cb307519de67cda14315bc825bf", func := "pumice/pumicelaw09.PageTakes", spec := "pageTakes", apart := false }
def PageTakesSaid : Prop := pageTakesRow.holds Try.pinned (OpenSpec.ofChange pageTakesSpec)

/-- ITS FALSE NEIGHBOUR: 'it returns false'. Refute it at one input. -/
def pageTakesWrong : ChangeSpec := { name := "pageTakes", fn := fun _ => fun
  | [d] => { results := [.lit (.bool false)], args := [d] }
  | _ => none }
def PageTakesWrongFalsely : Prop := pageTakesRow.holds Try.pinned (OpenSpec.ofChange pageTakesWrong)

/-- 'pumicelaw09.PageSplits': WHATEVER THE INPUT: true; the input reads as it did. -/
def pageSplitsSpec : ChangeSpec := { name := "pageSplits", fn := fun _ => fun
  | [d1, d2] => { results := [.lit (.bool true)], args := [d1, d2] }
  | _ => none }
def pageSplitsRow : OpenClaim := { program := "ytphdpjfkpidofaa", sum := "355097f98017c5b9d55cb037f667f3c12b250cb307519de67cda14315bc825bf", func := "pumice/pumicelaw09.PageSplits", spec := "pageSplits", apart := false }
def PageSplitsSaid : Prop := pageSplitsRow.holds Try.pinned (OpenSpec.ofChange pageSplitsSpec)

/-- ITS FALSE NEIGHBOUR: 'it returns false'. Refute it at one input. -/
def pageSplitsWrong : ChangeSpec := { name := "pageSplits", fn := fun _ => fun
  | [d1, d2] => { results := [.lit (.bool false)], args := [d1, d2] }
  | _ => none }
def PageSplitsWrongFalsely : Prop := pageSplitsRow.holds Try.pinned (OpenSpec.ofChange pageSplitsWrong)

/-- 'pumicelaw09.PageJoins': WHATEVER THE INPUT: true; the input reads as it did. -/
def pageJoinsSpec : ChangeSpec := { name := "pageJoins", fn := fun _ => fun
  | [d] => { results := [.lit (.bool true)], args := [d] }
  | _ => none }
def pageJoinsRow : OpenClaim := { program := "ytphdpjfkpidofaa", sum := "355097f98017c5b9d55cb037f667f3c12b250cb307519de67cda14315bc825bf", func := "pumice/pumicelaw09.PageJoins", spec := "pageJoins", apart := false }
def PageJoinsSaid : Prop := pageJoinsRow.holds Try.pinned (OpenSpec.ofChange pageJoinsSpec)

/-- ITS FALSE NEIGHBOUR: 'it returns false'. Refute it at one input. -/
def pageJoinsWrong : ChangeSpec := { name := "pageJoins", fn := fun _ => fun
  | [d] => { results := [.lit (.bool false)], args := [d] }
  | _ => none }
def PageJoinsWrongFalsely : Prop := pageJoinsRow.holds Try.pinned (OpenSpec.ofChange pageJoinsWrong)

/-- 'pumicelaw09.PageBack': WHATEVER THE INPUT: true; the input reads as it did. -/
def pageBackSpec : ChangeSpec := { name := "pageBack", fn := fun _ => fun
  | [d1, d2] => { results := [.lit (.bool true)], args := [d1, d2] }
  | _ => none }
def pageBackRow : OpenClaim := { program := "ytphdpjfkpidofaa", sum := "355097f98017c5b9d55cb037f667f3c12b250cb307519de67cda14315bc825bf", func := "pumice/pumicelaw09.PageBack", spec := "pageBack", apart := false }
def PageBackSaid : Prop := pageBackRow.holds Try.pinned (OpenSpec.ofChange pageBackSpec)

/-- ITS FALSE NEIGHBOUR: 'it returns false'. Refute it at one input. -/
def pageBackWrong : ChangeSpec := { name := "pageBack", fn := fun _ => fun
  | [d1, d2] => { results := [.lit (.bool false)], args := [d1, d2] }
  | _ => none }
def PageBackWrongFalsely : Prop := pageBackRow.holds Try.pinned (OpenSpec.ofChange pageBackWrong)

/-- 'pumicelaw09.PageWhole': WHATEVER THE INPUT: true; the input reads as it did. -/
def pageWholeSpec : ChangeSpec := { name := "pageWhole", fn := fun _ => fun
  | [d1, d2, d3, d4] => { results := [.lit (.bool true)], args := [d1, d2, d3, d4] }
  | _ => none }
def pageWholeRow : OpenClaim := { program := "ytphdpjfkpidofaa", sum := "355097f98017c5b9d55cb037f667f3c12b250cb307519de67cda14315bc825bf", func := "pumice/pumicelaw09.PageWhole", spec := "pageWhole", apart := false }
def PageWholeSaid : Prop := pageWholeRow.holds Try.pinned (OpenSpec.ofChange pageWholeSpec)

/-- ITS FALSE NEIGHBOUR: 'it returns false'. Refute it at one input. -/
def pageWholeWrong : ChangeSpec := { name := "pageWhole", fn := fun _ => fun
  | [d1, d2, d3, d4] => { results := [.lit (.bool false)], args := [d1, d2, d3, d4] }
  | _ => none }
def PageWholeWrongFalsely : Prop := pageWholeRow.holds Try.pinned (OpenSpec.ofChange pageWholeWrong)

/-- 'pumicelaw09.PageTorn': WHATEVER THE INPUT: true; the input reads as it did. -/
def pageTornSpec : ChangeSpec := { name := "pageTorn", fn := fun _ => fun
  | [d1, d2] => { results := [.lit (.bool true)], args := [d1, d2] }
  | _ => none }
def pageTornRow : OpenClaim := { program := "ytphdpjfkpidofaa", sum := "355097f98017c5b9d55cb037f667f3c12b250cb307519de67cda14315bc825bf", func := "pumice/pumicelaw09.PageTorn", spec := "pageTorn", apart := false }
def PageTornSaid : Prop := pageTornRow.holds Try.pinned (OpenSpec.ofChange pageTornSpec)

/-- ITS FALSE NEIGHBOUR: 'it returns false'. Refute it at one input. -/
def pageTornWrong : ChangeSpec := { name := "pageTorn", fn := fun _ => fun
  | [d1, d2] => { results := [.lit (.bool false)], args := [d1, d2] }
  | _ => none }
def PageTornWrongFalsely : Prop := pageTornRow.holds Try.pinned (OpenSpec.ofChange pageTornWrong)

/-- 'pumicelaw09.PageCounts': WHATEVER THE INPUT: true; the input reads as it did. -/
def pageCountsSpec : ChangeSpec := { name := "pageCounts", fn := fun _ => fun
  | [d1, d2] => { results := [.lit (.bool true)], args := [d1, d2] }
  | _ => none }
def pageCountsRow : OpenClaim := { program := "ytphdpjfkpidofaa", sum := "355097f98017c5b9d55cb037f667f3c12b250cb307519de67cda14315bc825bf", func := "pumice/pumicelaw09.PageCounts", spec := "pageCounts", apart := false }
def PageCountsSaid : Prop := pageCountsRow.holds Try.pinned (OpenSpec.ofChange pageCountsSpec)

/-- ITS FALSE NEIGHBOUR: 'it returns false'. Refute it at one input. -/
def pageCountsWrong : ChangeSpec := { name := "pageCounts", fn := fun _ => fun
  | [d1, d2] => { results := [.lit (.bool false)], args := [d1, d2] }
  | _ => none }
def PageCountsWrongFalsely : Prop := pageCountsRow.holds Try.pinned (OpenSpec.ofChange pageCountsWrong)

/- THE SECOND FORM. 'bulk': how many values and letters a reading holds, each counted each time it is reached (what is shared counts as often as it is met; a slice's spare places count too). A statement '..UptoSaid' is the law's where the arguments, and the package variables that the reading takes, are together of bulk at most 1048576: NARROWER than '..Said'. Prove '..Said' where nothing that the law and all that it calls make is longer than what came in: it says more and counts as full. Else prove '..UptoSaid'. A law counts once. -/
mutual
def uptoBulk {H : Type} : DataW H → Nat
  | .lit (.string bytes) => bytes.length + 1
  | .lit _ => 1
  | .nil => 1
  | .ptr d => uptoBulk d + 1
  | .slice elems spare => uptoBulkAll elems + uptoBulkAll spare + 1
  | .agg parts => uptoBulkAll parts + 1
  | .iface _ d => uptoBulk d + 1
  | .map entries => uptoBulkEntries entries + 1
  | .held _ => 1
def uptoBulkAll {H : Type} : List (DataW H) → Nat
  | [] => 0
  | d :: r => uptoBulk d + uptoBulkAll r
def uptoBulkEntries {H : Type} : List (Lit × DataW H) → Nat
  | [] => 0
  | x :: r => uptoBulkEntry x + uptoBulkEntries r
def uptoBulkEntry {H : Type} : Lit × DataW H → Nat
  | (.string bytes, d) => bytes.length + uptoBulk d + 1
  | (_, d) => uptoBulk d + 1
 end
def uptoSmall : (H : Type) → List (DataW H) → Bool := fun _ ds => decide (uptoBulkAll ds ≤ 1048576)
def OpenSpec.upto (s : _root_.Go.ChangeSpec) : _root_.Go.OpenSpec := { _root_.Go.OpenSpec.ofChange s with cond := some uptoSmall }

/-- 'pumicelaw09.PageLays', WHERE WHAT IT READS IS OF BULK AT MOST 1048576: true; the input reads as it did. -/
def pageLaysUptoRow : OpenClaim := { program := "ytphdpjfkpidofaa", sum := "355097f98017c5b9d55cb037f667f3c12b250cb307519de67cda14315bc825bf", func := "pumice/pumicelaw09.PageLays", spec := "pageLays", apart := false, narrowed := true }
def PageLaysUptoSaid : Prop := pageLaysUptoRow.holds Try.pinned (OpenSpec.upto pageLaysSpec)

/-- 'pumicelaw09.PageTakes', WHERE WHAT IT READS IS OF BULK AT MOST 1048576: true; the input reads as it did. -/
def pageTakesUptoRow : OpenClaim := { program := "ytphdpjfkpidofaa", sum := "355097f98017c5b9d55cb037f667f3c12b250cb307519de67cda14315bc825bf", func := "pumice/pumicelaw09.PageTakes", spec := "pageTakes", apart := false, narrowed := true }
def PageTakesUptoSaid : Prop := pageTakesUptoRow.holds Try.pinned (OpenSpec.upto pageTakesSpec)

/-- 'pumicelaw09.PageSplits', WHERE WHAT IT READS IS OF BULK AT MOST 1048576: true; the input reads as it did. -/
def pageSplitsUptoRow : OpenClaim := { program := "ytphdpjfkpidofaa", sum := "355097f98017c5b9d55cb037f667f3c12b250cb307519de67cda14315bc825bf", func := "pumice/pumicelaw09.PageSplits", spec := "pageSplits", apart := false, narrowed := true }
def PageSplitsUptoSaid : Prop := pageSplitsUptoRow.holds Try.pinned (OpenSpec.upto pageSplitsSpec)

/-- 'pumicelaw09.PageJoins', WHERE WHAT IT READS IS OF BULK AT MOST 1048576: true; the input reads as it did. -/
def pageJoinsUptoRow : OpenClaim := { program := "ytphdpjfkpidofaa", sum := "355097f98017c5b9d55cb037f667f3c12b250cb307519de67cda14315bc825bf", func := "pumice/pumicelaw09.PageJoins", spec := "pageJoins", apart := false, narrowed := true }
def PageJoinsUptoSaid : Prop := pageJoinsUptoRow.holds Try.pinned (OpenSpec.upto pageJoinsSpec)

/-- 'pumicelaw09.PageBack', WHERE WHAT IT READS IS OF BULK AT MOST 1048576: true; the input reads as it did. -/
def pageBackUptoRow : OpenClaim := { program := "ytphdpjfkpidofaa", sum := "355097f98017c5b9d55cb037f667f3c12b250cb307519de67cda14315bc825bf", func := "pumice/pumicelaw09.PageBack", spec := "pageBack", apart := false, narrowed := true }
def PageBackUptoSaid : Prop := pageBackUptoRow.holds Try.pinned (OpenSpec.upto pageBackSpec)

/-- 'pumicelaw09.PageWhole', WHERE WHAT IT READS IS OF BULK AT MOST 1048576: true; the input reads as it did. -/
def pageWholeUptoRow : OpenClaim := { program := "ytphdpjfkpidofaa", sum := "355097f98017c5b9d55cb037f667f3c12b250cb307519de67cda14315bc825bf", func := "pumice/pumicelaw09.PageWhole", spec := "pageWhole", apart := false, narrowed := true }
def PageWholeUptoSaid : Prop := pageWholeUptoRow.holds Try.pinned (OpenSpec.upto pageWholeSpec)

/-- 'pumicelaw09.PageTorn', WHERE WHAT IT READS IS OF BULK AT MOST 1048576: true; the input reads as it did. -/
def pageTornUptoRow : OpenClaim := { program := "ytphdpjfkpidofaa", sum := "355097f98017c5b9d55cb037f667f3c12b250cb307519de67cda14315bc825bf", func := "pumice/pumicelaw09.PageTorn", spec := "pageTorn", apart := false, narrowed := true }
def PageTornUptoSaid : Prop := pageTornUptoRow.holds Try.pinned (OpenSpec.upto pageTornSpec)

/-- 'pumicelaw09.PageCounts', WHERE WHAT IT READS IS OF BULK AT MOST 1048576: true; the input reads as it did. -/
def pageCountsUptoRow : OpenClaim := { program := "ytphdpjfkpidofaa", sum := "355097f98017c5b9d55cb037f667f3c12b250cb307519de67cda14315bc825bf", func := "pumice/pumicelaw09.PageCounts", spec := "pageCounts", apart := false, narrowed := true }
def PageCountsUptoSaid : Prop := pageCountsUptoRow.holds Try.pinned (OpenSpec.upto pageCountsSpec)

end Rows
end Go.Proofs.Ytphdpjfkpidofaa
