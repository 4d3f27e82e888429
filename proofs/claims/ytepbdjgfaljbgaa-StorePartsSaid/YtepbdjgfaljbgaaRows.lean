/-
  No cell of these rows narrows 'for every input' (looked for: loops, veiled, ifaces, maps, wideKeys, modest, calm, conditions, laid).
  DERIVED. THE GIVEN ROWS OF THIS SEAT. 8 by the template 'for every input the law returns true; each argument reads behind the call as it read before'; 0 by the template 'total and deterministic' (their statements: YtepbdjgfaljbgaaTotals.lean).
  GIVEN WITH THE SEED: the statements are not yours to turn. If you find one false, say at which input.
  Laid BY PROGRAM, IN A SANDBOX (cutbox-rows.mjs): the forced cells as the released guide's own fill.sh prints them over the translation 8b17230389ebc0b9… (all of the seat's roots in one cut). By AI agents, Wed Nov 11 2026. No macro, syntax, notation, axiom, sorry.
-/
import Derived.Test.YtepbdjgfaljbgaaChecked
import GoSem.Claim
import GoSem.ClaimJoined
import GoSem.ClaimMapViews
import Derived.JoinedTies
import Derived.KernelRfl
namespace Go.Proofs.Ytepbdjgfaljbgaa
/- THE CELL 'sum', in the pinned program and in every row, IS THE sha256 OF THE DUMP (.gsa) THAT YtepbdjgfaljbgaaProg.lean LOADS. Nothing in Lean hashes anything: it is a label: what it is worth is what the hold of that sum in a sandbox is worth. -/
noncomputable def Try.pinned : Pinned := { name := "ytepbdjgfaljbgaa", sum := "8b17230389ebc0b95112aa36f58d3ebf2af4af4a38e84d77704f9333573ee0d0", checked := Try.checked }
namespace Rows
def none {H : Type} : Left H := { results := [], args := [] }

/-- 'pumicelaw14.QueuePlays': WHATEVER THE INPUT: true; the input reads as it did. -/
def queuePlaysSpec : ChangeSpec := { name := "queuePlays", fn := fun _ => fun
  | [d] => { results := [.lit (.bool true)], args := [d] }
  | _ => none }
def queuePlaysRow : OpenClaim := { program := "ytepbdjgfaljbgaa", sum := "8b17230389ebc0b95112aa36f58d3ebf2af4af4a38e84d77704f9333573ee0d0", func := "pumice/pumicelaw14.QueuePlays", spec := "queuePlays", plainKeys := false, apart := false }
def QueuePlaysSaid : Prop := queuePlaysRow.holds Try.pinned (OpenSpec.ofChange queuePlaysSpec)

/-- ITS FALSE NEIGHBOUR: 'it returns false'. Refute it at one input. -/
def queuePlaysWrong : ChangeSpec := { name := "queuePlays", fn := fun _ => fun
  | [d] => { results := [.lit (.bool false)], args := [d] }
  | _ => none }
def QueuePlaysWrongFalsely : Prop := queuePlaysRow.holds Try.pinned (OpenSpec.ofChange queuePlaysWrong)

/-- 'pumicelaw14.QueueLoads': WHATEVER THE INPUT: true; the input reads as it did. -/
def queueLoadsSpec : ChangeSpec := { name := "queueLoads", fn := fun _ => fun
  | [d1, d2, d3] => { results := [.lit (.bool true)], args := [d1, d2, d3] }
  | _ => none }
def queueLoadsRow : OpenClaim := { program := "ytepbdjgfaljbgaa", sum := "8b17230389ebc0b95112aa36f58d3ebf2af4af4a38e84d77704f9333573ee0d0", func := "pumice/pumicelaw14.QueueLoads", spec := "queueLoads", plainKeys := false, apart := false }
def QueueLoadsSaid : Prop := queueLoadsRow.holds Try.pinned (OpenSpec.ofChange queueLoadsSpec)

/-- ITS FALSE NEIGHBOUR: 'it returns false'. Refute it at one input. -/
def queueLoadsWrong : ChangeSpec := { name := "queueLoads", fn := fun _ => fun
  | [d1, d2, d3] => { results := [.lit (.bool false)], args := [d1, d2, d3] }
  | _ => none }
def QueueLoadsWrongFalsely : Prop := queueLoadsRow.holds Try.pinned (OpenSpec.ofChange queueLoadsWrong)

/-- 'pumicelaw14.QueueOrder': WHATEVER THE INPUT: true; the input reads as it did. -/
def queueOrderSpec : ChangeSpec := { name := "queueOrder", fn := fun _ => fun
  | [d] => { results := [.lit (.bool true)], args := [d] }
  | _ => none }
def queueOrderRow : OpenClaim := { program := "ytepbdjgfaljbgaa", sum := "8b17230389ebc0b95112aa36f58d3ebf2af4af4a38e84d77704f9333573ee0d0", func := "pumice/pumicelaw14.QueueOrder", spec := "queueOrder", plainKeys := false, apart := false }
def QueueOrderSaid : Prop := queueOrderRow.holds Try.pinned (OpenSpec.ofChange queueOrderSpec)

/-- ITS FALSE NEIGHBOUR: 'it returns false'. Refute it at one input. -/
def queueOrderWrong : ChangeSpec := { name := "queueOrder", fn := fun _ => fun
  | [d] => { results := [.lit (.bool false)], args := [d] }
  | _ => none }
def QueueOrderWrongFalsely : Prop := queueOrderRow.holds Try.pinned (OpenSpec.ofChange queueOrderWrong)

/-- 'pumicelaw14.QueueBack': WHATEVER THE INPUT: true; the input reads as it did. -/
def queueBackSpec : ChangeSpec := { name := "queueBack", fn := fun _ => fun
  | [d1, d2] => { results := [.lit (.bool true)], args := [d1, d2] }
  | _ => none }
def queueBackRow : OpenClaim := { program := "ytepbdjgfaljbgaa", sum := "8b17230389ebc0b95112aa36f58d3ebf2af4af4a38e84d77704f9333573ee0d0", func := "pumice/pumicelaw14.QueueBack", spec := "queueBack", unfollowed := true, recurses := true, plainKeys := false, apart := false }
def QueueBackSaid : Prop := queueBackRow.holds Try.pinned (OpenSpec.ofChange queueBackSpec)

/-- ITS FALSE NEIGHBOUR: 'it returns false'. Refute it at one input. -/
def queueBackWrong : ChangeSpec := { name := "queueBack", fn := fun _ => fun
  | [d1, d2] => { results := [.lit (.bool false)], args := [d1, d2] }
  | _ => none }
def QueueBackWrongFalsely : Prop := queueBackRow.holds Try.pinned (OpenSpec.ofChange queueBackWrong)

/-- 'pumicelaw14.QueueNil': WHATEVER THE INPUT: true; the input reads as it did. -/
def queueNilSpec : ChangeSpec := { name := "queueNil", fn := fun _ => fun
  | [d] => { results := [.lit (.bool true)], args := [d] }
  | _ => none }
def queueNilRow : OpenClaim := { program := "ytepbdjgfaljbgaa", sum := "8b17230389ebc0b95112aa36f58d3ebf2af4af4a38e84d77704f9333573ee0d0", func := "pumice/pumicelaw14.QueueNil", spec := "queueNil", plainKeys := false, apart := false }
def QueueNilSaid : Prop := queueNilRow.holds Try.pinned (OpenSpec.ofChange queueNilSpec)

/-- ITS FALSE NEIGHBOUR: 'it returns false'. Refute it at one input. -/
def queueNilWrong : ChangeSpec := { name := "queueNil", fn := fun _ => fun
  | [d] => { results := [.lit (.bool false)], args := [d] }
  | _ => none }
def QueueNilWrongFalsely : Prop := queueNilRow.holds Try.pinned (OpenSpec.ofChange queueNilWrong)

/-- 'pumicelaw14.QueueNewest': WHATEVER THE INPUT: true; the input reads as it did. -/
def queueNewestSpec : ChangeSpec := { name := "queueNewest", fn := fun _ => fun
  | [d1, d2] => { results := [.lit (.bool true)], args := [d1, d2] }
  | _ => none }
def queueNewestRow : OpenClaim := { program := "ytepbdjgfaljbgaa", sum := "8b17230389ebc0b95112aa36f58d3ebf2af4af4a38e84d77704f9333573ee0d0", func := "pumice/pumicelaw14.QueueNewest", spec := "queueNewest", plainKeys := false, apart := false }
def QueueNewestSaid : Prop := queueNewestRow.holds Try.pinned (OpenSpec.ofChange queueNewestSpec)

/-- ITS FALSE NEIGHBOUR: 'it returns false'. Refute it at one input. -/
def queueNewestWrong : ChangeSpec := { name := "queueNewest", fn := fun _ => fun
  | [d1, d2] => { results := [.lit (.bool false)], args := [d1, d2] }
  | _ => none }
def QueueNewestWrongFalsely : Prop := queueNewestRow.holds Try.pinned (OpenSpec.ofChange queueNewestWrong)

/-- 'pumicelaw13.StoreLoads': WHATEVER THE INPUT: true; the input reads as it did. -/
def storeLoadsSpec : ChangeSpec := { name := "storeLoads", fn := fun _ => fun
  | [d1, d2, d3] => { results := [.lit (.bool true)], args := [d1, d2, d3] }
  | _ => none }
def storeLoadsRow : OpenClaim := { program := "ytepbdjgfaljbgaa", sum := "8b17230389ebc0b95112aa36f58d3ebf2af4af4a38e84d77704f9333573ee0d0", func := "pumice/pumicelaw13.StoreLoads", spec := "storeLoads", inPlace := ["internal/bytealg.Compare"], unfollowed := true, recurses := true, plainKeys := false, apart := false }
def StoreLoadsSaid : Prop := storeLoadsRow.holds Try.pinned (OpenSpec.ofChange storeLoadsSpec)

/-- ITS FALSE NEIGHBOUR: 'it returns false'. Refute it at one input. -/
def storeLoadsWrong : ChangeSpec := { name := "storeLoads", fn := fun _ => fun
  | [d1, d2, d3] => { results := [.lit (.bool false)], args := [d1, d2, d3] }
  | _ => none }
def StoreLoadsWrongFalsely : Prop := storeLoadsRow.holds Try.pinned (OpenSpec.ofChange storeLoadsWrong)

/-- 'pumicelaw13.StoreParts': WHATEVER THE INPUT: true; the input reads as it did. -/
def storePartsSpec : ChangeSpec := { name := "storeParts", fn := fun _ => fun
  | [d] => { results := [.lit (.bool true)], args := [d] }
  | _ => none }
def storePartsRow : OpenClaim := { program := "ytepbdjgfaljbgaa", sum := "8b17230389ebc0b95112aa36f58d3ebf2af4af4a38e84d77704f9333573ee0d0", func := "pumice/pumicelaw13.StoreParts", spec := "storeParts", inPlace := ["internal/bytealg.Compare"], unfollowed := true, recurses := true, plainKeys := false, apart := false }
def StorePartsSaid : Prop := storePartsRow.holds Try.pinned (OpenSpec.ofChange storePartsSpec)

/-- ITS FALSE NEIGHBOUR: 'it returns false'. Refute it at one input. -/
def storePartsWrong : ChangeSpec := { name := "storeParts", fn := fun _ => fun
  | [d] => { results := [.lit (.bool false)], args := [d] }
  | _ => none }
def StorePartsWrongFalsely : Prop := storePartsRow.holds Try.pinned (OpenSpec.ofChange storePartsWrong)

/- THE SECOND FORM. 'bulk': how many values and letters a reading holds, each counted each time it is reached (what is shared counts as often as it is met; a slice's spare places count too). A statement '..UptoSaid' is the law's where the arguments, and the package variables that the reading takes, are together of bulk at most 1048576: NARROWER than '..Said'. Prove '..Said' where nothing that the law and all that it calls make is longer than what came in: it says more and counts as full. Else prove '..UptoSaid'. A law counts once. -/
mutual
def uptoBulk {H : Type} : DataW H → Nat
  | .lit (.string bytes) => bytes.length + 1
  | .lit _ => 1
  | .nil => 1
  | .ptr d => uptoBulk d + 1
  | .slice elems spare => uptoBulkAll elems + uptoBulkAll spare + 1
  | .agg parts => uptoBulkAll parts + 1
  | .iface _ d => uptoBulk d + 1
  | .map entries => uptoBulkEntries entries + 1
  | .held _ => 1
def uptoBulkAll {H : Type} : List (DataW H) → Nat
  | [] => 0
  | d :: r => uptoBulk d + uptoBulkAll r
def uptoBulkEntries {H : Type} : List (Lit × DataW H) → Nat
  | [] => 0
  | x :: r => uptoBulkEntry x + uptoBulkEntries r
def uptoBulkEntry {H : Type} : Lit × DataW H → Nat
  | (.string bytes, d) => bytes.length + uptoBulk d + 1
  | (_, d) => uptoBulk d + 1
 end
def uptoSmall : (H : Type) → List (DataW H) → Bool := fun _ ds => decide (uptoBulkAll ds ≤ 1048576)
def OpenSpec.upto (s : _root_.Go.ChangeSpec) : _root_.Go.OpenSpec := { _root_.Go.OpenSpec.ofChange s with cond := some uptoSmall }

/-- 'pumicelaw14.QueuePlays', WHERE WHAT IT READS IS OF BULK AT MOST 1048576: true; the input reads as it did. -/
def queuePlaysUptoRow : OpenClaim := { program := "ytepbdjgfaljbgaa", sum := "8b17230389ebc0b95112aa36f58d3ebf2af4af4a38e84d77704f9333573ee0d0", func := "pumice/pumicelaw14.QueuePlays", spec := "queuePlays", plainKeys := false, apart := false, narrowed := true }
def QueuePlaysUptoSaid : Prop := queuePlaysUptoRow.holds Try.pinned (OpenSpec.upto queuePlaysSpec)

/-- 'pumicelaw14.QueueLoads', WHERE WHAT IT READS IS OF BULK AT MOST 1048576: true; the input reads as it did. -/
def queueLoadsUptoRow : OpenClaim := { program := "ytepbdjgfaljbgaa", sum := "8b17230389ebc0b95112aa36f58d3ebf2af4af4a38e84d77704f9333573ee0d0", func := "pumice/pumicelaw14.QueueLoads", spec := "queueLoads", plainKeys := false, apart := false, narrowed := true }
def QueueLoadsUptoSaid : Prop := queueLoadsUptoRow.holds Try.pinned (OpenSpec.upto queueLoadsSpec)

/-- 'pumicelaw14.QueueOrder', WHERE WHAT IT READS IS OF BULK AT MOST 1048576: true; the input reads as it did. -/
def queueOrderUptoRow : OpenClaim := { program := "ytepbdjgfaljbgaa", sum := "8b17230389ebc0b95112aa36f58d3ebf2af4af4a38e84d77704f9333573ee0d0", func := "pumice/pumicelaw14.QueueOrder", spec := "queueOrder", plainKeys := false, apart := false, narrowed := true }
def QueueOrderUptoSaid : Prop := queueOrderUptoRow.holds Try.pinned (OpenSpec.upto queueOrderSpec)

/-- 'pumicelaw14.QueueBack', WHERE WHAT IT READS IS OF BULK AT MOST 1048576: true; the input reads as it did. -/
def queueBackUptoRow : OpenClaim := { program := "ytepbdjgfaljbgaa", sum := "8b17230389ebc0b95112aa36f58d3ebf2af4af4a38e84d77704f9333573ee0d0", func := "pumice/pumicelaw14.QueueBack", spec := "queueBack", unfollowed := true, recurses := true, plainKeys := false, apart := false, narrowed := true }
def QueueBackUptoSaid : Prop := queueBackUptoRow.holds Try.pinned (OpenSpec.upto queueBackSpec)

/-- 'pumicelaw14.QueueNil', WHERE WHAT IT READS IS OF BULK AT MOST 1048576: true; the input reads as it did. -/
def queueNilUptoRow : OpenClaim := { program := "ytepbdjgfaljbgaa", sum := "8b17230389ebc0b95112aa36f58d3ebf2af4af4a38e84d77704f9333573ee0d0", func := "pumice/pumicelaw14.QueueNil", spec := "queueNil", plainKeys := false, apart := false, narrowed := true }
def QueueNilUptoSaid : Prop := queueNilUptoRow.holds Try.pinned (OpenSpec.upto queueNilSpec)

/-- 'pumicelaw14.QueueNewest', WHERE WHAT IT READS IS OF BULK AT MOST 1048576: true; the input reads as it did. -/
def queueNewestUptoRow : OpenClaim := { program := "ytepbdjgfaljbgaa", sum := "8b17230389ebc0b95112aa36f58d3ebf2af4af4a38e84d77704f9333573ee0d0", func := "pumice/pumicelaw14.QueueNewest", spec := "queueNewest", plainKeys := false, apart := false, narrowed := true }
def QueueNewestUptoSaid : Prop := queueNewestUptoRow.holds Try.pinned (OpenSpec.upto queueNewestSpec)

/-- 'pumicelaw13.StoreLoads', WHERE WHAT IT READS IS OF BULK AT MOST 1048576: true; the input reads as it did. -/
def storeLoadsUptoRow : OpenClaim := { program := "ytepbdjgfaljbgaa", sum := "8b17230389ebc0b95112aa36f58d3ebf2af4af4a38e84d77704f9333573ee0d0", func := "pumice/pumicelaw13.StoreLoads", spec := "storeLoads", inPlace := ["internal/bytealg.Compare"], unfollowed := true, recurses := true, plainKeys := false, apart := false, narrowed := true }
def StoreLoadsUptoSaid : Prop := storeLoadsUptoRow.holds Try.pinned (OpenSpec.upto storeLoadsSpec)

/-- 'pumicelaw13.StoreParts', WHERE WHAT IT READS IS OF BULK AT MOST 1048576: true; the input reads as it did. -/
def storePartsUptoRow : OpenClaim := { program := "ytepbdjgfaljbgaa", sum := "8b17230389ebc0b95112aa36f58d3ebf2af4af4a38e84d77704f9333573ee0d0", func := "pumice/pumicelaw13.StoreParts", spec := "storeParts", inPlace := ["internal/bytealg.Compare"], unfollowed := true, recurses := true, plainKeys := false, apart := false, narrowed := true }
def StorePartsUptoSaid : Prop := storePartsUptoRow.holds Try.pinned (OpenSpec.upto storePartsSpec)

end Rows
end Go.Proofs.Ytepbdjgfaljbgaa
