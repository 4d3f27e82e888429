/-
  No cell of these rows narrows 'for every input' (looked for: loops, veiled, ifaces, maps, wideKeys, modest, calm, conditions, laid).
  DERIVED. THE GIVEN ROWS OF THIS SEAT. 5 by the template 'for every input the law returns true; each argument reads behind the call as it read before'; 0 by the template 'total and deterministic' (their statements: YtlnhkiamhmjckaaTotals.lean).
  GIVEN WITH THE SEED: the statements are not yours to turn. If you find one false, say at which input.
  Laid BY PROGRAM, IN A SANDBOX (cutbox-rows.mjs): the forced cells as the released guide's own fill.sh prints them over the translation 67066e7a3d84e947… (all of the seat's roots in one cut). By AI agents, Wed Nov 11 2026. No macro, syntax, notation, axiom, sorry.
-/
import Derived.Test.YtlnhkiamhmjckaaChecked
import GoSem.Claim
import GoSem.ClaimJoined
import GoSem.ClaimMapViews
import Derived.JoinedTies
import Derived.KernelRfl
namespace Go.Proofs.Ytlnhkiamhmjckaa
/- THE CELL 'sum', in the pinned program and in every row, IS THE sha256 OF THE DUMP (.gsa) THAT YtlnhkiamhmjckaaProg.lean LOADS. Nothing in Lean hashes anything: it is a label: what it is worth is what the hold of that sum in a sandbox is worth. -/
noncomputable def Try.pinned : Pinned := { name := "ytlnhkiamhmjckaa", sum := "67066e7a3d84e947c256284d4393ca6afc12f43ea102c03cfdaf09c5e5f4e954", checked := Try.checked }
namespace Rows
def none {H : Type} : Left H := { results := [], args := [] }

/-- 'pumicelaw15.GhostPlays': WHATEVER THE INPUT: true; the input reads as it did. -/
def ghostPlaysSpec : ChangeSpec := { name := "ghostPlays", fn := fun _ => fun
  | [d1, d2] => { results := [.lit (.bool true)], args := [d1, d2] }
  | _ => none }
def ghostPlaysRow : OpenClaim := { program := "ytlnhkiamhmjckaa", sum := "67066e7a3d84e947c256284d4393ca6afc12f43ea102c03cfdaf09c5e5f4e954", func := "pumice/pumicelaw15.GhostPlays", spec := "ghostPlays", apart := false }
def GhostPlaysSaid : Prop := ghostPlaysRow.holds Try.pinned (OpenSpec.ofChange ghostPlaysSpec)

/-- ITS FALSE NEIGHBOUR: 'it returns false'. Refute it at one input. -/
def ghostPlaysWrong : ChangeSpec := { name := "ghostPlays", fn := fun _ => fun
  | [d1, d2] => { results := [.lit (.bool false)], args := [d1, d2] }
  | _ => none }
def GhostPlaysWrongFalsely : Prop := ghostPlaysRow.holds Try.pinned (OpenSpec.ofChange ghostPlaysWrong)

/-- 'pumicelaw15.GhostRoom': WHATEVER THE INPUT: true; the input reads as it did. -/
def ghostRoomSpec : ChangeSpec := { name := "ghostRoom", fn := fun _ => fun
  | [d1, d2] => { results := [.lit (.bool true)], args := [d1, d2] }
  | _ => none }
def ghostRoomRow : OpenClaim := { program := "ytlnhkiamhmjckaa", sum := "67066e7a3d84e947c256284d4393ca6afc12f43ea102c03cfdaf09c5e5f4e954", func := "pumice/pumicelaw15.GhostRoom", spec := "ghostRoom", apart := false }
def GhostRoomSaid : Prop := ghostRoomRow.holds Try.pinned (OpenSpec.ofChange ghostRoomSpec)

/-- ITS FALSE NEIGHBOUR: 'it returns false'. Refute it at one input. -/
def ghostRoomWrong : ChangeSpec := { name := "ghostRoom", fn := fun _ => fun
  | [d1, d2] => { results := [.lit (.bool false)], args := [d1, d2] }
  | _ => none }
def GhostRoomWrongFalsely : Prop := ghostRoomRow.holds Try.pinned (OpenSpec.ofChange ghostRoomWrong)

/-- 'pumicelaw15.GhostKnown': WHATEVER THE INPUT: true; the input reads as it did. -/
def ghostKnownSpec : ChangeSpec := { name := "ghostKnown", fn := fun _ => fun
  | [d1, d2, d3, d4] => { results := [.lit (.bool true)], args := [d1, d2, d3, d4] }
  | _ => none }
def ghostKnownRow : OpenClaim := { program := "ytlnhkiamhmjckaa", sum := "67066e7a3d84e947c256284d4393ca6afc12f43ea102c03cfdaf09c5e5f4e954", func := "pumice/pumicelaw15.GhostKnown", spec := "ghostKnown", apart := false }
def GhostKnownSaid : Prop := ghostKnownRow.holds Try.pinned (OpenSpec.ofChange ghostKnownSpec)

/-- ITS FALSE NEIGHBOUR: 'it returns false'. Refute it at one input. -/
def ghostKnownWrong : ChangeSpec := { name := "ghostKnown", fn := fun _ => fun
  | [d1, d2, d3, d4] => { results := [.lit (.bool false)], args := [d1, d2, d3, d4] }
  | _ => none }
def GhostKnownWrongFalsely : Prop := ghostKnownRow.holds Try.pinned (OpenSpec.ofChange ghostKnownWrong)

/-- 'pumicelaw15.GhostNil': WHATEVER THE INPUT: true; the input reads as it did. -/
def ghostNilSpec : ChangeSpec := { name := "ghostNil", fn := fun _ => fun
  | [d] => { results := [.lit (.bool true)], args := [d] }
  | _ => none }
def ghostNilRow : OpenClaim := { program := "ytlnhkiamhmjckaa", sum := "67066e7a3d84e947c256284d4393ca6afc12f43ea102c03cfdaf09c5e5f4e954", func := "pumice/pumicelaw15.GhostNil", spec := "ghostNil", apart := false }
def GhostNilSaid : Prop := ghostNilRow.holds Try.pinned (OpenSpec.ofChange ghostNilSpec)

/-- ITS FALSE NEIGHBOUR: 'it returns false'. Refute it at one input. -/
def ghostNilWrong : ChangeSpec := { name := "ghostNil", fn := fun _ => fun
  | [d] => { results := [.lit (.bool false)], args := [d] }
  | _ => none }
def GhostNilWrongFalsely : Prop := ghostNilRow.holds Try.pinned (OpenSpec.ofChange ghostNilWrong)

/-- 'pumicelaw15.GhostFirst': WHATEVER THE INPUT: true; the input reads as it did. -/
def ghostFirstSpec : ChangeSpec := { name := "ghostFirst", fn := fun _ => fun
  | [d1, d2, d3] => { results := [.lit (.bool true)], args := [d1, d2, d3] }
  | _ => none }
def ghostFirstRow : OpenClaim := { program := "ytlnhkiamhmjckaa", sum := "67066e7a3d84e947c256284d4393ca6afc12f43ea102c03cfdaf09c5e5f4e954", func := "pumice/pumicelaw15.GhostFirst", spec := "ghostFirst", apart := false }
def GhostFirstSaid : Prop := ghostFirstRow.holds Try.pinned (OpenSpec.ofChange ghostFirstSpec)

/-- ITS FALSE NEIGHBOUR: 'it returns false'. Refute it at one input. -/
def ghostFirstWrong : ChangeSpec := { name := "ghostFirst", fn := fun _ => fun
  | [d1, d2, d3] => { results := [.lit (.bool false)], args := [d1, d2, d3] }
  | _ => none }
def GhostFirstWrongFalsely : Prop := ghostFirstRow.holds Try.pinned (OpenSpec.ofChange ghostFirstWrong)

/- THE SECOND FORM. 'bulk': how many values and letters a reading holds, each counted each time it is reached (what is shared counts as often as it is met; a slice's spare places count too). A statement '..UptoSaid' is the law's where the arguments, and the package variables that the reading takes, are together of bulk at most 1048576: NARROWER than '..Said'. Prove '..Said' where nothing that the law and all that it calls make is longer than what came in: it says more and counts as full. Else prove '..UptoSaid'. A law counts once. -/
mutual
def uptoBulk {H : Type} : DataW H → Nat
  | .lit (.string bytes) => bytes.length + 1
  | .lit _ => 1
  | .nil => 1
  | .ptr d => uptoBulk d + 1
  | .slice elems spare => uptoBulkAll elems + uptoBulkAll spare + 1
  | .agg parts => uptoBulkAll parts + 1
  | .iface _ d => uptoBulk d + 1
  | .map entries => uptoBulkEntries entries + 1
  | .held _ => 1
def uptoBulkAll {H : Type} : List (DataW H) → Nat
  | [] => 0
  | d :: r => uptoBulk d + uptoBulkAll r
def uptoBulkEntries {H : Type} : List (Lit × DataW H) → Nat
  | [] => 0
  | x :: r => uptoBulkEntry x + uptoBulkEntries r
def uptoBulkEntry {H : Type} : Lit × DataW H → Nat
  | (.string bytes, d) => bytes.length + uptoBulk d + 1
  | (_, d) => uptoBulk d + 1
 end
def uptoSmall : (H : Type) → List (DataW H) → Bool := fun _ ds => decide (uptoBulkAll ds ≤ 1048576)
def OpenSpec.upto (s : _root_.Go.ChangeSpec) : _root_.Go.OpenSpec := { _root_.Go.OpenSpec.ofChange s with cond := some uptoSmall }

/-- 'pumicelaw15.GhostPlays', WHERE WHAT IT READS IS OF BULK AT MOST 1048576: true; the input reads as it did. -/
def ghostPlaysUptoRow : OpenClaim := { program := "ytlnhkiamhmjckaa", sum := "67066e7a3d84e947c256284d4393ca6afc12f43ea102c03cfdaf09c5e5f4e954", func := "pumice/pumicelaw15.GhostPlays", spec := "ghostPlays", apart := false, narrowed := true }
def GhostPlaysUptoSaid : Prop := ghostPlaysUptoRow.holds Try.pinned (OpenSpec.upto ghostPlaysSpec)

/-- 'pumicelaw15.GhostRoom', WHERE WHAT IT READS IS OF BULK AT MOST 1048576: true; the input reads as it did. -/
def ghostRoomUptoRow : OpenClaim := { program := "ytlnhkiamhmjckaa", sum := "67066e7a3d84e947c256284d4393ca6afc12f43ea102c03cfdaf09c5e5f4e954", func := "pumice/pumicelaw15.GhostRoom", spec := "ghostRoom", apart := false, narrowed := true }
def GhostRoomUptoSaid : Prop := ghostRoomUptoRow.holds Try.pinned (OpenSpec.upto ghostRoomSpec)

/-- 'pumicelaw15.GhostKnown', WHERE WHAT IT READS IS OF BULK AT MOST 1048576: true; the input reads as it did. -/
def ghostKnownUptoRow : OpenClaim := { program := "ytlnhkiamhmjckaa", sum := "67066e7a3d84e947c256284d4393ca6afc12f43ea102c03cfdaf09c5e5f4e954", func := "pumice/pumicelaw15.GhostKnown", spec := "ghostKnown", apart := false, narrowed := true }
def GhostKnownUptoSaid : Prop := ghostKnownUptoRow.holds Try.pinned (OpenSpec.upto ghostKnownSpec)

/-- 'pumicelaw15.GhostNil', WHERE WHAT IT READS IS OF BULK AT MOST 1048576: true; the input reads as it did. -/
def ghostNilUptoRow : OpenClaim := { program := "ytlnhkiamhmjckaa", sum := "67066e7a3d84e947c256284d4393ca6afc12f43ea102c03cfdaf09c5e5f4e954", func := "pumice/pumicelaw15.GhostNil", spec := "ghostNil", apart := false, narrowed := true }
def GhostNilUptoSaid : Prop := ghostNilUptoRow.holds Try.pinned (OpenSpec.upto ghostNilSpec)

/-- 'pumicelaw15.GhostFirst', WHERE WHAT IT READS IS OF BULK AT MOST 1048576: true; the input reads as it did. -/
def ghostFirstUptoRow : OpenClaim := { program := "ytlnhkiamhmjckaa", sum := "67066e7a3d84e947c256284d4393ca6afc12f43ea102c03cfdaf09c5e5f4e954", func := "pumice/pumicelaw15.GhostFirst", spec := "ghostFirst", apart := false, narrowed := true }
def GhostFirstUptoSaid : Prop := ghostFirstUptoRow.holds Try.pinned (OpenSpec.upto ghostFirstSpec)

end Rows
end Go.Proofs.Ytlnhkiamhmjckaa
