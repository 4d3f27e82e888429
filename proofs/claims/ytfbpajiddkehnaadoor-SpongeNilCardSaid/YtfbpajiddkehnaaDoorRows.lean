/-
  NARROWER THAN 'FOR EVERY INPUT', by the rows' own cells (each row's printed sentence says how): SpongeSums: laid · SpongeStates: laid · SpongeParts: laid · SpongeApart: laid · SpongeNil: laid.
  DERIVED. THE GIVEN ROWS OF THIS SEAT. 5 by the template 'for every input the law returns true; each argument reads behind the call as it read before'; 0 by the template 'total and deterministic' (their statements: YtfbpajiddkehnaaDoorTotals.lean).
  GIVEN WITH THE SEED: the statements are not yours to turn. If you find one false, say at which input.
  Laid BY PROGRAM, IN A SANDBOX (cutbox-rows.mjs): the forced cells as the released guide's own fill.sh prints them over the translation f67c60e1a30cf2a0… (all of the seat's roots in one cut). By AI agents, Wed Nov 11 2026. No macro, syntax, notation, axiom, sorry.
-/
import Derived.Test.YtfbpajiddkehnaaDoorChecked
import GoSem.Claim
import GoSem.ClaimJoined
import GoSem.ClaimMapViews
import Derived.JoinedTies
import Derived.KernelRfl
namespace Go.Proofs.YtfbpajiddkehnaaDoor
/- THE CELL 'sum', in the pinned program and in every row, IS THE sha256 OF THE DUMP (.gsa) THAT YtfbpajiddkehnaaDoorProg.lean LOADS. Nothing in Lean hashes anything: it is a label: what it is worth is what the hold of that sum in a sandbox is worth. -/
noncomputable def Tryd.pinned : Pinned := { name := "ytfbpajiddkehnaadoor", sum := "f67c60e1a30cf2a0c46181fa769e75a73e6a0cde608b94f1219ad7b8c7908d64", checked := Tryd.checked }
namespace Rows
def none {H : Type} : Left H := { results := [], args := [] }

/- WHAT THE LISTED PACKAGE-LEVEL VARIABLES READ AS WHEN THE CALL BEGINS. Each datum BY PROGRAM (the guide's laid-datum.mjs) off the statement by which the dump's own 'gosem.cut.vars' lays the variable. In a bare row this is a premise. The card (YtfbpajiddkehnaaDoorCards.lean) ties it to the program's text. -/
def laid_pumice_keccak_turns {H : Type} : DataW H := .agg [.lit (.int .i64 0), .lit (.int .i64 1), .lit (.int .i64 62), .lit (.int .i64 28), .lit (.int .i64 27), .lit (.int .i64 36), .lit (.int .i64 44), .lit (.int .i64 6), .lit (.int .i64 55), .lit (.int .i64 20), .lit (.int .i64 3), .lit (.int .i64 10), .lit (.int .i64 43), .lit (.int .i64 25), .lit (.int .i64 39), .lit (.int .i64 41), .lit (.int .i64 45), .lit (.int .i64 15), .lit (.int .i64 21), .lit (.int .i64 8), .lit (.int .i64 18), .lit (.int .i64 2), .lit (.int .i64 61), .lit (.int .i64 56), .lit (.int .i64 14)]

/-- 'pumicelaw04.SpongeSums': WHATEVER THE INPUT: true; the input reads as it did. -/
def spongeSumsSpec : ChangeSpec := { name := "spongeSums", fn := fun _ => fun
  | [d] => { results := [.lit (.bool true)], args := [d] }
  | _ => none }
def spongeSumsRow : OpenClaim := { program := "ytfbpajiddkehnaadoor", sum := "f67c60e1a30cf2a0c46181fa769e75a73e6a0cde608b94f1219ad7b8c7908d64", func := "pumice/pumicelaw04.SpongeSums", spec := "spongeSums", recurses := true, named := ["pumice/keccak.turns"], apart := false, laid := [("pumice/keccak.turns", laid_pumice_keccak_turns)] }
def SpongeSumsSaid : Prop := spongeSumsRow.holds Tryd.pinned (OpenSpec.ofChange spongeSumsSpec)

/-- ITS FALSE NEIGHBOUR: 'it returns false'. Refute it at one input. -/
def spongeSumsWrong : ChangeSpec := { name := "spongeSums", fn := fun _ => fun
  | [d] => { results := [.lit (.bool false)], args := [d] }
  | _ => none }
def SpongeSumsWrongFalsely : Prop := spongeSumsRow.holds Tryd.pinned (OpenSpec.ofChange spongeSumsWrong)

/-- 'pumicelaw04.SpongeStates': WHATEVER THE INPUT: true; the input reads as it did. -/
def spongeStatesSpec : ChangeSpec := { name := "spongeStates", fn := fun _ => fun
  | [d] => { results := [.lit (.bool true)], args := [d] }
  | _ => none }
def spongeStatesRow : OpenClaim := { program := "ytfbpajiddkehnaadoor", sum := "f67c60e1a30cf2a0c46181fa769e75a73e6a0cde608b94f1219ad7b8c7908d64", func := "pumice/pumicelaw04.SpongeStates", spec := "spongeStates", recurses := true, named := ["pumice/keccak.turns"], apart := false, laid := [("pumice/keccak.turns", laid_pumice_keccak_turns)] }
def SpongeStatesSaid : Prop := spongeStatesRow.holds Tryd.pinned (OpenSpec.ofChange spongeStatesSpec)

/-- ITS FALSE NEIGHBOUR: 'it returns false'. Refute it at one input. -/
def spongeStatesWrong : ChangeSpec := { name := "spongeStates", fn := fun _ => fun
  | [d] => { results := [.lit (.bool false)], args := [d] }
  | _ => none }
def SpongeStatesWrongFalsely : Prop := spongeStatesRow.holds Tryd.pinned (OpenSpec.ofChange spongeStatesWrong)

/-- 'pumicelaw04.SpongeParts': WHATEVER THE INPUT: true; the input reads as it did. -/
def spongePartsSpec : ChangeSpec := { name := "spongeParts", fn := fun _ => fun
  | [d1, d2, d3] => { results := [.lit (.bool true)], args := [d1, d2, d3] }
  | _ => none }
def spongePartsRow : OpenClaim := { program := "ytfbpajiddkehnaadoor", sum := "f67c60e1a30cf2a0c46181fa769e75a73e6a0cde608b94f1219ad7b8c7908d64", func := "pumice/pumicelaw04.SpongeParts", spec := "spongeParts", recurses := true, named := ["pumice/keccak.turns"], apart := false, laid := [("pumice/keccak.turns", laid_pumice_keccak_turns)] }
def SpongePartsSaid : Prop := spongePartsRow.holds Tryd.pinned (OpenSpec.ofChange spongePartsSpec)

/-- ITS FALSE NEIGHBOUR: 'it returns false'. Refute it at one input. -/
def spongePartsWrong : ChangeSpec := { name := "spongeParts", fn := fun _ => fun
  | [d1, d2, d3] => { results := [.lit (.bool false)], args := [d1, d2, d3] }
  | _ => none }
def SpongePartsWrongFalsely : Prop := spongePartsRow.holds Tryd.pinned (OpenSpec.ofChange spongePartsWrong)

/-- 'pumicelaw04.SpongeApart': WHATEVER THE INPUT: true; the input reads as it did. -/
def spongeApartSpec : ChangeSpec := { name := "spongeApart", fn := fun _ => fun
  | [d1, d2] => { results := [.lit (.bool true)], args := [d1, d2] }
  | _ => none }
def spongeApartRow : OpenClaim := { program := "ytfbpajiddkehnaadoor", sum := "f67c60e1a30cf2a0c46181fa769e75a73e6a0cde608b94f1219ad7b8c7908d64", func := "pumice/pumicelaw04.SpongeApart", spec := "spongeApart", recurses := true, named := ["pumice/keccak.turns"], apart := false, laid := [("pumice/keccak.turns", laid_pumice_keccak_turns)] }
def SpongeApartSaid : Prop := spongeApartRow.holds Tryd.pinned (OpenSpec.ofChange spongeApartSpec)

/-- ITS FALSE NEIGHBOUR: 'it returns false'. Refute it at one input. -/
def spongeApartWrong : ChangeSpec := { name := "spongeApart", fn := fun _ => fun
  | [d1, d2] => { results := [.lit (.bool false)], args := [d1, d2] }
  | _ => none }
def SpongeApartWrongFalsely : Prop := spongeApartRow.holds Tryd.pinned (OpenSpec.ofChange spongeApartWrong)

/-- 'pumicelaw04.SpongeNil': WHATEVER THE INPUT: true; the input reads as it did. -/
def spongeNilSpec : ChangeSpec := { name := "spongeNil", fn := fun _ => fun
  | [d] => { results := [.lit (.bool true)], args := [d] }
  | _ => none }
def spongeNilRow : OpenClaim := { program := "ytfbpajiddkehnaadoor", sum := "f67c60e1a30cf2a0c46181fa769e75a73e6a0cde608b94f1219ad7b8c7908d64", func := "pumice/pumicelaw04.SpongeNil", spec := "spongeNil", recurses := true, named := ["pumice/keccak.turns"], apart := false, laid := [("pumice/keccak.turns", laid_pumice_keccak_turns)] }
def SpongeNilSaid : Prop := spongeNilRow.holds Tryd.pinned (OpenSpec.ofChange spongeNilSpec)

/-- ITS FALSE NEIGHBOUR: 'it returns false'. Refute it at one input. -/
def spongeNilWrong : ChangeSpec := { name := "spongeNil", fn := fun _ => fun
  | [d] => { results := [.lit (.bool false)], args := [d] }
  | _ => none }
def SpongeNilWrongFalsely : Prop := spongeNilRow.holds Tryd.pinned (OpenSpec.ofChange spongeNilWrong)

/- THE SECOND FORM. 'bulk': how many values and letters a reading holds, each counted each time it is reached (what is shared counts as often as it is met; a slice's spare places count too). A statement '..UptoSaid' is the law's where the arguments, and the package variables that the reading takes, are together of bulk at most 1048576: NARROWER than '..Said'. Prove '..Said' where nothing that the law and all that it calls make is longer than what came in: it says more and counts as full. Else prove '..UptoSaid'. A law counts once. -/
mutual
def uptoBulk {H : Type} : DataW H → Nat
  | .lit (.string bytes) => bytes.length + 1
  | .lit _ => 1
  | .nil => 1
  | .ptr d => uptoBulk d + 1
  | .slice elems spare => uptoBulkAll elems + uptoBulkAll spare + 1
  | .agg parts => uptoBulkAll parts + 1
  | .iface _ d => uptoBulk d + 1
  | .map entries => uptoBulkEntries entries + 1
  | .held _ => 1
def uptoBulkAll {H : Type} : List (DataW H) → Nat
  | [] => 0
  | d :: r => uptoBulk d + uptoBulkAll r
def uptoBulkEntries {H : Type} : List (Lit × DataW H) → Nat
  | [] => 0
  | x :: r => uptoBulkEntry x + uptoBulkEntries r
def uptoBulkEntry {H : Type} : Lit × DataW H → Nat
  | (.string bytes, d) => bytes.length + uptoBulk d + 1
  | (_, d) => uptoBulk d + 1
 end
def uptoSmall : (H : Type) → List (DataW H) → Bool := fun _ ds => decide (uptoBulkAll ds ≤ 1048576)
def OpenSpec.upto (s : _root_.Go.ChangeSpec) : _root_.Go.OpenSpec := { _root_.Go.OpenSpec.ofChange s with cond := some uptoSmall }

/-- 'pumicelaw04.SpongeSums', WHERE WHAT IT READS IS OF BULK AT MOST 1048576: true; the input reads as it did. -/
def spongeSumsUptoRow : OpenClaim := { program := "ytfbpajiddkehnaadoor", sum := "f67c60e1a30cf2a0c46181fa769e75a73e6a0cde608b94f1219ad7b8c7908d64", func := "pumice/pumicelaw04.SpongeSums", spec := "spongeSums", recurses := true, named := ["pumice/keccak.turns"], apart := false, laid := [("pumice/keccak.turns", laid_pumice_keccak_turns)], narrowed := true }
def SpongeSumsUptoSaid : Prop := spongeSumsUptoRow.holds Tryd.pinned (OpenSpec.upto spongeSumsSpec)

/-- 'pumicelaw04.SpongeStates', WHERE WHAT IT READS IS OF BULK AT MOST 1048576: true; the input reads as it did. -/
def spongeStatesUptoRow : OpenClaim := { program := "ytfbpajiddkehnaadoor", sum := "f67c60e1a30cf2a0c46181fa769e75a73e6a0cde608b94f1219ad7b8c7908d64", func := "pumice/pumicelaw04.SpongeStates", spec := "spongeStates", recurses := true, named := ["pumice/keccak.turns"], apart := false, laid := [("pumice/keccak.turns", laid_pumice_keccak_turns)], narrowed := true }
def SpongeStatesUptoSaid : Prop := spongeStatesUptoRow.holds Tryd.pinned (OpenSpec.upto spongeStatesSpec)

/-- 'pumicelaw04.SpongeParts', WHERE WHAT IT READS IS OF BULK AT MOST 1048576: true; the input reads as it did. -/
def spongePartsUptoRow : OpenClaim := { program := "ytfbpajiddkehnaadoor", sum := "f67c60e1a30cf2a0c46181fa769e75a73e6a0cde608b94f1219ad7b8c7908d64", func := "pumice/pumicelaw04.SpongeParts", spec := "spongeParts", recurses := true, named := ["pumice/keccak.turns"], apart := false, laid := [("pumice/keccak.turns", laid_pumice_keccak_turns)], narrowed := true }
def SpongePartsUptoSaid : Prop := spongePartsUptoRow.holds Tryd.pinned (OpenSpec.upto spongePartsSpec)

/-- 'pumicelaw04.SpongeApart', WHERE WHAT IT READS IS OF BULK AT MOST 1048576: true; the input reads as it did. -/
def spongeApartUptoRow : OpenClaim := { program := "ytfbpajiddkehnaadoor", sum := "f67c60e1a30cf2a0c46181fa769e75a73e6a0cde608b94f1219ad7b8c7908d64", func := "pumice/pumicelaw04.SpongeApart", spec := "spongeApart", recurses := true, named := ["pumice/keccak.turns"], apart := false, laid := [("pumice/keccak.turns", laid_pumice_keccak_turns)], narrowed := true }
def SpongeApartUptoSaid : Prop := spongeApartUptoRow.holds Tryd.pinned (OpenSpec.upto spongeApartSpec)

/-- 'pumicelaw04.SpongeNil', WHERE WHAT IT READS IS OF BULK AT MOST 1048576: true; the input reads as it did. -/
def spongeNilUptoRow : OpenClaim := { program := "ytfbpajiddkehnaadoor", sum := "f67c60e1a30cf2a0c46181fa769e75a73e6a0cde608b94f1219ad7b8c7908d64", func := "pumice/pumicelaw04.SpongeNil", spec := "spongeNil", recurses := true, named := ["pumice/keccak.turns"], apart := false, laid := [("pumice/keccak.turns", laid_pumice_keccak_turns)], narrowed := true }
def SpongeNilUptoSaid : Prop := spongeNilUptoRow.holds Tryd.pinned (OpenSpec.upto spongeNilSpec)

end Rows
end Go.Proofs.YtfbpajiddkehnaaDoor
