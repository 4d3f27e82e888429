/-
  NARROWER THAN 'FOR EVERY INPUT', by the rows' own cells (each row's printed sentence says how): KeccakTurns: laid · KeccakMarks: laid · KeccakRounds: laid · KeccakPermutes: laid · KeccakGoes: laid · KeccakApart: laid · KeccakUnlike: laid · KeccakFirst: laid.
  DERIVED. THE GIVEN ROWS OF THIS SEAT. 8 by the template 'for every input the law returns true; each argument reads behind the call as it read before'; 0 by the template 'total and deterministic' (their statements: YtjegjegofnehoaaDoorTotals.lean).
  GIVEN WITH THE SEED: the statements are not yours to turn. If you find one false, say at which input.
  Laid BY PROGRAM, IN A SANDBOX (cutbox-rows.mjs): the forced cells as the released guide's own fill.sh prints them over the translation 08ca819f4e458a27… (all of the seat's roots in one cut). By AI agents, Wed Nov 11 2026. No macro, syntax, notation, axiom, sorry.
-/
import Derived.Test.YtjegjegofnehoaaDoorChecked
import GoSem.Claim
import GoSem.ClaimJoined
import GoSem.ClaimMapViews
import Derived.JoinedTies
import Derived.KernelRfl
namespace Go.Proofs.YtjegjegofnehoaaDoor
/- THE CELL 'sum', in the pinned program and in every row, IS THE sha256 OF THE DUMP (.gsa) THAT YtjegjegofnehoaaDoorProg.lean LOADS. Nothing in Lean hashes anything: it is a label: what it is worth is what the hold of that sum in a sandbox is worth. -/
noncomputable def Tryd.pinned : Pinned := { name := "ytjegjegofnehoaadoor", sum := "08ca819f4e458a27950e0236bd983a804d9b8e35683672cb72b5e622810b0556", checked := Tryd.checked }
namespace Rows
def none {H : Type} : Left H := { results := [], args := [] }

/- WHAT THE LISTED PACKAGE-LEVEL VARIABLES READ AS WHEN THE CALL BEGINS. Each datum BY PROGRAM (the guide's laid-datum.mjs) off the statement by which the dump's own 'gosem.cut.vars' lays the variable. In a bare row this is a premise. The card (YtjegjegofnehoaaDoorCards.lean) ties it to the program's text. -/
def laid_pumice_keccak_turns {H : Type} : DataW H := .agg [.lit (.int .i64 0), .lit (.int .i64 1), .lit (.int .i64 62), .lit (.int .i64 28), .lit (.int .i64 27), .lit (.int .i64 36), .lit (.int .i64 44), .lit (.int .i64 6), .lit (.int .i64 55), .lit (.int .i64 20), .lit (.int .i64 3), .lit (.int .i64 10), .lit (.int .i64 43), .lit (.int .i64 25), .lit (.int .i64 39), .lit (.int .i64 41), .lit (.int .i64 45), .lit (.int .i64 15), .lit (.int .i64 21), .lit (.int .i64 8), .lit (.int .i64 18), .lit (.int .i64 2), .lit (.int .i64 61), .lit (.int .i64 56), .lit (.int .i64 14)]

/-- 'pumicelaw03.KeccakTurns': WHATEVER THE INPUT: true; the input reads as it did. -/
def keccakTurnsSpec : ChangeSpec := { name := "keccakTurns", fn := fun _ => fun
  | [d1, d2] => { results := [.lit (.bool true)], args := [d1, d2] }
  | _ => none }
def keccakTurnsRow : OpenClaim := { program := "ytjegjegofnehoaadoor", sum := "08ca819f4e458a27950e0236bd983a804d9b8e35683672cb72b5e622810b0556", func := "pumice/pumicelaw03.KeccakTurns", spec := "keccakTurns", named := ["pumice/keccak.turns"], apart := false, laid := [("pumice/keccak.turns", laid_pumice_keccak_turns)] }
def KeccakTurnsSaid : Prop := keccakTurnsRow.holds Tryd.pinned (OpenSpec.ofChange keccakTurnsSpec)

/-- ITS FALSE NEIGHBOUR: 'it returns false'. Refute it at one input. -/
def keccakTurnsWrong : ChangeSpec := { name := "keccakTurns", fn := fun _ => fun
  | [d1, d2] => { results := [.lit (.bool false)], args := [d1, d2] }
  | _ => none }
def KeccakTurnsWrongFalsely : Prop := keccakTurnsRow.holds Tryd.pinned (OpenSpec.ofChange keccakTurnsWrong)

/-- 'pumicelaw03.KeccakMarks': WHATEVER THE INPUT: true; the input reads as it did. -/
def keccakMarksSpec : ChangeSpec := { name := "keccakMarks", fn := fun _ => fun
  | [d] => { results := [.lit (.bool true)], args := [d] }
  | _ => none }
def keccakMarksRow : OpenClaim := { program := "ytjegjegofnehoaadoor", sum := "08ca819f4e458a27950e0236bd983a804d9b8e35683672cb72b5e622810b0556", func := "pumice/pumicelaw03.KeccakMarks", spec := "keccakMarks", named := ["pumice/keccak.turns"], apart := false, laid := [("pumice/keccak.turns", laid_pumice_keccak_turns)] }
def KeccakMarksSaid : Prop := keccakMarksRow.holds Tryd.pinned (OpenSpec.ofChange keccakMarksSpec)

/-- ITS FALSE NEIGHBOUR: 'it returns false'. Refute it at one input. -/
def keccakMarksWrong : ChangeSpec := { name := "keccakMarks", fn := fun _ => fun
  | [d] => { results := [.lit (.bool false)], args := [d] }
  | _ => none }
def KeccakMarksWrongFalsely : Prop := keccakMarksRow.holds Tryd.pinned (OpenSpec.ofChange keccakMarksWrong)

/-- 'pumicelaw03.KeccakRounds': WHATEVER THE INPUT: true; the input reads as it did. -/
def keccakRoundsSpec : ChangeSpec := { name := "keccakRounds", fn := fun _ => fun
  | [d1, d2] => { results := [.lit (.bool true)], args := [d1, d2] }
  | _ => none }
def keccakRoundsRow : OpenClaim := { program := "ytjegjegofnehoaadoor", sum := "08ca819f4e458a27950e0236bd983a804d9b8e35683672cb72b5e622810b0556", func := "pumice/pumicelaw03.KeccakRounds", spec := "keccakRounds", named := ["pumice/keccak.turns"], apart := false, laid := [("pumice/keccak.turns", laid_pumice_keccak_turns)] }
def KeccakRoundsSaid : Prop := keccakRoundsRow.holds Tryd.pinned (OpenSpec.ofChange keccakRoundsSpec)

/-- ITS FALSE NEIGHBOUR: 'it returns false'. Refute it at one input. -/
def keccakRoundsWrong : ChangeSpec := { name := "keccakRounds", fn := fun _ => fun
  | [d1, d2] => { results := [.lit (.bool false)], args := [d1, d2] }
  | _ => none }
def KeccakRoundsWrongFalsely : Prop := keccakRoundsRow.holds Tryd.pinned (OpenSpec.ofChange keccakRoundsWrong)

/-- 'pumicelaw03.KeccakPermutes': WHATEVER THE INPUT: true; the input reads as it did. -/
def keccakPermutesSpec : ChangeSpec := { name := "keccakPermutes", fn := fun _ => fun
  | [d] => { results := [.lit (.bool true)], args := [d] }
  | _ => none }
def keccakPermutesRow : OpenClaim := { program := "ytjegjegofnehoaadoor", sum := "08ca819f4e458a27950e0236bd983a804d9b8e35683672cb72b5e622810b0556", func := "pumice/pumicelaw03.KeccakPermutes", spec := "keccakPermutes", named := ["pumice/keccak.turns"], apart := false, laid := [("pumice/keccak.turns", laid_pumice_keccak_turns)] }
def KeccakPermutesSaid : Prop := keccakPermutesRow.holds Tryd.pinned (OpenSpec.ofChange keccakPermutesSpec)

/-- ITS FALSE NEIGHBOUR: 'it returns false'. Refute it at one input. -/
def keccakPermutesWrong : ChangeSpec := { name := "keccakPermutes", fn := fun _ => fun
  | [d] => { results := [.lit (.bool false)], args := [d] }
  | _ => none }
def KeccakPermutesWrongFalsely : Prop := keccakPermutesRow.holds Tryd.pinned (OpenSpec.ofChange keccakPermutesWrong)

/-- 'pumicelaw03.KeccakGoes': WHATEVER THE INPUT: true; the input reads as it did. -/
def keccakGoesSpec : ChangeSpec := { name := "keccakGoes", fn := fun _ => fun
  | [d] => { results := [.lit (.bool true)], args := [d] }
  | _ => none }
def keccakGoesRow : OpenClaim := { program := "ytjegjegofnehoaadoor", sum := "08ca819f4e458a27950e0236bd983a804d9b8e35683672cb72b5e622810b0556", func := "pumice/pumicelaw03.KeccakGoes", spec := "keccakGoes", named := ["pumice/keccak.turns"], apart := false, laid := [("pumice/keccak.turns", laid_pumice_keccak_turns)] }
def KeccakGoesSaid : Prop := keccakGoesRow.holds Tryd.pinned (OpenSpec.ofChange keccakGoesSpec)

/-- ITS FALSE NEIGHBOUR: 'it returns false'. Refute it at one input. -/
def keccakGoesWrong : ChangeSpec := { name := "keccakGoes", fn := fun _ => fun
  | [d] => { results := [.lit (.bool false)], args := [d] }
  | _ => none }
def KeccakGoesWrongFalsely : Prop := keccakGoesRow.holds Tryd.pinned (OpenSpec.ofChange keccakGoesWrong)

/-- 'pumicelaw03.KeccakApart': WHATEVER THE INPUT: true; the input reads as it did. -/
def keccakApartSpec : ChangeSpec := { name := "keccakApart", fn := fun _ => fun
  | [d1, d2, d3] => { results := [.lit (.bool true)], args := [d1, d2, d3] }
  | _ => none }
def keccakApartRow : OpenClaim := { program := "ytjegjegofnehoaadoor", sum := "08ca819f4e458a27950e0236bd983a804d9b8e35683672cb72b5e622810b0556", func := "pumice/pumicelaw03.KeccakApart", spec := "keccakApart", named := ["pumice/keccak.turns"], apart := false, laid := [("pumice/keccak.turns", laid_pumice_keccak_turns)] }
def KeccakApartSaid : Prop := keccakApartRow.holds Tryd.pinned (OpenSpec.ofChange keccakApartSpec)

/-- ITS FALSE NEIGHBOUR: 'it returns false'. Refute it at one input. -/
def keccakApartWrong : ChangeSpec := { name := "keccakApart", fn := fun _ => fun
  | [d1, d2, d3] => { results := [.lit (.bool false)], args := [d1, d2, d3] }
  | _ => none }
def KeccakApartWrongFalsely : Prop := keccakApartRow.holds Tryd.pinned (OpenSpec.ofChange keccakApartWrong)

/-- 'pumicelaw03.KeccakUnlike': WHATEVER THE INPUT: true; the input reads as it did. -/
def keccakUnlikeSpec : ChangeSpec := { name := "keccakUnlike", fn := fun _ => fun
  | [d1, d2] => { results := [.lit (.bool true)], args := [d1, d2] }
  | _ => none }
def keccakUnlikeRow : OpenClaim := { program := "ytjegjegofnehoaadoor", sum := "08ca819f4e458a27950e0236bd983a804d9b8e35683672cb72b5e622810b0556", func := "pumice/pumicelaw03.KeccakUnlike", spec := "keccakUnlike", named := ["pumice/keccak.turns"], apart := false, laid := [("pumice/keccak.turns", laid_pumice_keccak_turns)] }
def KeccakUnlikeSaid : Prop := keccakUnlikeRow.holds Tryd.pinned (OpenSpec.ofChange keccakUnlikeSpec)

/-- ITS FALSE NEIGHBOUR: 'it returns false'. Refute it at one input. -/
def keccakUnlikeWrong : ChangeSpec := { name := "keccakUnlike", fn := fun _ => fun
  | [d1, d2] => { results := [.lit (.bool false)], args := [d1, d2] }
  | _ => none }
def KeccakUnlikeWrongFalsely : Prop := keccakUnlikeRow.holds Tryd.pinned (OpenSpec.ofChange keccakUnlikeWrong)

/-- 'pumicelaw03.KeccakFirst': WHATEVER THE INPUT: true; the input reads as it did. -/
def keccakFirstSpec : ChangeSpec := { name := "keccakFirst", fn := fun _ => fun
  | [d1, d2, d3] => { results := [.lit (.bool true)], args := [d1, d2, d3] }
  | _ => none }
def keccakFirstRow : OpenClaim := { program := "ytjegjegofnehoaadoor", sum := "08ca819f4e458a27950e0236bd983a804d9b8e35683672cb72b5e622810b0556", func := "pumice/pumicelaw03.KeccakFirst", spec := "keccakFirst", named := ["pumice/keccak.turns"], apart := false, laid := [("pumice/keccak.turns", laid_pumice_keccak_turns)] }
def KeccakFirstSaid : Prop := keccakFirstRow.holds Tryd.pinned (OpenSpec.ofChange keccakFirstSpec)

/-- ITS FALSE NEIGHBOUR: 'it returns false'. Refute it at one input. -/
def keccakFirstWrong : ChangeSpec := { name := "keccakFirst", fn := fun _ => fun
  | [d1, d2, d3] => { results := [.lit (.bool false)], args := [d1, d2, d3] }
  | _ => none }
def KeccakFirstWrongFalsely : Prop := keccakFirstRow.holds Tryd.pinned (OpenSpec.ofChange keccakFirstWrong)

/- THE SECOND FORM. 'bulk': how many values and letters a reading holds, each counted each time it is reached (what is shared counts as often as it is met; a slice's spare places count too). A statement '..UptoSaid' is the law's where the arguments, and the package variables that the reading takes, are together of bulk at most 1048576: NARROWER than '..Said'. Prove '..Said' where nothing that the law and all that it calls make is longer than what came in: it says more and counts as full. Else prove '..UptoSaid'. A law counts once. -/
mutual
def uptoBulk {H : Type} : DataW H → Nat
  | .lit (.string bytes) => bytes.length + 1
  | .lit _ => 1
  | .nil => 1
  | .ptr d => uptoBulk d + 1
  | .slice elems spare => uptoBulkAll elems + uptoBulkAll spare + 1
  | .agg parts => uptoBulkAll parts + 1
  | .iface _ d => uptoBulk d + 1
  | .map entries => uptoBulkEntries entries + 1
  | .held _ => 1
def uptoBulkAll {H : Type} : List (DataW H) → Nat
  | [] => 0
  | d :: r => uptoBulk d + uptoBulkAll r
def uptoBulkEntries {H : Type} : List (Lit × DataW H) → Nat
  | [] => 0
  | x :: r => uptoBulkEntry x + uptoBulkEntries r
def uptoBulkEntry {H : Type} : Lit × DataW H → Nat
  | (.string bytes, d) => bytes.length + uptoBulk d + 1
  | (_, d) => uptoBulk d + 1
 end
def uptoSmall : (H : Type) → List (DataW H) → Bool := fun _ ds => decide (uptoBulkAll ds ≤ 1048576)
def OpenSpec.upto (s : _root_.Go.ChangeSpec) : _root_.Go.OpenSpec := { _root_.Go.OpenSpec.ofChange s with cond := some uptoSmall }

/-- 'pumicelaw03.KeccakTurns', WHERE WHAT IT READS IS OF BULK AT MOST 1048576: true; the input reads as it did. -/
def keccakTurnsUptoRow : OpenClaim := { program := "ytjegjegofnehoaadoor", sum := "08ca819f4e458a27950e0236bd983a804d9b8e35683672cb72b5e622810b0556", func := "pumice/pumicelaw03.KeccakTurns", spec := "keccakTurns", named := ["pumice/keccak.turns"], apart := false, laid := [("pumice/keccak.turns", laid_pumice_keccak_turns)], narrowed := true }
def KeccakTurnsUptoSaid : Prop := keccakTurnsUptoRow.holds Tryd.pinned (OpenSpec.upto keccakTurnsSpec)

/-- 'pumicelaw03.KeccakMarks', WHERE WHAT IT READS IS OF BULK AT MOST 1048576: true; the input reads as it did. -/
def keccakMarksUptoRow : OpenClaim := { program := "ytjegjegofnehoaadoor", sum := "08ca819f4e458a27950e0236bd983a804d9b8e35683672cb72b5e622810b0556", func := "pumice/pumicelaw03.KeccakMarks", spec := "keccakMarks", named := ["pumice/keccak.turns"], apart := false, laid := [("pumice/keccak.turns", laid_pumice_keccak_turns)], narrowed := true }
def KeccakMarksUptoSaid : Prop := keccakMarksUptoRow.holds Tryd.pinned (OpenSpec.upto keccakMarksSpec)

/-- 'pumicelaw03.KeccakRounds', WHERE WHAT IT READS IS OF BULK AT MOST 1048576: true; the input reads as it did. -/
def keccakRoundsUptoRow : OpenClaim := { program := "ytjegjegofnehoaadoor", sum := "08ca819f4e458a27950e0236bd983a804d9b8e35683672cb72b5e622810b0556", func := "pumice/pumicelaw03.KeccakRounds", spec := "keccakRounds", named := ["pumice/keccak.turns"], apart := false, laid := [("pumice/keccak.turns", laid_pumice_keccak_turns)], narrowed := true }
def KeccakRoundsUptoSaid : Prop := keccakRoundsUptoRow.holds Tryd.pinned (OpenSpec.upto keccakRoundsSpec)

/-- 'pumicelaw03.KeccakPermutes', WHERE WHAT IT READS IS OF BULK AT MOST 1048576: true; the input reads as it did. -/
def keccakPermutesUptoRow : OpenClaim := { program := "ytjegjegofnehoaadoor", sum := "08ca819f4e458a27950e0236bd983a804d9b8e35683672cb72b5e622810b0556", func := "pumice/pumicelaw03.KeccakPermutes", spec := "keccakPermutes", named := ["pumice/keccak.turns"], apart := false, laid := [("pumice/keccak.turns", laid_pumice_keccak_turns)], narrowed := true }
def KeccakPermutesUptoSaid : Prop := keccakPermutesUptoRow.holds Tryd.pinned (OpenSpec.upto keccakPermutesSpec)

/-- 'pumicelaw03.KeccakGoes', WHERE WHAT IT READS IS OF BULK AT MOST 1048576: true; the input reads as it did. -/
def keccakGoesUptoRow : OpenClaim := { program := "ytjegjegofnehoaadoor", sum := "08ca819f4e458a27950e0236bd983a804d9b8e35683672cb72b5e622810b0556", func := "pumice/pumicelaw03.KeccakGoes", spec := "keccakGoes", named := ["pumice/keccak.turns"], apart := false, laid := [("pumice/keccak.turns", laid_pumice_keccak_turns)], narrowed := true }
def KeccakGoesUptoSaid : Prop := keccakGoesUptoRow.holds Tryd.pinned (OpenSpec.upto keccakGoesSpec)

/-- 'pumicelaw03.KeccakApart', WHERE WHAT IT READS IS OF BULK AT MOST 1048576: true; the input reads as it did. -/
def keccakApartUptoRow : OpenClaim := { program := "ytjegjegofnehoaadoor", sum := "08ca819f4e458a27950e0236bd983a804d9b8e35683672cb72b5e622810b0556", func := "pumice/pumicelaw03.KeccakApart", spec := "keccakApart", named := ["pumice/keccak.turns"], apart := false, laid := [("pumice/keccak.turns", laid_pumice_keccak_turns)], narrowed := true }
def KeccakApartUptoSaid : Prop := keccakApartUptoRow.holds Tryd.pinned (OpenSpec.upto keccakApartSpec)

/-- 'pumicelaw03.KeccakUnlike', WHERE WHAT IT READS IS OF BULK AT MOST 1048576: true; the input reads as it did. -/
def keccakUnlikeUptoRow : OpenClaim := { program := "ytjegjegofnehoaadoor", sum := "08ca819f4e458a27950e0236bd983a804d9b8e35683672cb72b5e622810b0556", func := "pumice/pumicelaw03.KeccakUnlike", spec := "keccakUnlike", named := ["pumice/keccak.turns"], apart := false, laid := [("pumice/keccak.turns", laid_pumice_keccak_turns)], narrowed := true }
def KeccakUnlikeUptoSaid : Prop := keccakUnlikeUptoRow.holds Tryd.pinned (OpenSpec.upto keccakUnlikeSpec)

/-- 'pumicelaw03.KeccakFirst', WHERE WHAT IT READS IS OF BULK AT MOST 1048576: true; the input reads as it did. -/
def keccakFirstUptoRow : OpenClaim := { program := "ytjegjegofnehoaadoor", sum := "08ca819f4e458a27950e0236bd983a804d9b8e35683672cb72b5e622810b0556", func := "pumice/pumicelaw03.KeccakFirst", spec := "keccakFirst", named := ["pumice/keccak.turns"], apart := false, laid := [("pumice/keccak.turns", laid_pumice_keccak_turns)], narrowed := true }
def KeccakFirstUptoSaid : Prop := keccakFirstUptoRow.holds Tryd.pinned (OpenSpec.upto keccakFirstSpec)

end Rows
end Go.Proofs.YtjegjegofnehoaaDoor
