/-
  DERIVED. GIVEN WITH THE SEED: THE CARDS: each row of YtjegjegofnehoaaDoorRows.lean that lists a variable, with what it lists TIED to the program's text (the seventh form; the later family's looks); each row that meets fmt, with fmt's text TOLD by the authors' own Lean function (tested against real Go, not proved from fmt's source: count such statements apart). THE CARD IS WHAT COUNTS. Prove the row's statement (the work); the ties are given (YtjegjegofnehoaaDoorTie.lean); close each card by the builder's one call (the guide's Derived/Test/ToyasCard.lean, 'card_holds'). Laid BY PROGRAM, IN A SANDBOX (cutbox-door.mjs). By AI agents, Wed Nov 11 2026. No macro, syntax, notation, axiom, sorry.
-/
import Derived.Test.YtjegjegofnehoaaDoorRows
import GoSem.ClaimSeven
namespace Go.Proofs.YtjegjegofnehoaaDoor
namespace Rows

/-- THE TIED CARD OF 'pumicelaw03.KeccakTurns'. -/
def keccakTurnsCard : Claim7 := { stood := { row := keccakTurnsRow, standIns := [], harness := (true, "7febd697114ce45d89c0184c2fa9247f7312bfcd8f6cf2869acc3574f5f9ce10"), looks := false }, kinds := [], alts := [], laidByText := true, laidKinds := [.data], laidTests := true, laidLooks := .later }
def KeccakTurnsCardSaid : Prop := Claim7.holds Tryd.pinned (.plain (OpenSpec.ofChange keccakTurnsSpec)) keccakTurnsCard

/-- THE TIED CARD OF 'pumicelaw03.KeccakMarks'. -/
def keccakMarksCard : Claim7 := { stood := { row := keccakMarksRow, standIns := [], harness := (true, "7febd697114ce45d89c0184c2fa9247f7312bfcd8f6cf2869acc3574f5f9ce10"), looks := false }, kinds := [], alts := [], laidByText := true, laidKinds := [.data], laidTests := true, laidLooks := .later }
def KeccakMarksCardSaid : Prop := Claim7.holds Tryd.pinned (.plain (OpenSpec.ofChange keccakMarksSpec)) keccakMarksCard

/-- THE TIED CARD OF 'pumicelaw03.KeccakRounds'. -/
def keccakRoundsCard : Claim7 := { stood := { row := keccakRoundsRow, standIns := [], harness := (true, "7febd697114ce45d89c0184c2fa9247f7312bfcd8f6cf2869acc3574f5f9ce10"), looks := false }, kinds := [], alts := [], laidByText := true, laidKinds := [.data], laidTests := true, laidLooks := .later }
def KeccakRoundsCardSaid : Prop := Claim7.holds Tryd.pinned (.plain (OpenSpec.ofChange keccakRoundsSpec)) keccakRoundsCard

/-- THE TIED CARD OF 'pumicelaw03.KeccakPermutes'. -/
def keccakPermutesCard : Claim7 := { stood := { row := keccakPermutesRow, standIns := [], harness := (true, "7febd697114ce45d89c0184c2fa9247f7312bfcd8f6cf2869acc3574f5f9ce10"), looks := false }, kinds := [], alts := [], laidByText := true, laidKinds := [.data], laidTests := true, laidLooks := .later }
def KeccakPermutesCardSaid : Prop := Claim7.holds Tryd.pinned (.plain (OpenSpec.ofChange keccakPermutesSpec)) keccakPermutesCard

/-- THE TIED CARD OF 'pumicelaw03.KeccakGoes'. -/
def keccakGoesCard : Claim7 := { stood := { row := keccakGoesRow, standIns := [], harness := (true, "7febd697114ce45d89c0184c2fa9247f7312bfcd8f6cf2869acc3574f5f9ce10"), looks := false }, kinds := [], alts := [], laidByText := true, laidKinds := [.data], laidTests := true, laidLooks := .later }
def KeccakGoesCardSaid : Prop := Claim7.holds Tryd.pinned (.plain (OpenSpec.ofChange keccakGoesSpec)) keccakGoesCard

/-- THE TIED CARD OF 'pumicelaw03.KeccakApart'. -/
def keccakApartCard : Claim7 := { stood := { row := keccakApartRow, standIns := [], harness := (true, "7febd697114ce45d89c0184c2fa9247f7312bfcd8f6cf2869acc3574f5f9ce10"), looks := false }, kinds := [], alts := [], laidByText := true, laidKinds := [.data], laidTests := true, laidLooks := .later }
def KeccakApartCardSaid : Prop := Claim7.holds Tryd.pinned (.plain (OpenSpec.ofChange keccakApartSpec)) keccakApartCard

/-- THE TIED CARD OF 'pumicelaw03.KeccakUnlike'. -/
def keccakUnlikeCard : Claim7 := { stood := { row := keccakUnlikeRow, standIns := [], harness := (true, "7febd697114ce45d89c0184c2fa9247f7312bfcd8f6cf2869acc3574f5f9ce10"), looks := false }, kinds := [], alts := [], laidByText := true, laidKinds := [.data], laidTests := true, laidLooks := .later }
def KeccakUnlikeCardSaid : Prop := Claim7.holds Tryd.pinned (.plain (OpenSpec.ofChange keccakUnlikeSpec)) keccakUnlikeCard

/-- THE TIED CARD OF 'pumicelaw03.KeccakFirst'. -/
def keccakFirstCard : Claim7 := { stood := { row := keccakFirstRow, standIns := [], harness := (true, "7febd697114ce45d89c0184c2fa9247f7312bfcd8f6cf2869acc3574f5f9ce10"), looks := false }, kinds := [], alts := [], laidByText := true, laidKinds := [.data], laidTests := true, laidLooks := .later }
def KeccakFirstCardSaid : Prop := Claim7.holds Tryd.pinned (.plain (OpenSpec.ofChange keccakFirstSpec)) keccakFirstCard

/-- THE SECOND FORM's CARD OF 'pumicelaw03.KeccakTurns'. -/
def keccakTurnsUptoCard : Claim7 := { stood := { row := keccakTurnsUptoRow, standIns := [], harness := (true, "7febd697114ce45d89c0184c2fa9247f7312bfcd8f6cf2869acc3574f5f9ce10"), looks := false }, kinds := [], alts := [], laidByText := true, laidKinds := [.data], laidTests := true, laidLooks := .later }
def KeccakTurnsUptoCardSaid : Prop := Claim7.holds Tryd.pinned (.plain (OpenSpec.upto keccakTurnsSpec)) keccakTurnsUptoCard

/-- THE SECOND FORM's CARD OF 'pumicelaw03.KeccakMarks'. -/
def keccakMarksUptoCard : Claim7 := { stood := { row := keccakMarksUptoRow, standIns := [], harness := (true, "7febd697114ce45d89c0184c2fa9247f7312bfcd8f6cf2869acc3574f5f9ce10"), looks := false }, kinds := [], alts := [], laidByText := true, laidKinds := [.data], laidTests := true, laidLooks := .later }
def KeccakMarksUptoCardSaid : Prop := Claim7.holds Tryd.pinned (.plain (OpenSpec.upto keccakMarksSpec)) keccakMarksUptoCard

/-- THE SECOND FORM's CARD OF 'pumicelaw03.KeccakRounds'. -/
def keccakRoundsUptoCard : Claim7 := { stood := { row := keccakRoundsUptoRow, standIns := [], harness := (true, "7febd697114ce45d89c0184c2fa9247f7312bfcd8f6cf2869acc3574f5f9ce10"), looks := false }, kinds := [], alts := [], laidByText := true, laidKinds := [.data], laidTests := true, laidLooks := .later }
def KeccakRoundsUptoCardSaid : Prop := Claim7.holds Tryd.pinned (.plain (OpenSpec.upto keccakRoundsSpec)) keccakRoundsUptoCard

/-- THE SECOND FORM's CARD OF 'pumicelaw03.KeccakPermutes'. -/
def keccakPermutesUptoCard : Claim7 := { stood := { row := keccakPermutesUptoRow, standIns := [], harness := (true, "7febd697114ce45d89c0184c2fa9247f7312bfcd8f6cf2869acc3574f5f9ce10"), looks := false }, kinds := [], alts := [], laidByText := true, laidKinds := [.data], laidTests := true, laidLooks := .later }
def KeccakPermutesUptoCardSaid : Prop := Claim7.holds Tryd.pinned (.plain (OpenSpec.upto keccakPermutesSpec)) keccakPermutesUptoCard

/-- THE SECOND FORM's CARD OF 'pumicelaw03.KeccakGoes'. -/
def keccakGoesUptoCard : Claim7 := { stood := { row := keccakGoesUptoRow, standIns := [], harness := (true, "7febd697114ce45d89c0184c2fa9247f7312bfcd8f6cf2869acc3574f5f9ce10"), looks := false }, kinds := [], alts := [], laidByText := true, laidKinds := [.data], laidTests := true, laidLooks := .later }
def KeccakGoesUptoCardSaid : Prop := Claim7.holds Tryd.pinned (.plain (OpenSpec.upto keccakGoesSpec)) keccakGoesUptoCard

/-- THE SECOND FORM's CARD OF 'pumicelaw03.KeccakApart'. -/
def keccakApartUptoCard : Claim7 := { stood := { row := keccakApartUptoRow, standIns := [], harness := (true, "7febd697114ce45d89c0184c2fa9247f7312bfcd8f6cf2869acc3574f5f9ce10"), looks := false }, kinds := [], alts := [], laidByText := true, laidKinds := [.data], laidTests := true, laidLooks := .later }
def KeccakApartUptoCardSaid : Prop := Claim7.holds Tryd.pinned (.plain (OpenSpec.upto keccakApartSpec)) keccakApartUptoCard

/-- THE SECOND FORM's CARD OF 'pumicelaw03.KeccakUnlike'. -/
def keccakUnlikeUptoCard : Claim7 := { stood := { row := keccakUnlikeUptoRow, standIns := [], harness := (true, "7febd697114ce45d89c0184c2fa9247f7312bfcd8f6cf2869acc3574f5f9ce10"), looks := false }, kinds := [], alts := [], laidByText := true, laidKinds := [.data], laidTests := true, laidLooks := .later }
def KeccakUnlikeUptoCardSaid : Prop := Claim7.holds Tryd.pinned (.plain (OpenSpec.upto keccakUnlikeSpec)) keccakUnlikeUptoCard

/-- THE SECOND FORM's CARD OF 'pumicelaw03.KeccakFirst'. -/
def keccakFirstUptoCard : Claim7 := { stood := { row := keccakFirstUptoRow, standIns := [], harness := (true, "7febd697114ce45d89c0184c2fa9247f7312bfcd8f6cf2869acc3574f5f9ce10"), looks := false }, kinds := [], alts := [], laidByText := true, laidKinds := [.data], laidTests := true, laidLooks := .later }
def KeccakFirstUptoCardSaid : Prop := Claim7.holds Tryd.pinned (.plain (OpenSpec.upto keccakFirstSpec)) keccakFirstUptoCard
end Rows
end Go.Proofs.YtjegjegofnehoaaDoor
