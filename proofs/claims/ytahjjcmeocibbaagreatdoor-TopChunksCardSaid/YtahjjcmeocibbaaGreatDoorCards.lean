/-
  DERIVED. GIVEN WITH THE SEED: THE CARDS: each row of YtahjjcmeocibbaaGreatDoorRows.lean that lists a variable, with what it lists TIED to the program's text (the seventh form; the later family's looks); each row that meets fmt, with fmt's text TOLD by the authors' own Lean function (tested against real Go, not proved from fmt's source: count such statements apart). THE CARD IS WHAT COUNTS. Prove the row's statement (the work); the ties are given (YtahjjcmeocibbaaGreatDoorTie.lean); close each card by the builder's one call (the guide's Derived/Test/ToyasCard.lean, 'card_holds'). Laid BY PROGRAM, IN A SANDBOX (cutbox-door.mjs). By AI agents, Wed Nov 11 2026. No macro, syntax, notation, axiom, sorry.
-/
import Derived.Test.YtahjjcmeocibbaaGreatDoorRows
import GoSem.ClaimSeven
namespace Go.Proofs.YtahjjcmeocibbaaGreatDoor
namespace Rows

/-- THE TIED CARD OF 'pumicetop.TopChunks'. -/
def topChunksCard : Claim7 := { stood := { row := topChunksRow, standIns := [], harness := (true, "2d364afb8a166a2d5c5ee505bf1785900dbb4b870654bdb6c82ed4cc1a59a959"), looks := false }, kinds := [], alts := [], laidByText := true, laidKinds := [.data], laidTests := true, laidLooks := .later }
def TopChunksCardSaid : Prop := Claim7.holds Tryz.pinned (.plain (OpenSpec.ofChange topChunksSpec)) topChunksCard

/-- THE SECOND FORM's CARD OF 'pumicetop.TopChunks'. -/
def topChunksUptoCard : Claim7 := { stood := { row := topChunksUptoRow, standIns := [], harness := (true, "2d364afb8a166a2d5c5ee505bf1785900dbb4b870654bdb6c82ed4cc1a59a959"), looks := false }, kinds := [], alts := [], laidByText := true, laidKinds := [.data], laidTests := true, laidLooks := .later }
def TopChunksUptoCardSaid : Prop := Claim7.holds Tryz.pinned (.plain (OpenSpec.upto topChunksSpec)) topChunksUptoCard
end Rows
end Go.Proofs.YtahjjcmeocibbaaGreatDoor
