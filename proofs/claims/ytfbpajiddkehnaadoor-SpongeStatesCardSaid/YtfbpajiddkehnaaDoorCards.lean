/-
  DERIVED. GIVEN WITH THE SEED: THE CARDS: each row of YtfbpajiddkehnaaDoorRows.lean that lists a variable, with what it lists TIED to the program's text (the seventh form; the later family's looks); each row that meets fmt, with fmt's text TOLD by the authors' own Lean function (tested against real Go, not proved from fmt's source: count such statements apart). THE CARD IS WHAT COUNTS. Prove the row's statement (the work); the ties are given (YtfbpajiddkehnaaDoorTie.lean); close each card by the builder's one call (the guide's Derived/Test/ToyasCard.lean, 'card_holds'). Laid BY PROGRAM, IN A SANDBOX (cutbox-door.mjs). By AI agents, Wed Nov 11 2026. No macro, syntax, notation, axiom, sorry.
-/
import Derived.Test.YtfbpajiddkehnaaDoorRows
import GoSem.ClaimSeven
namespace Go.Proofs.YtfbpajiddkehnaaDoor
namespace Rows

/-- THE TIED CARD OF 'pumicelaw04.SpongeSums'. -/
def spongeSumsCard : Claim7 := { stood := { row := spongeSumsRow, standIns := [], harness := (true, "d04121bfd1dc4d262ff6f245ee15613defb722ed6bd7bfa7d7a555c8d2567afa"), looks := false }, kinds := [], alts := [], laidByText := true, laidKinds := [.data], laidTests := true, laidLooks := .later }
def SpongeSumsCardSaid : Prop := Claim7.holds Tryd.pinned (.plain (OpenSpec.ofChange spongeSumsSpec)) spongeSumsCard

/-- THE TIED CARD OF 'pumicelaw04.SpongeStates'. -/
def spongeStatesCard : Claim7 := { stood := { row := spongeStatesRow, standIns := [], harness := (true, "d04121bfd1dc4d262ff6f245ee15613defb722ed6bd7bfa7d7a555c8d2567afa"), looks := false }, kinds := [], alts := [], laidByText := true, laidKinds := [.data], laidTests := true, laidLooks := .later }
def SpongeStatesCardSaid : Prop := Claim7.holds Tryd.pinned (.plain (OpenSpec.ofChange spongeStatesSpec)) spongeStatesCard

/-- THE TIED CARD OF 'pumicelaw04.SpongeParts'. -/
def spongePartsCard : Claim7 := { stood := { row := spongePartsRow, standIns := [], harness := (true, "d04121bfd1dc4d262ff6f245ee15613defb722ed6bd7bfa7d7a555c8d2567afa"), looks := false }, kinds := [], alts := [], laidByText := true, laidKinds := [.data], laidTests := true, laidLooks := .later }
def SpongePartsCardSaid : Prop := Claim7.holds Tryd.pinned (.plain (OpenSpec.ofChange spongePartsSpec)) spongePartsCard

/-- THE TIED CARD OF 'pumicelaw04.SpongeApart'. -/
def spongeApartCard : Claim7 := { stood := { row := spongeApartRow, standIns := [], harness := (true, "d04121bfd1dc4d262ff6f245ee15613defb722ed6bd7bfa7d7a555c8d2567afa"), looks := false }, kinds := [], alts := [], laidByText := true, laidKinds := [.data], laidTests := true, laidLooks := .later }
def SpongeApartCardSaid : Prop := Claim7.holds Tryd.pinned (.plain (OpenSpec.ofChange spongeApartSpec)) spongeApartCard

/-- THE TIED CARD OF 'pumicelaw04.SpongeNil'. -/
def spongeNilCard : Claim7 := { stood := { row := spongeNilRow, standIns := [], harness := (true, "d04121bfd1dc4d262ff6f245ee15613defb722ed6bd7bfa7d7a555c8d2567afa"), looks := false }, kinds := [], alts := [], laidByText := true, laidKinds := [.data], laidTests := true, laidLooks := .later }
def SpongeNilCardSaid : Prop := Claim7.holds Tryd.pinned (.plain (OpenSpec.ofChange spongeNilSpec)) spongeNilCard

/-- THE SECOND FORM's CARD OF 'pumicelaw04.SpongeSums'. -/
def spongeSumsUptoCard : Claim7 := { stood := { row := spongeSumsUptoRow, standIns := [], harness := (true, "d04121bfd1dc4d262ff6f245ee15613defb722ed6bd7bfa7d7a555c8d2567afa"), looks := false }, kinds := [], alts := [], laidByText := true, laidKinds := [.data], laidTests := true, laidLooks := .later }
def SpongeSumsUptoCardSaid : Prop := Claim7.holds Tryd.pinned (.plain (OpenSpec.upto spongeSumsSpec)) spongeSumsUptoCard

/-- THE SECOND FORM's CARD OF 'pumicelaw04.SpongeStates'. -/
def spongeStatesUptoCard : Claim7 := { stood := { row := spongeStatesUptoRow, standIns := [], harness := (true, "d04121bfd1dc4d262ff6f245ee15613defb722ed6bd7bfa7d7a555c8d2567afa"), looks := false }, kinds := [], alts := [], laidByText := true, laidKinds := [.data], laidTests := true, laidLooks := .later }
def SpongeStatesUptoCardSaid : Prop := Claim7.holds Tryd.pinned (.plain (OpenSpec.upto spongeStatesSpec)) spongeStatesUptoCard

/-- THE SECOND FORM's CARD OF 'pumicelaw04.SpongeParts'. -/
def spongePartsUptoCard : Claim7 := { stood := { row := spongePartsUptoRow, standIns := [], harness := (true, "d04121bfd1dc4d262ff6f245ee15613defb722ed6bd7bfa7d7a555c8d2567afa"), looks := false }, kinds := [], alts := [], laidByText := true, laidKinds := [.data], laidTests := true, laidLooks := .later }
def SpongePartsUptoCardSaid : Prop := Claim7.holds Tryd.pinned (.plain (OpenSpec.upto spongePartsSpec)) spongePartsUptoCard

/-- THE SECOND FORM's CARD OF 'pumicelaw04.SpongeApart'. -/
def spongeApartUptoCard : Claim7 := { stood := { row := spongeApartUptoRow, standIns := [], harness := (true, "d04121bfd1dc4d262ff6f245ee15613defb722ed6bd7bfa7d7a555c8d2567afa"), looks := false }, kinds := [], alts := [], laidByText := true, laidKinds := [.data], laidTests := true, laidLooks := .later }
def SpongeApartUptoCardSaid : Prop := Claim7.holds Tryd.pinned (.plain (OpenSpec.upto spongeApartSpec)) spongeApartUptoCard

/-- THE SECOND FORM's CARD OF 'pumicelaw04.SpongeNil'. -/
def spongeNilUptoCard : Claim7 := { stood := { row := spongeNilUptoRow, standIns := [], harness := (true, "d04121bfd1dc4d262ff6f245ee15613defb722ed6bd7bfa7d7a555c8d2567afa"), looks := false }, kinds := [], alts := [], laidByText := true, laidKinds := [.data], laidTests := true, laidLooks := .later }
def SpongeNilUptoCardSaid : Prop := Claim7.holds Tryd.pinned (.plain (OpenSpec.upto spongeNilSpec)) spongeNilUptoCard
end Rows
end Go.Proofs.YtfbpajiddkehnaaDoor
