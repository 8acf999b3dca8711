/-
  DERIVED. GIVEN WITH THE SEED: THE CARDS: each row of YtbdnihjokndhaabDoorRows.lean that lists a variable, with what it lists TIED to the program's text (the seventh form; the later family's looks); each row that meets fmt, with fmt's text TOLD by the authors' own Lean function (tested against real Go, not proved from fmt's source: count such statements apart). THE CARD IS WHAT COUNTS. Prove the row's statement (the work); the ties are given (YtbdnihjokndhaabDoorTie.lean); close each card by the builder's one call (the guide's Derived/Test/ToyasCard.lean, 'card_holds'). Laid BY PROGRAM, IN A SANDBOX (cutbox-door.mjs). By AI agents, Wed Nov 11 2026. No macro, syntax, notation, axiom, sorry.
-/
import Derived.Test.YtbdnihjokndhaabDoorRows
import GoSem.ClaimSeven
namespace Go.Proofs.YtbdnihjokndhaabDoor
namespace Rows

/-- THE TIED CARD OF 'familychecklaw02.ProtocolEqualsProperty'. -/
def protocolEqualsPropertyCard : Claim7 := { stood := { row := protocolEqualsPropertyRow, standIns := [], harness := (true, "ec1305c80b555d835f22cd92f3d6c8b2503ff1a11bd1df4ff6d7b41ad0025bfa"), looks := false }, kinds := [], alts := [], laidByText := true, laidKinds := [.data, .data, .data], laidTests := true, laidLooks := .later }
def ProtocolEqualsPropertyCardSaid : Prop := Claim7.holds Tryd.pinned (.plain (OpenSpec.ofChange protocolEqualsPropertySpec)) protocolEqualsPropertyCard

/-- THE TIED CARD OF 'familychecklaw02.ProtocolEquals'. -/
def protocolEqualsCard : Claim7 := { stood := { row := protocolEqualsRow, standIns := [], harness := (true, "ec1305c80b555d835f22cd92f3d6c8b2503ff1a11bd1df4ff6d7b41ad0025bfa"), looks := false }, kinds := [], alts := [], laidByText := true, laidKinds := [.data, .data, .data], laidTests := true, laidLooks := .later }
def ProtocolEqualsCardSaid : Prop := Claim7.holds Tryd.pinned (.plain (OpenSpec.ofChange protocolEqualsSpec)) protocolEqualsCard

/-- THE SECOND FORM's CARD OF 'familychecklaw02.ProtocolEqualsProperty'. -/
def protocolEqualsPropertyUptoCard : Claim7 := { stood := { row := protocolEqualsPropertyUptoRow, standIns := [], harness := (true, "ec1305c80b555d835f22cd92f3d6c8b2503ff1a11bd1df4ff6d7b41ad0025bfa"), looks := false }, kinds := [], alts := [], laidByText := true, laidKinds := [.data, .data, .data], laidTests := true, laidLooks := .later }
def ProtocolEqualsPropertyUptoCardSaid : Prop := Claim7.holds Tryd.pinned (.plain (OpenSpec.upto protocolEqualsPropertySpec)) protocolEqualsPropertyUptoCard

/-- THE SECOND FORM's CARD OF 'familychecklaw02.ProtocolEquals'. -/
def protocolEqualsUptoCard : Claim7 := { stood := { row := protocolEqualsUptoRow, standIns := [], harness := (true, "ec1305c80b555d835f22cd92f3d6c8b2503ff1a11bd1df4ff6d7b41ad0025bfa"), looks := false }, kinds := [], alts := [], laidByText := true, laidKinds := [.data, .data, .data], laidTests := true, laidLooks := .later }
def ProtocolEqualsUptoCardSaid : Prop := Claim7.holds Tryd.pinned (.plain (OpenSpec.upto protocolEqualsSpec)) protocolEqualsUptoCard
end Rows
end Go.Proofs.YtbdnihjokndhaabDoor
