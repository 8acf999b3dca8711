/-
  DERIVED. GIVEN WITH THE SEED: THE CARDS: each row of YtlopmmedokllaaaDoorRows.lean that lists a variable, with what it lists TIED to the program's text (the seventh form; the later family's looks); each row that meets fmt, with fmt's text TOLD by the authors' own Lean function (tested against real Go, not proved from fmt's source: count such statements apart). THE CARD IS WHAT COUNTS. Prove the row's statement (the work); the ties are given (YtlopmmedokllaaaDoorTie.lean); close each card by the builder's one call (the guide's Derived/Test/ToyasCard.lean, 'card_holds'). Laid BY PROGRAM, IN A SANDBOX (cutbox-door.mjs). By AI agents, Wed Nov 11 2026. No macro, syntax, notation, axiom, sorry.
-/
import Derived.Test.YtlopmmedokllaaaDoorRows
import GoSem.ClaimSeven
namespace Go.Proofs.YtlopmmedokllaaaDoor
namespace Rows

/-- THE TIED CARD OF 'familychecklaw01.LinearFormats'. -/
def linearFormatsCard : Claim7 := { stood := { row := linearFormatsRow, standIns := [], harness := (true, "84fcc6dbb157c94faaf1605a33624050ff216f9ad93e124238dad1da265542cc"), looks := false }, kinds := [], alts := [], laidByText := true, laidKinds := [.data, .data, .data], laidTests := true, laidLooks := .later }
def LinearFormatsCardSaid : Prop := Claim7.holds Tryd.pinned (.plain (OpenSpec.ofChange linearFormatsSpec)) linearFormatsCard

/-- THE SECOND FORM's CARD OF 'familychecklaw01.LinearFormats'. -/
def linearFormatsUptoCard : Claim7 := { stood := { row := linearFormatsUptoRow, standIns := [], harness := (true, "84fcc6dbb157c94faaf1605a33624050ff216f9ad93e124238dad1da265542cc"), looks := false }, kinds := [], alts := [], laidByText := true, laidKinds := [.data, .data, .data], laidTests := true, laidLooks := .later }
def LinearFormatsUptoCardSaid : Prop := Claim7.holds Tryd.pinned (.plain (OpenSpec.upto linearFormatsSpec)) linearFormatsUptoCard
end Rows
end Go.Proofs.YtlopmmedokllaaaDoor
