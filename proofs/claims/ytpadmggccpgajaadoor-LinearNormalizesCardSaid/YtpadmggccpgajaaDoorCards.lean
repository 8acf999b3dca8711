/-
  DERIVED. GIVEN WITH THE SEED: THE CARDS: each row of YtpadmggccpgajaaDoorRows.lean that lists a variable, with what it lists TIED to the program's text (the seventh form; the later family's looks); each row that meets fmt, with fmt's text TOLD by the authors' own Lean function (tested against real Go, not proved from fmt's source: count such statements apart). THE CARD IS WHAT COUNTS. Prove the row's statement (the work); the ties are given (YtpadmggccpgajaaDoorTie.lean); close each card by the builder's one call (the guide's Derived/Test/ToyasCard.lean, 'card_holds'). Laid BY PROGRAM, IN A SANDBOX (cutbox-door.mjs). By AI agents, Wed Nov 11 2026. No macro, syntax, notation, axiom, sorry.
-/
import Derived.Test.YtpadmggccpgajaaDoorRows
import GoSem.ClaimSeven
namespace Go.Proofs.YtpadmggccpgajaaDoor
namespace Rows

/-- THE TIED CARD OF 'familychecklaw02.ProtocolStarts'. -/
def protocolStartsCard : Claim7 := { stood := { row := protocolStartsRow, standIns := [], harness := (true, "261288511095106f6b4840285b5b842ad785e75ac306fd0f13bc93b4700a29a6"), looks := false }, kinds := [], alts := [], laidByText := true, laidKinds := [.data, .data, .data], laidTests := true, laidLooks := .later }
def ProtocolStartsCardSaid : Prop := Claim7.holds Tryd.pinned (.plain (OpenSpec.ofChange protocolStartsSpec)) protocolStartsCard

/-- THE TIED CARD OF 'familychecklaw02.ProtocolChanges'. -/
def protocolChangesCard : Claim7 := { stood := { row := protocolChangesRow, standIns := [], harness := (true, "261288511095106f6b4840285b5b842ad785e75ac306fd0f13bc93b4700a29a6"), looks := false }, kinds := [], alts := [], laidByText := true, laidKinds := [.data, .data, .data], laidTests := true, laidLooks := .later }
def ProtocolChangesCardSaid : Prop := Claim7.holds Tryd.pinned (.plain (OpenSpec.ofChange protocolChangesSpec)) protocolChangesCard

/-- THE TIED CARD OF 'familychecklaw01.LinearAppends'. -/
def linearAppendsCard : Claim7 := { stood := { row := linearAppendsRow, standIns := [], harness := (true, "261288511095106f6b4840285b5b842ad785e75ac306fd0f13bc93b4700a29a6"), looks := false }, kinds := [], alts := [], laidByText := true, laidKinds := [.data, .data, .data], laidTests := true, laidLooks := .later }
def LinearAppendsCardSaid : Prop := Claim7.holds Tryd.pinned (.plain (OpenSpec.ofChange linearAppendsSpec)) linearAppendsCard

/-- THE TIED CARD OF 'familychecklaw01.LinearNormalizes'. -/
def linearNormalizesCard : Claim7 := { stood := { row := linearNormalizesRow, standIns := [], harness := (true, "261288511095106f6b4840285b5b842ad785e75ac306fd0f13bc93b4700a29a6"), looks := false }, kinds := [], alts := [], laidByText := true, laidKinds := [.data, .data, .data], laidTests := true, laidLooks := .later }
def LinearNormalizesCardSaid : Prop := Claim7.holds Tryd.pinned (.plain (OpenSpec.ofChange linearNormalizesSpec)) linearNormalizesCard

/-- THE TIED CARD OF 'familychecklaw01.LinearNormalKeeps'. -/
def linearNormalKeepsCard : Claim7 := { stood := { row := linearNormalKeepsRow, standIns := [], harness := (true, "261288511095106f6b4840285b5b842ad785e75ac306fd0f13bc93b4700a29a6"), looks := false }, kinds := [], alts := [], laidByText := true, laidKinds := [.data, .data, .data], laidTests := true, laidLooks := .later }
def LinearNormalKeepsCardSaid : Prop := Claim7.holds Tryd.pinned (.plain (OpenSpec.ofChange linearNormalKeepsSpec)) linearNormalKeepsCard

/-- THE TIED CARD OF 'familychecklaw01.LinearSubstitutes'. -/
def linearSubstitutesCard : Claim7 := { stood := { row := linearSubstitutesRow, standIns := [], harness := (true, "261288511095106f6b4840285b5b842ad785e75ac306fd0f13bc93b4700a29a6"), looks := false }, kinds := [], alts := [], laidByText := true, laidKinds := [.data, .data, .data], laidTests := true, laidLooks := .later }
def LinearSubstitutesCardSaid : Prop := Claim7.holds Tryd.pinned (.plain (OpenSpec.ofChange linearSubstitutesSpec)) linearSubstitutesCard

/-- THE TIED CARD OF 'familychecklaw01.LinearSubstituteMeans'. -/
def linearSubstituteMeansCard : Claim7 := { stood := { row := linearSubstituteMeansRow, standIns := [], harness := (true, "261288511095106f6b4840285b5b842ad785e75ac306fd0f13bc93b4700a29a6"), looks := false }, kinds := [], alts := [], laidByText := true, laidKinds := [.data, .data, .data], laidTests := true, laidLooks := .later }
def LinearSubstituteMeansCardSaid : Prop := Claim7.holds Tryd.pinned (.plain (OpenSpec.ofChange linearSubstituteMeansSpec)) linearSubstituteMeansCard

/-- THE TIED CARD OF 'familychecklaw01.LinearEliminates'. -/
def linearEliminatesCard : Claim7 := { stood := { row := linearEliminatesRow, standIns := [], harness := (true, "261288511095106f6b4840285b5b842ad785e75ac306fd0f13bc93b4700a29a6"), looks := false }, kinds := [], alts := [], laidByText := true, laidKinds := [.data, .data, .data], laidTests := true, laidLooks := .later }
def LinearEliminatesCardSaid : Prop := Claim7.holds Tryd.pinned (.plain (OpenSpec.ofChange linearEliminatesSpec)) linearEliminatesCard

/-- THE TIED CARD OF 'familychecklaw01.LinearFormats'. -/
def linearFormatsCard : Claim7 := { stood := { row := linearFormatsRow, standIns := [], harness := (true, "261288511095106f6b4840285b5b842ad785e75ac306fd0f13bc93b4700a29a6"), looks := false }, kinds := [], alts := [], laidByText := true, laidKinds := [.data, .data, .data], laidTests := true, laidLooks := .later }
def LinearFormatsCardSaid : Prop := Claim7.holds Tryd.pinned (.plain (OpenSpec.ofChange linearFormatsSpec)) linearFormatsCard

/-- THE SECOND FORM's CARD OF 'familychecklaw02.ProtocolStarts'. -/
def protocolStartsUptoCard : Claim7 := { stood := { row := protocolStartsUptoRow, standIns := [], harness := (true, "261288511095106f6b4840285b5b842ad785e75ac306fd0f13bc93b4700a29a6"), looks := false }, kinds := [], alts := [], laidByText := true, laidKinds := [.data, .data, .data], laidTests := true, laidLooks := .later }
def ProtocolStartsUptoCardSaid : Prop := Claim7.holds Tryd.pinned (.plain (OpenSpec.upto protocolStartsSpec)) protocolStartsUptoCard

/-- THE SECOND FORM's CARD OF 'familychecklaw02.ProtocolChanges'. -/
def protocolChangesUptoCard : Claim7 := { stood := { row := protocolChangesUptoRow, standIns := [], harness := (true, "261288511095106f6b4840285b5b842ad785e75ac306fd0f13bc93b4700a29a6"), looks := false }, kinds := [], alts := [], laidByText := true, laidKinds := [.data, .data, .data], laidTests := true, laidLooks := .later }
def ProtocolChangesUptoCardSaid : Prop := Claim7.holds Tryd.pinned (.plain (OpenSpec.upto protocolChangesSpec)) protocolChangesUptoCard

/-- THE SECOND FORM's CARD OF 'familychecklaw01.LinearAppends'. -/
def linearAppendsUptoCard : Claim7 := { stood := { row := linearAppendsUptoRow, standIns := [], harness := (true, "261288511095106f6b4840285b5b842ad785e75ac306fd0f13bc93b4700a29a6"), looks := false }, kinds := [], alts := [], laidByText := true, laidKinds := [.data, .data, .data], laidTests := true, laidLooks := .later }
def LinearAppendsUptoCardSaid : Prop := Claim7.holds Tryd.pinned (.plain (OpenSpec.upto linearAppendsSpec)) linearAppendsUptoCard

/-- THE SECOND FORM's CARD OF 'familychecklaw01.LinearNormalizes'. -/
def linearNormalizesUptoCard : Claim7 := { stood := { row := linearNormalizesUptoRow, standIns := [], harness := (true, "261288511095106f6b4840285b5b842ad785e75ac306fd0f13bc93b4700a29a6"), looks := false }, kinds := [], alts := [], laidByText := true, laidKinds := [.data, .data, .data], laidTests := true, laidLooks := .later }
def LinearNormalizesUptoCardSaid : Prop := Claim7.holds Tryd.pinned (.plain (OpenSpec.upto linearNormalizesSpec)) linearNormalizesUptoCard

/-- THE SECOND FORM's CARD OF 'familychecklaw01.LinearNormalKeeps'. -/
def linearNormalKeepsUptoCard : Claim7 := { stood := { row := linearNormalKeepsUptoRow, standIns := [], harness := (true, "261288511095106f6b4840285b5b842ad785e75ac306fd0f13bc93b4700a29a6"), looks := false }, kinds := [], alts := [], laidByText := true, laidKinds := [.data, .data, .data], laidTests := true, laidLooks := .later }
def LinearNormalKeepsUptoCardSaid : Prop := Claim7.holds Tryd.pinned (.plain (OpenSpec.upto linearNormalKeepsSpec)) linearNormalKeepsUptoCard

/-- THE SECOND FORM's CARD OF 'familychecklaw01.LinearSubstitutes'. -/
def linearSubstitutesUptoCard : Claim7 := { stood := { row := linearSubstitutesUptoRow, standIns := [], harness := (true, "261288511095106f6b4840285b5b842ad785e75ac306fd0f13bc93b4700a29a6"), looks := false }, kinds := [], alts := [], laidByText := true, laidKinds := [.data, .data, .data], laidTests := true, laidLooks := .later }
def LinearSubstitutesUptoCardSaid : Prop := Claim7.holds Tryd.pinned (.plain (OpenSpec.upto linearSubstitutesSpec)) linearSubstitutesUptoCard

/-- THE SECOND FORM's CARD OF 'familychecklaw01.LinearSubstituteMeans'. -/
def linearSubstituteMeansUptoCard : Claim7 := { stood := { row := linearSubstituteMeansUptoRow, standIns := [], harness := (true, "261288511095106f6b4840285b5b842ad785e75ac306fd0f13bc93b4700a29a6"), looks := false }, kinds := [], alts := [], laidByText := true, laidKinds := [.data, .data, .data], laidTests := true, laidLooks := .later }
def LinearSubstituteMeansUptoCardSaid : Prop := Claim7.holds Tryd.pinned (.plain (OpenSpec.upto linearSubstituteMeansSpec)) linearSubstituteMeansUptoCard

/-- THE SECOND FORM's CARD OF 'familychecklaw01.LinearEliminates'. -/
def linearEliminatesUptoCard : Claim7 := { stood := { row := linearEliminatesUptoRow, standIns := [], harness := (true, "261288511095106f6b4840285b5b842ad785e75ac306fd0f13bc93b4700a29a6"), looks := false }, kinds := [], alts := [], laidByText := true, laidKinds := [.data, .data, .data], laidTests := true, laidLooks := .later }
def LinearEliminatesUptoCardSaid : Prop := Claim7.holds Tryd.pinned (.plain (OpenSpec.upto linearEliminatesSpec)) linearEliminatesUptoCard

/-- THE SECOND FORM's CARD OF 'familychecklaw01.LinearFormats'. -/
def linearFormatsUptoCard : Claim7 := { stood := { row := linearFormatsUptoRow, standIns := [], harness := (true, "261288511095106f6b4840285b5b842ad785e75ac306fd0f13bc93b4700a29a6"), looks := false }, kinds := [], alts := [], laidByText := true, laidKinds := [.data, .data, .data], laidTests := true, laidLooks := .later }
def LinearFormatsUptoCardSaid : Prop := Claim7.holds Tryd.pinned (.plain (OpenSpec.upto linearFormatsSpec)) linearFormatsUptoCard
end Rows
end Go.Proofs.YtpadmggccpgajaaDoor
