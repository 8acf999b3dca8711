/-
  DERIVED. GIVEN WITH THE SEED: THE CARDS: each row of YtbbglendddepfaaDoorRows.lean that lists a variable, with what it lists TIED to the program's text (the seventh form; the later family's looks); each row that meets fmt, with fmt's text TOLD by the authors' own Lean function (tested against real Go, not proved from fmt's source: count such statements apart). THE CARD IS WHAT COUNTS. Prove the row's statement (the work); the ties are given (YtbbglendddepfaaDoorTie.lean); close each card by the builder's one call (the guide's Derived/Test/ToyasCard.lean, 'card_holds'). Laid BY PROGRAM, IN A SANDBOX (cutbox-door.mjs). By AI agents, Wed Nov 11 2026. No macro, syntax, notation, axiom, sorry.
-/
import Derived.Test.YtbbglendddepfaaDoorRows
import GoSem.ClaimSeven
namespace Go.Proofs.YtbbglendddepfaaDoor
namespace Rows

/-- THE TIED CARD OF 'familychecklaw01.LinearNormalKeeps'. -/
def linearNormalKeepsCard : Claim7 := { stood := { row := linearNormalKeepsRow, standIns := [], harness := (true, "ba11dbc64467a4088075bb88f9000df67fb98fdaa641df9873c6dae4069acc3b"), looks := false }, kinds := [], alts := [], laidByText := true, laidKinds := [.data, .data, .data], laidTests := true, laidLooks := .later }
def LinearNormalKeepsCardSaid : Prop := Claim7.holds Tryd.pinned (.plain (OpenSpec.ofChange linearNormalKeepsSpec)) linearNormalKeepsCard

/-- THE TIED CARD OF 'familychecklaw01.LinearSubstitutes'. -/
def linearSubstitutesCard : Claim7 := { stood := { row := linearSubstitutesRow, standIns := [], harness := (true, "ba11dbc64467a4088075bb88f9000df67fb98fdaa641df9873c6dae4069acc3b"), looks := false }, kinds := [], alts := [], laidByText := true, laidKinds := [.data, .data, .data], laidTests := true, laidLooks := .later }
def LinearSubstitutesCardSaid : Prop := Claim7.holds Tryd.pinned (.plain (OpenSpec.ofChange linearSubstitutesSpec)) linearSubstitutesCard

/-- THE TIED CARD OF 'familychecklaw01.LinearSubstituteMeans'. -/
def linearSubstituteMeansCard : Claim7 := { stood := { row := linearSubstituteMeansRow, standIns := [], harness := (true, "ba11dbc64467a4088075bb88f9000df67fb98fdaa641df9873c6dae4069acc3b"), looks := false }, kinds := [], alts := [], laidByText := true, laidKinds := [.data, .data, .data], laidTests := true, laidLooks := .later }
def LinearSubstituteMeansCardSaid : Prop := Claim7.holds Tryd.pinned (.plain (OpenSpec.ofChange linearSubstituteMeansSpec)) linearSubstituteMeansCard

/-- THE TIED CARD OF 'familychecklaw01.LinearEliminates'. -/
def linearEliminatesCard : Claim7 := { stood := { row := linearEliminatesRow, standIns := [], harness := (true, "ba11dbc64467a4088075bb88f9000df67fb98fdaa641df9873c6dae4069acc3b"), looks := false }, kinds := [], alts := [], laidByText := true, laidKinds := [.data, .data, .data], laidTests := true, laidLooks := .later }
def LinearEliminatesCardSaid : Prop := Claim7.holds Tryd.pinned (.plain (OpenSpec.ofChange linearEliminatesSpec)) linearEliminatesCard

/-- THE TIED CARD OF 'familychecklaw01.LinearEliminateKeeps'. -/
def linearEliminateKeepsCard : Claim7 := { stood := { row := linearEliminateKeepsRow, standIns := [], harness := (true, "ba11dbc64467a4088075bb88f9000df67fb98fdaa641df9873c6dae4069acc3b"), looks := false }, kinds := [], alts := [], laidByText := true, laidKinds := [.data, .data, .data], laidTests := true, laidLooks := .later }
def LinearEliminateKeepsCardSaid : Prop := Claim7.holds Tryd.pinned (.plain (OpenSpec.ofChange linearEliminateKeepsSpec)) linearEliminateKeepsCard

/-- THE TIED CARD OF 'familychecklaw01.LinearFormats'. -/
def linearFormatsCard : Claim7 := { stood := { row := linearFormatsRow, standIns := [], harness := (true, "ba11dbc64467a4088075bb88f9000df67fb98fdaa641df9873c6dae4069acc3b"), looks := false }, kinds := [], alts := [], laidByText := true, laidKinds := [.data, .data, .data], laidTests := true, laidLooks := .later }
def LinearFormatsCardSaid : Prop := Claim7.holds Tryd.pinned (.plain (OpenSpec.ofChange linearFormatsSpec)) linearFormatsCard

/-- THE TIED CARD OF 'familychecklaw01.LinearLeast'. -/
def linearLeastCard : Claim7 := { stood := { row := linearLeastRow, standIns := [], harness := (true, "ba11dbc64467a4088075bb88f9000df67fb98fdaa641df9873c6dae4069acc3b"), looks := false }, kinds := [], alts := [], laidByText := true, laidKinds := [.data, .data, .data], laidTests := true, laidLooks := .later }
def LinearLeastCardSaid : Prop := Claim7.holds Tryd.pinned (.plain (OpenSpec.ofChange linearLeastSpec)) linearLeastCard

/-- THE TIED CARD OF 'familychecklaw01.LinearLeastFirst'. -/
def linearLeastFirstCard : Claim7 := { stood := { row := linearLeastFirstRow, standIns := [], harness := (true, "ba11dbc64467a4088075bb88f9000df67fb98fdaa641df9873c6dae4069acc3b"), looks := false }, kinds := [], alts := [], laidByText := true, laidKinds := [.data, .data, .data], laidTests := true, laidLooks := .later }
def LinearLeastFirstCardSaid : Prop := Claim7.holds Tryd.pinned (.plain (OpenSpec.ofChange linearLeastFirstSpec)) linearLeastFirstCard

/-- THE SECOND FORM's CARD OF 'familychecklaw01.LinearNormalKeeps'. -/
def linearNormalKeepsUptoCard : Claim7 := { stood := { row := linearNormalKeepsUptoRow, standIns := [], harness := (true, "ba11dbc64467a4088075bb88f9000df67fb98fdaa641df9873c6dae4069acc3b"), looks := false }, kinds := [], alts := [], laidByText := true, laidKinds := [.data, .data, .data], laidTests := true, laidLooks := .later }
def LinearNormalKeepsUptoCardSaid : Prop := Claim7.holds Tryd.pinned (.plain (OpenSpec.upto linearNormalKeepsSpec)) linearNormalKeepsUptoCard

/-- THE SECOND FORM's CARD OF 'familychecklaw01.LinearSubstitutes'. -/
def linearSubstitutesUptoCard : Claim7 := { stood := { row := linearSubstitutesUptoRow, standIns := [], harness := (true, "ba11dbc64467a4088075bb88f9000df67fb98fdaa641df9873c6dae4069acc3b"), looks := false }, kinds := [], alts := [], laidByText := true, laidKinds := [.data, .data, .data], laidTests := true, laidLooks := .later }
def LinearSubstitutesUptoCardSaid : Prop := Claim7.holds Tryd.pinned (.plain (OpenSpec.upto linearSubstitutesSpec)) linearSubstitutesUptoCard

/-- THE SECOND FORM's CARD OF 'familychecklaw01.LinearSubstituteMeans'. -/
def linearSubstituteMeansUptoCard : Claim7 := { stood := { row := linearSubstituteMeansUptoRow, standIns := [], harness := (true, "ba11dbc64467a4088075bb88f9000df67fb98fdaa641df9873c6dae4069acc3b"), looks := false }, kinds := [], alts := [], laidByText := true, laidKinds := [.data, .data, .data], laidTests := true, laidLooks := .later }
def LinearSubstituteMeansUptoCardSaid : Prop := Claim7.holds Tryd.pinned (.plain (OpenSpec.upto linearSubstituteMeansSpec)) linearSubstituteMeansUptoCard

/-- THE SECOND FORM's CARD OF 'familychecklaw01.LinearEliminates'. -/
def linearEliminatesUptoCard : Claim7 := { stood := { row := linearEliminatesUptoRow, standIns := [], harness := (true, "ba11dbc64467a4088075bb88f9000df67fb98fdaa641df9873c6dae4069acc3b"), looks := false }, kinds := [], alts := [], laidByText := true, laidKinds := [.data, .data, .data], laidTests := true, laidLooks := .later }
def LinearEliminatesUptoCardSaid : Prop := Claim7.holds Tryd.pinned (.plain (OpenSpec.upto linearEliminatesSpec)) linearEliminatesUptoCard

/-- THE SECOND FORM's CARD OF 'familychecklaw01.LinearEliminateKeeps'. -/
def linearEliminateKeepsUptoCard : Claim7 := { stood := { row := linearEliminateKeepsUptoRow, standIns := [], harness := (true, "ba11dbc64467a4088075bb88f9000df67fb98fdaa641df9873c6dae4069acc3b"), looks := false }, kinds := [], alts := [], laidByText := true, laidKinds := [.data, .data, .data], laidTests := true, laidLooks := .later }
def LinearEliminateKeepsUptoCardSaid : Prop := Claim7.holds Tryd.pinned (.plain (OpenSpec.upto linearEliminateKeepsSpec)) linearEliminateKeepsUptoCard

/-- THE SECOND FORM's CARD OF 'familychecklaw01.LinearFormats'. -/
def linearFormatsUptoCard : Claim7 := { stood := { row := linearFormatsUptoRow, standIns := [], harness := (true, "ba11dbc64467a4088075bb88f9000df67fb98fdaa641df9873c6dae4069acc3b"), looks := false }, kinds := [], alts := [], laidByText := true, laidKinds := [.data, .data, .data], laidTests := true, laidLooks := .later }
def LinearFormatsUptoCardSaid : Prop := Claim7.holds Tryd.pinned (.plain (OpenSpec.upto linearFormatsSpec)) linearFormatsUptoCard

/-- THE SECOND FORM's CARD OF 'familychecklaw01.LinearLeast'. -/
def linearLeastUptoCard : Claim7 := { stood := { row := linearLeastUptoRow, standIns := [], harness := (true, "ba11dbc64467a4088075bb88f9000df67fb98fdaa641df9873c6dae4069acc3b"), looks := false }, kinds := [], alts := [], laidByText := true, laidKinds := [.data, .data, .data], laidTests := true, laidLooks := .later }
def LinearLeastUptoCardSaid : Prop := Claim7.holds Tryd.pinned (.plain (OpenSpec.upto linearLeastSpec)) linearLeastUptoCard

/-- THE SECOND FORM's CARD OF 'familychecklaw01.LinearLeastFirst'. -/
def linearLeastFirstUptoCard : Claim7 := { stood := { row := linearLeastFirstUptoRow, standIns := [], harness := (true, "ba11dbc64467a4088075bb88f9000df67fb98fdaa641df9873c6dae4069acc3b"), looks := false }, kinds := [], alts := [], laidByText := true, laidKinds := [.data, .data, .data], laidTests := true, laidLooks := .later }
def LinearLeastFirstUptoCardSaid : Prop := Claim7.holds Tryd.pinned (.plain (OpenSpec.upto linearLeastFirstSpec)) linearLeastFirstUptoCard
end Rows
end Go.Proofs.YtbbglendddepfaaDoor
