/-
  DERIVED. GIVEN WITH THE SEED: THE CARDS: each row of YtmpbfdfjcfanoaaDoorRows.lean that lists a variable, with what it lists TIED to the program's text (the seventh form; the later family's looks); each row that meets fmt, with fmt's text TOLD by the authors' own Lean function (tested against real Go, not proved from fmt's source: count such statements apart). THE CARD IS WHAT COUNTS. Prove the row's statement (the work); the ties are given (YtmpbfdfjcfanoaaDoorTie.lean); close each card by the builder's one call (the guide's Derived/Test/ToyasCard.lean, 'card_holds'). Laid BY PROGRAM, IN A SANDBOX (cutbox-door.mjs). By AI agents, Wed Nov 11 2026. No macro, syntax, notation, axiom, sorry.
-/
import Derived.Test.YtmpbfdfjcfanoaaDoorRows
import GoSem.ClaimSeven
namespace Go.Proofs.YtmpbfdfjcfanoaaDoor
namespace Rows

/-- THE TIED CARD OF 'familychecklaw02.ProtocolValidates'. -/
def protocolValidatesCard : Claim7 := { stood := { row := protocolValidatesRow, standIns := [], harness := (true, "b061757104f40082eb6cd8b1da59f2bbc6afd1af56672afa7a17205154de9e2f"), looks := false }, kinds := [], alts := [], laidByText := true, laidKinds := [.data, .data, .data], laidTests := true, laidLooks := .later }
def ProtocolValidatesCardSaid : Prop := Claim7.holds Tryd.pinned (.plain (OpenSpec.ofChange protocolValidatesSpec)) protocolValidatesCard

/-- THE TIED CARD OF 'familychecklaw02.ProtocolRules'. -/
def protocolRulesCard : Claim7 := { stood := { row := protocolRulesRow, standIns := [], harness := (true, "b061757104f40082eb6cd8b1da59f2bbc6afd1af56672afa7a17205154de9e2f"), looks := false }, kinds := [], alts := [], laidByText := true, laidKinds := [.data, .data, .data], laidTests := true, laidLooks := .later }
def ProtocolRulesCardSaid : Prop := Claim7.holds Tryd.pinned (.plain (OpenSpec.ofChange protocolRulesSpec)) protocolRulesCard

/-- THE TIED CARD OF 'familychecklaw02.ProtocolClasses'. -/
def protocolClassesCard : Claim7 := { stood := { row := protocolClassesRow, standIns := [], harness := (true, "b061757104f40082eb6cd8b1da59f2bbc6afd1af56672afa7a17205154de9e2f"), looks := false }, kinds := [], alts := [], laidByText := true, laidKinds := [.data, .data, .data], laidTests := true, laidLooks := .later }
def ProtocolClassesCardSaid : Prop := Claim7.holds Tryd.pinned (.plain (OpenSpec.ofChange protocolClassesSpec)) protocolClassesCard

/-- THE TIED CARD OF 'familychecklaw02.ProtocolAdmits'. -/
def protocolAdmitsCard : Claim7 := { stood := { row := protocolAdmitsRow, standIns := [], harness := (true, "b061757104f40082eb6cd8b1da59f2bbc6afd1af56672afa7a17205154de9e2f"), looks := false }, kinds := [], alts := [], laidByText := true, laidKinds := [.data, .data, .data], laidTests := true, laidLooks := .later }
def ProtocolAdmitsCardSaid : Prop := Claim7.holds Tryd.pinned (.plain (OpenSpec.ofChange protocolAdmitsSpec)) protocolAdmitsCard

/-- THE TIED CARD OF 'familychecklaw02.ProtocolSizes'. -/
def protocolSizesCard : Claim7 := { stood := { row := protocolSizesRow, standIns := [], harness := (true, "b061757104f40082eb6cd8b1da59f2bbc6afd1af56672afa7a17205154de9e2f"), looks := false }, kinds := [], alts := [], laidByText := true, laidKinds := [.data, .data, .data], laidTests := true, laidLooks := .later }
def ProtocolSizesCardSaid : Prop := Claim7.holds Tryd.pinned (.plain (OpenSpec.ofChange protocolSizesSpec)) protocolSizesCard

/-- THE TIED CARD OF 'familychecklaw02.ProtocolThresholds'. -/
def protocolThresholdsCard : Claim7 := { stood := { row := protocolThresholdsRow, standIns := [], harness := (true, "b061757104f40082eb6cd8b1da59f2bbc6afd1af56672afa7a17205154de9e2f"), looks := false }, kinds := [], alts := [], laidByText := true, laidKinds := [.data, .data, .data], laidTests := true, laidLooks := .later }
def ProtocolThresholdsCardSaid : Prop := Claim7.holds Tryd.pinned (.plain (OpenSpec.ofChange protocolThresholdsSpec)) protocolThresholdsCard

/-- THE TIED CARD OF 'familychecklaw02.ProtocolEquals'. -/
def protocolEqualsCard : Claim7 := { stood := { row := protocolEqualsRow, standIns := [], harness := (true, "b061757104f40082eb6cd8b1da59f2bbc6afd1af56672afa7a17205154de9e2f"), looks := false }, kinds := [], alts := [], laidByText := true, laidKinds := [.data, .data, .data], laidTests := true, laidLooks := .later }
def ProtocolEqualsCardSaid : Prop := Claim7.holds Tryd.pinned (.plain (OpenSpec.ofChange protocolEqualsSpec)) protocolEqualsCard

/-- THE TIED CARD OF 'familychecklaw02.ProtocolValidatesProperty'. -/
def protocolValidatesPropertyCard : Claim7 := { stood := { row := protocolValidatesPropertyRow, standIns := [], harness := (true, "b061757104f40082eb6cd8b1da59f2bbc6afd1af56672afa7a17205154de9e2f"), looks := false }, kinds := [], alts := [], laidByText := true, laidKinds := [.data, .data, .data], laidTests := true, laidLooks := .later }
def ProtocolValidatesPropertyCardSaid : Prop := Claim7.holds Tryd.pinned (.plain (OpenSpec.ofChange protocolValidatesPropertySpec)) protocolValidatesPropertyCard

/-- THE TIED CARD OF 'familychecklaw02.ProtocolStarts'. -/
def protocolStartsCard : Claim7 := { stood := { row := protocolStartsRow, standIns := [], harness := (true, "b061757104f40082eb6cd8b1da59f2bbc6afd1af56672afa7a17205154de9e2f"), looks := false }, kinds := [], alts := [], laidByText := true, laidKinds := [.data, .data, .data], laidTests := true, laidLooks := .later }
def ProtocolStartsCardSaid : Prop := Claim7.holds Tryd.pinned (.plain (OpenSpec.ofChange protocolStartsSpec)) protocolStartsCard

/-- THE TIED CARD OF 'familychecklaw02.ProtocolChanges'. -/
def protocolChangesCard : Claim7 := { stood := { row := protocolChangesRow, standIns := [], harness := (true, "b061757104f40082eb6cd8b1da59f2bbc6afd1af56672afa7a17205154de9e2f"), looks := false }, kinds := [], alts := [], laidByText := true, laidKinds := [.data, .data, .data], laidTests := true, laidLooks := .later }
def ProtocolChangesCardSaid : Prop := Claim7.holds Tryd.pinned (.plain (OpenSpec.ofChange protocolChangesSpec)) protocolChangesCard

/-- THE SECOND FORM's CARD OF 'familychecklaw02.ProtocolValidates'. -/
def protocolValidatesUptoCard : Claim7 := { stood := { row := protocolValidatesUptoRow, standIns := [], harness := (true, "b061757104f40082eb6cd8b1da59f2bbc6afd1af56672afa7a17205154de9e2f"), looks := false }, kinds := [], alts := [], laidByText := true, laidKinds := [.data, .data, .data], laidTests := true, laidLooks := .later }
def ProtocolValidatesUptoCardSaid : Prop := Claim7.holds Tryd.pinned (.plain (OpenSpec.upto protocolValidatesSpec)) protocolValidatesUptoCard

/-- THE SECOND FORM's CARD OF 'familychecklaw02.ProtocolRules'. -/
def protocolRulesUptoCard : Claim7 := { stood := { row := protocolRulesUptoRow, standIns := [], harness := (true, "b061757104f40082eb6cd8b1da59f2bbc6afd1af56672afa7a17205154de9e2f"), looks := false }, kinds := [], alts := [], laidByText := true, laidKinds := [.data, .data, .data], laidTests := true, laidLooks := .later }
def ProtocolRulesUptoCardSaid : Prop := Claim7.holds Tryd.pinned (.plain (OpenSpec.upto protocolRulesSpec)) protocolRulesUptoCard

/-- THE SECOND FORM's CARD OF 'familychecklaw02.ProtocolClasses'. -/
def protocolClassesUptoCard : Claim7 := { stood := { row := protocolClassesUptoRow, standIns := [], harness := (true, "b061757104f40082eb6cd8b1da59f2bbc6afd1af56672afa7a17205154de9e2f"), looks := false }, kinds := [], alts := [], laidByText := true, laidKinds := [.data, .data, .data], laidTests := true, laidLooks := .later }
def ProtocolClassesUptoCardSaid : Prop := Claim7.holds Tryd.pinned (.plain (OpenSpec.upto protocolClassesSpec)) protocolClassesUptoCard

/-- THE SECOND FORM's CARD OF 'familychecklaw02.ProtocolAdmits'. -/
def protocolAdmitsUptoCard : Claim7 := { stood := { row := protocolAdmitsUptoRow, standIns := [], harness := (true, "b061757104f40082eb6cd8b1da59f2bbc6afd1af56672afa7a17205154de9e2f"), looks := false }, kinds := [], alts := [], laidByText := true, laidKinds := [.data, .data, .data], laidTests := true, laidLooks := .later }
def ProtocolAdmitsUptoCardSaid : Prop := Claim7.holds Tryd.pinned (.plain (OpenSpec.upto protocolAdmitsSpec)) protocolAdmitsUptoCard

/-- THE SECOND FORM's CARD OF 'familychecklaw02.ProtocolSizes'. -/
def protocolSizesUptoCard : Claim7 := { stood := { row := protocolSizesUptoRow, standIns := [], harness := (true, "b061757104f40082eb6cd8b1da59f2bbc6afd1af56672afa7a17205154de9e2f"), looks := false }, kinds := [], alts := [], laidByText := true, laidKinds := [.data, .data, .data], laidTests := true, laidLooks := .later }
def ProtocolSizesUptoCardSaid : Prop := Claim7.holds Tryd.pinned (.plain (OpenSpec.upto protocolSizesSpec)) protocolSizesUptoCard

/-- THE SECOND FORM's CARD OF 'familychecklaw02.ProtocolThresholds'. -/
def protocolThresholdsUptoCard : Claim7 := { stood := { row := protocolThresholdsUptoRow, standIns := [], harness := (true, "b061757104f40082eb6cd8b1da59f2bbc6afd1af56672afa7a17205154de9e2f"), looks := false }, kinds := [], alts := [], laidByText := true, laidKinds := [.data, .data, .data], laidTests := true, laidLooks := .later }
def ProtocolThresholdsUptoCardSaid : Prop := Claim7.holds Tryd.pinned (.plain (OpenSpec.upto protocolThresholdsSpec)) protocolThresholdsUptoCard

/-- THE SECOND FORM's CARD OF 'familychecklaw02.ProtocolEquals'. -/
def protocolEqualsUptoCard : Claim7 := { stood := { row := protocolEqualsUptoRow, standIns := [], harness := (true, "b061757104f40082eb6cd8b1da59f2bbc6afd1af56672afa7a17205154de9e2f"), looks := false }, kinds := [], alts := [], laidByText := true, laidKinds := [.data, .data, .data], laidTests := true, laidLooks := .later }
def ProtocolEqualsUptoCardSaid : Prop := Claim7.holds Tryd.pinned (.plain (OpenSpec.upto protocolEqualsSpec)) protocolEqualsUptoCard

/-- THE SECOND FORM's CARD OF 'familychecklaw02.ProtocolValidatesProperty'. -/
def protocolValidatesPropertyUptoCard : Claim7 := { stood := { row := protocolValidatesPropertyUptoRow, standIns := [], harness := (true, "b061757104f40082eb6cd8b1da59f2bbc6afd1af56672afa7a17205154de9e2f"), looks := false }, kinds := [], alts := [], laidByText := true, laidKinds := [.data, .data, .data], laidTests := true, laidLooks := .later }
def ProtocolValidatesPropertyUptoCardSaid : Prop := Claim7.holds Tryd.pinned (.plain (OpenSpec.upto protocolValidatesPropertySpec)) protocolValidatesPropertyUptoCard

/-- THE SECOND FORM's CARD OF 'familychecklaw02.ProtocolStarts'. -/
def protocolStartsUptoCard : Claim7 := { stood := { row := protocolStartsUptoRow, standIns := [], harness := (true, "b061757104f40082eb6cd8b1da59f2bbc6afd1af56672afa7a17205154de9e2f"), looks := false }, kinds := [], alts := [], laidByText := true, laidKinds := [.data, .data, .data], laidTests := true, laidLooks := .later }
def ProtocolStartsUptoCardSaid : Prop := Claim7.holds Tryd.pinned (.plain (OpenSpec.upto protocolStartsSpec)) protocolStartsUptoCard

/-- THE SECOND FORM's CARD OF 'familychecklaw02.ProtocolChanges'. -/
def protocolChangesUptoCard : Claim7 := { stood := { row := protocolChangesUptoRow, standIns := [], harness := (true, "b061757104f40082eb6cd8b1da59f2bbc6afd1af56672afa7a17205154de9e2f"), looks := false }, kinds := [], alts := [], laidByText := true, laidKinds := [.data, .data, .data], laidTests := true, laidLooks := .later }
def ProtocolChangesUptoCardSaid : Prop := Claim7.holds Tryd.pinned (.plain (OpenSpec.upto protocolChangesSpec)) protocolChangesUptoCard
end Rows
end Go.Proofs.YtmpbfdfjcfanoaaDoor
