/-
  DERIVED. GIVEN WITH THE SEED: THE CARDS: each row of YtenahfmmijpelaaDoorRows.lean that lists a variable, with what it lists TIED to the program's text (the seventh form; the later family's looks); each row that meets fmt, with fmt's text TOLD by the authors' own Lean function (tested against real Go, not proved from fmt's source: count such statements apart). THE CARD IS WHAT COUNTS. Prove the row's statement (the work); the ties are given (YtenahfmmijpelaaDoorTie.lean); close each card by the builder's one call (the guide's Derived/Test/ToyasCard.lean, 'card_holds'). Laid BY PROGRAM, IN A SANDBOX (cutbox-door.mjs). By AI agents, Wed Nov 11 2026. No macro, syntax, notation, axiom, sorry.
-/
import Derived.Test.YtenahfmmijpelaaDoorRows
import GoSem.ClaimSeven
namespace Go.Proofs.YtenahfmmijpelaaDoor
namespace Rows

/-- THE TIED CARD OF 'familychecklaw02.ProtocolApart'. -/
def protocolApartCard : Claim7 := { stood := { row := protocolApartRow, standIns := [], harness := (true, "b7f3214f4457f9ffef3fb40414357dc9892dfc67cebf12010bd1c358db0f7abb"), looks := false }, kinds := [], alts := [], laidByText := true, laidKinds := [.data, .data, .data], laidTests := true, laidLooks := .later }
def ProtocolApartCardSaid : Prop := Claim7.holds Tryd.pinned (.plain (OpenSpec.ofChange protocolApartSpec)) protocolApartCard

/-- THE TIED CARD OF 'familychecklaw02.ProtocolRules'. -/
def protocolRulesCard : Claim7 := { stood := { row := protocolRulesRow, standIns := [], harness := (true, "b7f3214f4457f9ffef3fb40414357dc9892dfc67cebf12010bd1c358db0f7abb"), looks := false }, kinds := [], alts := [], laidByText := true, laidKinds := [.data, .data, .data], laidTests := true, laidLooks := .later }
def ProtocolRulesCardSaid : Prop := Claim7.holds Tryd.pinned (.plain (OpenSpec.ofChange protocolRulesSpec)) protocolRulesCard

/-- THE TIED CARD OF 'familychecklaw02.ProtocolSizesAll'. -/
def protocolSizesAllCard : Claim7 := { stood := { row := protocolSizesAllRow, standIns := [], harness := (true, "b7f3214f4457f9ffef3fb40414357dc9892dfc67cebf12010bd1c358db0f7abb"), looks := false }, kinds := [], alts := [], laidByText := true, laidKinds := [.data, .data, .data], laidTests := true, laidLooks := .later }
def ProtocolSizesAllCardSaid : Prop := Claim7.holds Tryd.pinned (.plain (OpenSpec.ofChange protocolSizesAllSpec)) protocolSizesAllCard

/-- THE TIED CARD OF 'familychecklaw02.ProtocolValidates'. -/
def protocolValidatesCard : Claim7 := { stood := { row := protocolValidatesRow, standIns := [], harness := (true, "b7f3214f4457f9ffef3fb40414357dc9892dfc67cebf12010bd1c358db0f7abb"), looks := false }, kinds := [], alts := [], laidByText := true, laidKinds := [.data, .data, .data], laidTests := true, laidLooks := .later }
def ProtocolValidatesCardSaid : Prop := Claim7.holds Tryd.pinned (.plain (OpenSpec.ofChange protocolValidatesSpec)) protocolValidatesCard

/-- THE TIED CARD OF 'familychecklaw02.ProtocolAdmits'. -/
def protocolAdmitsCard : Claim7 := { stood := { row := protocolAdmitsRow, standIns := [], harness := (true, "b7f3214f4457f9ffef3fb40414357dc9892dfc67cebf12010bd1c358db0f7abb"), looks := false }, kinds := [], alts := [], laidByText := true, laidKinds := [.data, .data, .data], laidTests := true, laidLooks := .later }
def ProtocolAdmitsCardSaid : Prop := Claim7.holds Tryd.pinned (.plain (OpenSpec.ofChange protocolAdmitsSpec)) protocolAdmitsCard

/-- THE TIED CARD OF 'familychecklaw02.ProtocolSizes'. -/
def protocolSizesCard : Claim7 := { stood := { row := protocolSizesRow, standIns := [], harness := (true, "b7f3214f4457f9ffef3fb40414357dc9892dfc67cebf12010bd1c358db0f7abb"), looks := false }, kinds := [], alts := [], laidByText := true, laidKinds := [.data, .data, .data], laidTests := true, laidLooks := .later }
def ProtocolSizesCardSaid : Prop := Claim7.holds Tryd.pinned (.plain (OpenSpec.ofChange protocolSizesSpec)) protocolSizesCard

/-- THE SECOND FORM's CARD OF 'familychecklaw02.ProtocolApart'. -/
def protocolApartUptoCard : Claim7 := { stood := { row := protocolApartUptoRow, standIns := [], harness := (true, "b7f3214f4457f9ffef3fb40414357dc9892dfc67cebf12010bd1c358db0f7abb"), looks := false }, kinds := [], alts := [], laidByText := true, laidKinds := [.data, .data, .data], laidTests := true, laidLooks := .later }
def ProtocolApartUptoCardSaid : Prop := Claim7.holds Tryd.pinned (.plain (OpenSpec.upto protocolApartSpec)) protocolApartUptoCard

/-- THE SECOND FORM's CARD OF 'familychecklaw02.ProtocolRules'. -/
def protocolRulesUptoCard : Claim7 := { stood := { row := protocolRulesUptoRow, standIns := [], harness := (true, "b7f3214f4457f9ffef3fb40414357dc9892dfc67cebf12010bd1c358db0f7abb"), looks := false }, kinds := [], alts := [], laidByText := true, laidKinds := [.data, .data, .data], laidTests := true, laidLooks := .later }
def ProtocolRulesUptoCardSaid : Prop := Claim7.holds Tryd.pinned (.plain (OpenSpec.upto protocolRulesSpec)) protocolRulesUptoCard

/-- THE SECOND FORM's CARD OF 'familychecklaw02.ProtocolSizesAll'. -/
def protocolSizesAllUptoCard : Claim7 := { stood := { row := protocolSizesAllUptoRow, standIns := [], harness := (true, "b7f3214f4457f9ffef3fb40414357dc9892dfc67cebf12010bd1c358db0f7abb"), looks := false }, kinds := [], alts := [], laidByText := true, laidKinds := [.data, .data, .data], laidTests := true, laidLooks := .later }
def ProtocolSizesAllUptoCardSaid : Prop := Claim7.holds Tryd.pinned (.plain (OpenSpec.upto protocolSizesAllSpec)) protocolSizesAllUptoCard

/-- THE SECOND FORM's CARD OF 'familychecklaw02.ProtocolValidates'. -/
def protocolValidatesUptoCard : Claim7 := { stood := { row := protocolValidatesUptoRow, standIns := [], harness := (true, "b7f3214f4457f9ffef3fb40414357dc9892dfc67cebf12010bd1c358db0f7abb"), looks := false }, kinds := [], alts := [], laidByText := true, laidKinds := [.data, .data, .data], laidTests := true, laidLooks := .later }
def ProtocolValidatesUptoCardSaid : Prop := Claim7.holds Tryd.pinned (.plain (OpenSpec.upto protocolValidatesSpec)) protocolValidatesUptoCard

/-- THE SECOND FORM's CARD OF 'familychecklaw02.ProtocolAdmits'. -/
def protocolAdmitsUptoCard : Claim7 := { stood := { row := protocolAdmitsUptoRow, standIns := [], harness := (true, "b7f3214f4457f9ffef3fb40414357dc9892dfc67cebf12010bd1c358db0f7abb"), looks := false }, kinds := [], alts := [], laidByText := true, laidKinds := [.data, .data, .data], laidTests := true, laidLooks := .later }
def ProtocolAdmitsUptoCardSaid : Prop := Claim7.holds Tryd.pinned (.plain (OpenSpec.upto protocolAdmitsSpec)) protocolAdmitsUptoCard

/-- THE SECOND FORM's CARD OF 'familychecklaw02.ProtocolSizes'. -/
def protocolSizesUptoCard : Claim7 := { stood := { row := protocolSizesUptoRow, standIns := [], harness := (true, "b7f3214f4457f9ffef3fb40414357dc9892dfc67cebf12010bd1c358db0f7abb"), looks := false }, kinds := [], alts := [], laidByText := true, laidKinds := [.data, .data, .data], laidTests := true, laidLooks := .later }
def ProtocolSizesUptoCardSaid : Prop := Claim7.holds Tryd.pinned (.plain (OpenSpec.upto protocolSizesSpec)) protocolSizesUptoCard
end Rows
end Go.Proofs.YtenahfmmijpelaaDoor
