/-
  DERIVED. GIVEN WITH THE SEED: THE CARDS: each row of YtbdnihjokndhaaaDoorRows.lean that lists a variable, with what it lists TIED to the program's text (the seventh form; the later family's looks); each row that meets fmt, with fmt's text TOLD by the authors' own Lean function (tested against real Go, not proved from fmt's source: count such statements apart). THE CARD IS WHAT COUNTS. Prove the row's statement (the work); the ties are given (YtbdnihjokndhaaaDoorTie.lean); close each card by the builder's one call (the guide's Derived/Test/ToyasCard.lean, 'card_holds'). Laid BY PROGRAM, IN A SANDBOX (cutbox-door.mjs). By AI agents, Wed Nov 11 2026. No macro, syntax, notation, axiom, sorry.
-/
import Derived.Test.YtbdnihjokndhaaaDoorRows
import GoSem.ClaimSeven
namespace Go.Proofs.YtbdnihjokndhaaaDoor
namespace Rows

/-- THE TIED CARD OF 'familychecklaw01.LinearNegates'. -/
def linearNegatesCard : Claim7 := { stood := { row := linearNegatesRow, standIns := [], harness := (true, "8ce6f0ee1e22baf8b656733d75a6cccbfed6fedf633c0065f79e47d9eb4e0e0a"), looks := false }, kinds := [], alts := [], laidByText := true, laidKinds := [.data, .data, .data], laidTests := true, laidLooks := .later }
def LinearNegatesCardSaid : Prop := Claim7.holds Tryd.pinned (.plain (OpenSpec.ofChange linearNegatesSpec)) linearNegatesCard

/-- THE TIED CARD OF 'familychecklaw01.LinearCombines'. -/
def linearCombinesCard : Claim7 := { stood := { row := linearCombinesRow, standIns := [], harness := (true, "8ce6f0ee1e22baf8b656733d75a6cccbfed6fedf633c0065f79e47d9eb4e0e0a"), looks := false }, kinds := [], alts := [], laidByText := true, laidKinds := [.data, .data, .data], laidTests := true, laidLooks := .later }
def LinearCombinesCardSaid : Prop := Claim7.holds Tryd.pinned (.plain (OpenSpec.ofChange linearCombinesSpec)) linearCombinesCard

/-- THE TIED CARD OF 'familychecklaw01.LinearAppends'. -/
def linearAppendsCard : Claim7 := { stood := { row := linearAppendsRow, standIns := [], harness := (true, "8ce6f0ee1e22baf8b656733d75a6cccbfed6fedf633c0065f79e47d9eb4e0e0a"), looks := false }, kinds := [], alts := [], laidByText := true, laidKinds := [.data, .data, .data], laidTests := true, laidLooks := .later }
def LinearAppendsCardSaid : Prop := Claim7.holds Tryd.pinned (.plain (OpenSpec.ofChange linearAppendsSpec)) linearAppendsCard

/-- THE TIED CARD OF 'familychecklaw01.LinearSubstitutes'. -/
def linearSubstitutesCard : Claim7 := { stood := { row := linearSubstitutesRow, standIns := [], harness := (true, "8ce6f0ee1e22baf8b656733d75a6cccbfed6fedf633c0065f79e47d9eb4e0e0a"), looks := false }, kinds := [], alts := [], laidByText := true, laidKinds := [.data, .data, .data], laidTests := true, laidLooks := .later }
def LinearSubstitutesCardSaid : Prop := Claim7.holds Tryd.pinned (.plain (OpenSpec.ofChange linearSubstitutesSpec)) linearSubstitutesCard

/-- THE TIED CARD OF 'familychecklaw01.LinearSubstituteMeans'. -/
def linearSubstituteMeansCard : Claim7 := { stood := { row := linearSubstituteMeansRow, standIns := [], harness := (true, "8ce6f0ee1e22baf8b656733d75a6cccbfed6fedf633c0065f79e47d9eb4e0e0a"), looks := false }, kinds := [], alts := [], laidByText := true, laidKinds := [.data, .data, .data], laidTests := true, laidLooks := .later }
def LinearSubstituteMeansCardSaid : Prop := Claim7.holds Tryd.pinned (.plain (OpenSpec.ofChange linearSubstituteMeansSpec)) linearSubstituteMeansCard

/-- THE TIED CARD OF 'familychecklaw02.ProtocolNames'. -/
def protocolNamesCard : Claim7 := { stood := { row := protocolNamesRow, standIns := [], harness := (true, "8ce6f0ee1e22baf8b656733d75a6cccbfed6fedf633c0065f79e47d9eb4e0e0a"), looks := false }, kinds := [], alts := [], laidByText := true, laidKinds := [.data, .data, .data], laidTests := true, laidLooks := .later }
def ProtocolNamesCardSaid : Prop := Claim7.holds Tryd.pinned (.plain (OpenSpec.ofChange protocolNamesSpec)) protocolNamesCard

/-- THE TIED CARD OF 'familychecklaw02.ProtocolEvaluates'. -/
def protocolEvaluatesCard : Claim7 := { stood := { row := protocolEvaluatesRow, standIns := [], harness := (true, "8ce6f0ee1e22baf8b656733d75a6cccbfed6fedf633c0065f79e47d9eb4e0e0a"), looks := false }, kinds := [], alts := [], laidByText := true, laidKinds := [.data, .data, .data], laidTests := true, laidLooks := .later }
def ProtocolEvaluatesCardSaid : Prop := Claim7.holds Tryd.pinned (.plain (OpenSpec.ofChange protocolEvaluatesSpec)) protocolEvaluatesCard

/-- THE TIED CARD OF 'familychecklaw02.ProtocolOrders'. -/
def protocolOrdersCard : Claim7 := { stood := { row := protocolOrdersRow, standIns := [], harness := (true, "8ce6f0ee1e22baf8b656733d75a6cccbfed6fedf633c0065f79e47d9eb4e0e0a"), looks := false }, kinds := [], alts := [], laidByText := true, laidKinds := [.data, .data, .data], laidTests := true, laidLooks := .later }
def ProtocolOrdersCardSaid : Prop := Claim7.holds Tryd.pinned (.plain (OpenSpec.ofChange protocolOrdersSpec)) protocolOrdersCard

/-- THE TIED CARD OF 'familychecklaw02.ProtocolLinears'. -/
def protocolLinearsCard : Claim7 := { stood := { row := protocolLinearsRow, standIns := [], harness := (true, "8ce6f0ee1e22baf8b656733d75a6cccbfed6fedf633c0065f79e47d9eb4e0e0a"), looks := false }, kinds := [], alts := [], laidByText := true, laidKinds := [.data, .data, .data], laidTests := true, laidLooks := .later }
def ProtocolLinearsCardSaid : Prop := Claim7.holds Tryd.pinned (.plain (OpenSpec.ofChange protocolLinearsSpec)) protocolLinearsCard

/-- THE SECOND FORM's CARD OF 'familychecklaw01.LinearNegates'. -/
def linearNegatesUptoCard : Claim7 := { stood := { row := linearNegatesUptoRow, standIns := [], harness := (true, "8ce6f0ee1e22baf8b656733d75a6cccbfed6fedf633c0065f79e47d9eb4e0e0a"), looks := false }, kinds := [], alts := [], laidByText := true, laidKinds := [.data, .data, .data], laidTests := true, laidLooks := .later }
def LinearNegatesUptoCardSaid : Prop := Claim7.holds Tryd.pinned (.plain (OpenSpec.upto linearNegatesSpec)) linearNegatesUptoCard

/-- THE SECOND FORM's CARD OF 'familychecklaw01.LinearCombines'. -/
def linearCombinesUptoCard : Claim7 := { stood := { row := linearCombinesUptoRow, standIns := [], harness := (true, "8ce6f0ee1e22baf8b656733d75a6cccbfed6fedf633c0065f79e47d9eb4e0e0a"), looks := false }, kinds := [], alts := [], laidByText := true, laidKinds := [.data, .data, .data], laidTests := true, laidLooks := .later }
def LinearCombinesUptoCardSaid : Prop := Claim7.holds Tryd.pinned (.plain (OpenSpec.upto linearCombinesSpec)) linearCombinesUptoCard

/-- THE SECOND FORM's CARD OF 'familychecklaw01.LinearAppends'. -/
def linearAppendsUptoCard : Claim7 := { stood := { row := linearAppendsUptoRow, standIns := [], harness := (true, "8ce6f0ee1e22baf8b656733d75a6cccbfed6fedf633c0065f79e47d9eb4e0e0a"), looks := false }, kinds := [], alts := [], laidByText := true, laidKinds := [.data, .data, .data], laidTests := true, laidLooks := .later }
def LinearAppendsUptoCardSaid : Prop := Claim7.holds Tryd.pinned (.plain (OpenSpec.upto linearAppendsSpec)) linearAppendsUptoCard

/-- THE SECOND FORM's CARD OF 'familychecklaw01.LinearSubstitutes'. -/
def linearSubstitutesUptoCard : Claim7 := { stood := { row := linearSubstitutesUptoRow, standIns := [], harness := (true, "8ce6f0ee1e22baf8b656733d75a6cccbfed6fedf633c0065f79e47d9eb4e0e0a"), looks := false }, kinds := [], alts := [], laidByText := true, laidKinds := [.data, .data, .data], laidTests := true, laidLooks := .later }
def LinearSubstitutesUptoCardSaid : Prop := Claim7.holds Tryd.pinned (.plain (OpenSpec.upto linearSubstitutesSpec)) linearSubstitutesUptoCard

/-- THE SECOND FORM's CARD OF 'familychecklaw01.LinearSubstituteMeans'. -/
def linearSubstituteMeansUptoCard : Claim7 := { stood := { row := linearSubstituteMeansUptoRow, standIns := [], harness := (true, "8ce6f0ee1e22baf8b656733d75a6cccbfed6fedf633c0065f79e47d9eb4e0e0a"), looks := false }, kinds := [], alts := [], laidByText := true, laidKinds := [.data, .data, .data], laidTests := true, laidLooks := .later }
def LinearSubstituteMeansUptoCardSaid : Prop := Claim7.holds Tryd.pinned (.plain (OpenSpec.upto linearSubstituteMeansSpec)) linearSubstituteMeansUptoCard

/-- THE SECOND FORM's CARD OF 'familychecklaw02.ProtocolNames'. -/
def protocolNamesUptoCard : Claim7 := { stood := { row := protocolNamesUptoRow, standIns := [], harness := (true, "8ce6f0ee1e22baf8b656733d75a6cccbfed6fedf633c0065f79e47d9eb4e0e0a"), looks := false }, kinds := [], alts := [], laidByText := true, laidKinds := [.data, .data, .data], laidTests := true, laidLooks := .later }
def ProtocolNamesUptoCardSaid : Prop := Claim7.holds Tryd.pinned (.plain (OpenSpec.upto protocolNamesSpec)) protocolNamesUptoCard

/-- THE SECOND FORM's CARD OF 'familychecklaw02.ProtocolEvaluates'. -/
def protocolEvaluatesUptoCard : Claim7 := { stood := { row := protocolEvaluatesUptoRow, standIns := [], harness := (true, "8ce6f0ee1e22baf8b656733d75a6cccbfed6fedf633c0065f79e47d9eb4e0e0a"), looks := false }, kinds := [], alts := [], laidByText := true, laidKinds := [.data, .data, .data], laidTests := true, laidLooks := .later }
def ProtocolEvaluatesUptoCardSaid : Prop := Claim7.holds Tryd.pinned (.plain (OpenSpec.upto protocolEvaluatesSpec)) protocolEvaluatesUptoCard

/-- THE SECOND FORM's CARD OF 'familychecklaw02.ProtocolOrders'. -/
def protocolOrdersUptoCard : Claim7 := { stood := { row := protocolOrdersUptoRow, standIns := [], harness := (true, "8ce6f0ee1e22baf8b656733d75a6cccbfed6fedf633c0065f79e47d9eb4e0e0a"), looks := false }, kinds := [], alts := [], laidByText := true, laidKinds := [.data, .data, .data], laidTests := true, laidLooks := .later }
def ProtocolOrdersUptoCardSaid : Prop := Claim7.holds Tryd.pinned (.plain (OpenSpec.upto protocolOrdersSpec)) protocolOrdersUptoCard

/-- THE SECOND FORM's CARD OF 'familychecklaw02.ProtocolLinears'. -/
def protocolLinearsUptoCard : Claim7 := { stood := { row := protocolLinearsUptoRow, standIns := [], harness := (true, "8ce6f0ee1e22baf8b656733d75a6cccbfed6fedf633c0065f79e47d9eb4e0e0a"), looks := false }, kinds := [], alts := [], laidByText := true, laidKinds := [.data, .data, .data], laidTests := true, laidLooks := .later }
def ProtocolLinearsUptoCardSaid : Prop := Claim7.holds Tryd.pinned (.plain (OpenSpec.upto protocolLinearsSpec)) protocolLinearsUptoCard
end Rows
end Go.Proofs.YtbdnihjokndhaaaDoor
