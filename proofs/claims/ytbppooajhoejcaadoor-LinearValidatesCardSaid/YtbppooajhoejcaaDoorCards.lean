/-
  DERIVED. GIVEN WITH THE SEED: THE CARDS: each row of YtbppooajhoejcaaDoorRows.lean that lists a variable, with what it lists TIED to the program's text (the seventh form; the later family's looks); each row that meets fmt, with fmt's text TOLD by the authors' own Lean function (tested against real Go, not proved from fmt's source: count such statements apart). THE CARD IS WHAT COUNTS. Prove the row's statement (the work); the ties are given (YtbppooajhoejcaaDoorTie.lean); close each card by the builder's one call (the guide's Derived/Test/ToyasCard.lean, 'card_holds'). Laid BY PROGRAM, IN A SANDBOX (cutbox-door.mjs). By AI agents, Wed Nov 11 2026. No macro, syntax, notation, axiom, sorry.
-/
import Derived.Test.YtbppooajhoejcaaDoorRows
import GoSem.ClaimSeven
namespace Go.Proofs.YtbppooajhoejcaaDoor
namespace Rows

/-- THE TIED CARD OF 'familychecklaw01.LinearCompares'. -/
def linearComparesCard : Claim7 := { stood := { row := linearComparesRow, standIns := [], harness := (true, "af1e8799758006633802045bc937574fb4854bd218c0a8674e2e39f0b10ff2e9"), looks := false }, kinds := [], alts := [], laidByText := true, laidKinds := [.data, .data, .data], laidTests := true, laidLooks := .later }
def LinearComparesCardSaid : Prop := Claim7.holds Tryd.pinned (.plain (OpenSpec.ofChange linearComparesSpec)) linearComparesCard

/-- THE TIED CARD OF 'familychecklaw01.LinearSigns'. -/
def linearSignsCard : Claim7 := { stood := { row := linearSignsRow, standIns := [], harness := (true, "af1e8799758006633802045bc937574fb4854bd218c0a8674e2e39f0b10ff2e9"), looks := false }, kinds := [], alts := [], laidByText := true, laidKinds := [.data, .data, .data], laidTests := true, laidLooks := .later }
def LinearSignsCardSaid : Prop := Claim7.holds Tryd.pinned (.plain (OpenSpec.ofChange linearSignsSpec)) linearSignsCard

/-- THE TIED CARD OF 'familychecklaw01.LinearValues'. -/
def linearValuesCard : Claim7 := { stood := { row := linearValuesRow, standIns := [], harness := (true, "af1e8799758006633802045bc937574fb4854bd218c0a8674e2e39f0b10ff2e9"), looks := false }, kinds := [], alts := [], laidByText := true, laidKinds := [.data, .data, .data], laidTests := true, laidLooks := .later }
def LinearValuesCardSaid : Prop := Claim7.holds Tryd.pinned (.plain (OpenSpec.ofChange linearValuesSpec)) linearValuesCard

/-- THE TIED CARD OF 'familychecklaw01.LinearValidates'. -/
def linearValidatesCard : Claim7 := { stood := { row := linearValidatesRow, standIns := [], harness := (true, "af1e8799758006633802045bc937574fb4854bd218c0a8674e2e39f0b10ff2e9"), looks := false }, kinds := [], alts := [], laidByText := true, laidKinds := [.data, .data, .data], laidTests := true, laidLooks := .later }
def LinearValidatesCardSaid : Prop := Claim7.holds Tryd.pinned (.plain (OpenSpec.ofChange linearValidatesSpec)) linearValidatesCard

/-- THE TIED CARD OF 'familychecklaw01.LinearTightens'. -/
def linearTightensCard : Claim7 := { stood := { row := linearTightensRow, standIns := [], harness := (true, "af1e8799758006633802045bc937574fb4854bd218c0a8674e2e39f0b10ff2e9"), looks := false }, kinds := [], alts := [], laidByText := true, laidKinds := [.data, .data, .data], laidTests := true, laidLooks := .later }
def LinearTightensCardSaid : Prop := Claim7.holds Tryd.pinned (.plain (OpenSpec.ofChange linearTightensSpec)) linearTightensCard

/-- THE TIED CARD OF 'familychecklaw01.LinearTightenKeeps'. -/
def linearTightenKeepsCard : Claim7 := { stood := { row := linearTightenKeepsRow, standIns := [], harness := (true, "af1e8799758006633802045bc937574fb4854bd218c0a8674e2e39f0b10ff2e9"), looks := false }, kinds := [], alts := [], laidByText := true, laidKinds := [.data, .data, .data], laidTests := true, laidLooks := .later }
def LinearTightenKeepsCardSaid : Prop := Claim7.holds Tryd.pinned (.plain (OpenSpec.ofChange linearTightenKeepsSpec)) linearTightenKeepsCard

/-- THE TIED CARD OF 'familychecklaw01.LinearCombines'. -/
def linearCombinesCard : Claim7 := { stood := { row := linearCombinesRow, standIns := [], harness := (true, "af1e8799758006633802045bc937574fb4854bd218c0a8674e2e39f0b10ff2e9"), looks := false }, kinds := [], alts := [], laidByText := true, laidKinds := [.data, .data, .data], laidTests := true, laidLooks := .later }
def LinearCombinesCardSaid : Prop := Claim7.holds Tryd.pinned (.plain (OpenSpec.ofChange linearCombinesSpec)) linearCombinesCard

/-- THE TIED CARD OF 'familychecklaw01.LinearNegates'. -/
def linearNegatesCard : Claim7 := { stood := { row := linearNegatesRow, standIns := [], harness := (true, "af1e8799758006633802045bc937574fb4854bd218c0a8674e2e39f0b10ff2e9"), looks := false }, kinds := [], alts := [], laidByText := true, laidKinds := [.data, .data, .data], laidTests := true, laidLooks := .later }
def LinearNegatesCardSaid : Prop := Claim7.holds Tryd.pinned (.plain (OpenSpec.ofChange linearNegatesSpec)) linearNegatesCard

/-- THE TIED CARD OF 'familychecklaw01.LinearAppends'. -/
def linearAppendsCard : Claim7 := { stood := { row := linearAppendsRow, standIns := [], harness := (true, "af1e8799758006633802045bc937574fb4854bd218c0a8674e2e39f0b10ff2e9"), looks := false }, kinds := [], alts := [], laidByText := true, laidKinds := [.data, .data, .data], laidTests := true, laidLooks := .later }
def LinearAppendsCardSaid : Prop := Claim7.holds Tryd.pinned (.plain (OpenSpec.ofChange linearAppendsSpec)) linearAppendsCard

/-- THE SECOND FORM's CARD OF 'familychecklaw01.LinearCompares'. -/
def linearComparesUptoCard : Claim7 := { stood := { row := linearComparesUptoRow, standIns := [], harness := (true, "af1e8799758006633802045bc937574fb4854bd218c0a8674e2e39f0b10ff2e9"), looks := false }, kinds := [], alts := [], laidByText := true, laidKinds := [.data, .data, .data], laidTests := true, laidLooks := .later }
def LinearComparesUptoCardSaid : Prop := Claim7.holds Tryd.pinned (.plain (OpenSpec.upto linearComparesSpec)) linearComparesUptoCard

/-- THE SECOND FORM's CARD OF 'familychecklaw01.LinearSigns'. -/
def linearSignsUptoCard : Claim7 := { stood := { row := linearSignsUptoRow, standIns := [], harness := (true, "af1e8799758006633802045bc937574fb4854bd218c0a8674e2e39f0b10ff2e9"), looks := false }, kinds := [], alts := [], laidByText := true, laidKinds := [.data, .data, .data], laidTests := true, laidLooks := .later }
def LinearSignsUptoCardSaid : Prop := Claim7.holds Tryd.pinned (.plain (OpenSpec.upto linearSignsSpec)) linearSignsUptoCard

/-- THE SECOND FORM's CARD OF 'familychecklaw01.LinearValues'. -/
def linearValuesUptoCard : Claim7 := { stood := { row := linearValuesUptoRow, standIns := [], harness := (true, "af1e8799758006633802045bc937574fb4854bd218c0a8674e2e39f0b10ff2e9"), looks := false }, kinds := [], alts := [], laidByText := true, laidKinds := [.data, .data, .data], laidTests := true, laidLooks := .later }
def LinearValuesUptoCardSaid : Prop := Claim7.holds Tryd.pinned (.plain (OpenSpec.upto linearValuesSpec)) linearValuesUptoCard

/-- THE SECOND FORM's CARD OF 'familychecklaw01.LinearValidates'. -/
def linearValidatesUptoCard : Claim7 := { stood := { row := linearValidatesUptoRow, standIns := [], harness := (true, "af1e8799758006633802045bc937574fb4854bd218c0a8674e2e39f0b10ff2e9"), looks := false }, kinds := [], alts := [], laidByText := true, laidKinds := [.data, .data, .data], laidTests := true, laidLooks := .later }
def LinearValidatesUptoCardSaid : Prop := Claim7.holds Tryd.pinned (.plain (OpenSpec.upto linearValidatesSpec)) linearValidatesUptoCard

/-- THE SECOND FORM's CARD OF 'familychecklaw01.LinearTightens'. -/
def linearTightensUptoCard : Claim7 := { stood := { row := linearTightensUptoRow, standIns := [], harness := (true, "af1e8799758006633802045bc937574fb4854bd218c0a8674e2e39f0b10ff2e9"), looks := false }, kinds := [], alts := [], laidByText := true, laidKinds := [.data, .data, .data], laidTests := true, laidLooks := .later }
def LinearTightensUptoCardSaid : Prop := Claim7.holds Tryd.pinned (.plain (OpenSpec.upto linearTightensSpec)) linearTightensUptoCard

/-- THE SECOND FORM's CARD OF 'familychecklaw01.LinearTightenKeeps'. -/
def linearTightenKeepsUptoCard : Claim7 := { stood := { row := linearTightenKeepsUptoRow, standIns := [], harness := (true, "af1e8799758006633802045bc937574fb4854bd218c0a8674e2e39f0b10ff2e9"), looks := false }, kinds := [], alts := [], laidByText := true, laidKinds := [.data, .data, .data], laidTests := true, laidLooks := .later }
def LinearTightenKeepsUptoCardSaid : Prop := Claim7.holds Tryd.pinned (.plain (OpenSpec.upto linearTightenKeepsSpec)) linearTightenKeepsUptoCard

/-- THE SECOND FORM's CARD OF 'familychecklaw01.LinearCombines'. -/
def linearCombinesUptoCard : Claim7 := { stood := { row := linearCombinesUptoRow, standIns := [], harness := (true, "af1e8799758006633802045bc937574fb4854bd218c0a8674e2e39f0b10ff2e9"), looks := false }, kinds := [], alts := [], laidByText := true, laidKinds := [.data, .data, .data], laidTests := true, laidLooks := .later }
def LinearCombinesUptoCardSaid : Prop := Claim7.holds Tryd.pinned (.plain (OpenSpec.upto linearCombinesSpec)) linearCombinesUptoCard

/-- THE SECOND FORM's CARD OF 'familychecklaw01.LinearNegates'. -/
def linearNegatesUptoCard : Claim7 := { stood := { row := linearNegatesUptoRow, standIns := [], harness := (true, "af1e8799758006633802045bc937574fb4854bd218c0a8674e2e39f0b10ff2e9"), looks := false }, kinds := [], alts := [], laidByText := true, laidKinds := [.data, .data, .data], laidTests := true, laidLooks := .later }
def LinearNegatesUptoCardSaid : Prop := Claim7.holds Tryd.pinned (.plain (OpenSpec.upto linearNegatesSpec)) linearNegatesUptoCard

/-- THE SECOND FORM's CARD OF 'familychecklaw01.LinearAppends'. -/
def linearAppendsUptoCard : Claim7 := { stood := { row := linearAppendsUptoRow, standIns := [], harness := (true, "af1e8799758006633802045bc937574fb4854bd218c0a8674e2e39f0b10ff2e9"), looks := false }, kinds := [], alts := [], laidByText := true, laidKinds := [.data, .data, .data], laidTests := true, laidLooks := .later }
def LinearAppendsUptoCardSaid : Prop := Claim7.holds Tryd.pinned (.plain (OpenSpec.upto linearAppendsSpec)) linearAppendsUptoCard
end Rows
end Go.Proofs.YtbppooajhoejcaaDoor
