/-
  No cell of these rows narrows 'for every input' (looked for: loops, veiled, ifaces, maps, wideKeys, modest, calm, conditions, laid).
  DERIVED. THE GIVEN ROWS OF THIS SEAT. 4 by the template 'for every input the law returns true; each argument reads behind the call as it read before'; 0 by the template 'total and deterministic' (their statements: YthefecaefbeidaaGreatTotals.lean).
  GIVEN WITH THE SEED: the statements are not yours to turn. If you find one false, say at which input.
  Laid BY PROGRAM, IN A SANDBOX (cutbox-rows.mjs): the forced cells as the released guide's own fill.sh prints them over the translation 8238d9094fe07e1a… (all of the seat's roots in one cut). By AI agents, Wed Nov 11 2026. No macro, syntax, notation, axiom, sorry.
-/
import Derived.Test.YthefecaefbeidaaGreatChecked
import GoSem.Claim
import GoSem.ClaimJoined
import GoSem.ClaimMapViews
import Derived.JoinedTies
import Derived.KernelRfl
namespace Go.Proofs.YthefecaefbeidaaGreat
/- THE CELL 'sum', in the pinned program and in every row, IS THE sha256 OF THE DUMP (.gsa) THAT YthefecaefbeidaaGreatProg.lean LOADS. Nothing in Lean hashes anything: it is a label: what it is worth is what the hold of that sum in a sandbox is worth. -/
noncomputable def Tryz.pinned : Pinned := { name := "ythefecaefbeidaagreat", sum := "8238d9094fe07e1a55987e7c8cbcb44f12a566284838e1b1615d1f74adff2b92", checked := Tryz.checked }
namespace Rows
def none {H : Type} : Left H := { results := [], args := [] }

/-- 'familychecklaw05.CoverElements': WHATEVER THE INPUT: true; the input reads as it did. -/
def coverElementsSpec : ChangeSpec := { name := "coverElements", fn := fun _ => fun
  | [d1, d2, d3] => { results := [.lit (.bool true)], args := [d1, d2, d3] }
  | _ => none }
def coverElementsRow : OpenClaim := { program := "ythefecaefbeidaagreat", sum := "8238d9094fe07e1a55987e7c8cbcb44f12a566284838e1b1615d1f74adff2b92", func := "familycheck/familychecklaw05.CoverElements", spec := "coverElements", unfollowed := true, recurses := true, apart := false }
def CoverElementsSaid : Prop := coverElementsRow.holds Tryz.pinned (OpenSpec.ofChange coverElementsSpec)

/-- ITS FALSE NEIGHBOUR: 'it returns false'. Refute it at one input. -/
def coverElementsWrong : ChangeSpec := { name := "coverElements", fn := fun _ => fun
  | [d1, d2, d3] => { results := [.lit (.bool false)], args := [d1, d2, d3] }
  | _ => none }
def CoverElementsWrongFalsely : Prop := coverElementsRow.holds Tryz.pinned (OpenSpec.ofChange coverElementsWrong)

/-- 'familychecklaw05.CoverMinimizes': WHATEVER THE INPUT: true; the input reads as it did. -/
def coverMinimizesSpec : ChangeSpec := { name := "coverMinimizes", fn := fun _ => fun
  | [d1, d2] => { results := [.lit (.bool true)], args := [d1, d2] }
  | _ => none }
def coverMinimizesRow : OpenClaim := { program := "ythefecaefbeidaagreat", sum := "8238d9094fe07e1a55987e7c8cbcb44f12a566284838e1b1615d1f74adff2b92", func := "familycheck/familychecklaw05.CoverMinimizes", spec := "coverMinimizes", unfollowed := true, recurses := true, apart := false }
def CoverMinimizesSaid : Prop := coverMinimizesRow.holds Tryz.pinned (OpenSpec.ofChange coverMinimizesSpec)

/-- ITS FALSE NEIGHBOUR: 'it returns false'. Refute it at one input. -/
def coverMinimizesWrong : ChangeSpec := { name := "coverMinimizes", fn := fun _ => fun
  | [d1, d2] => { results := [.lit (.bool false)], args := [d1, d2] }
  | _ => none }
def CoverMinimizesWrongFalsely : Prop := coverMinimizesRow.holds Tryz.pinned (OpenSpec.ofChange coverMinimizesWrong)

/-- 'familychecklaw09.FairStates': WHATEVER THE INPUT: true; the input reads as it did. -/
def fairStatesSpec : ChangeSpec := { name := "fairStates", fn := fun _ => fun
  | [d1, d2, d3] => { results := [.lit (.bool true)], args := [d1, d2, d3] }
  | _ => none }
def fairStatesRow : OpenClaim := { program := "ythefecaefbeidaagreat", sum := "8238d9094fe07e1a55987e7c8cbcb44f12a566284838e1b1615d1f74adff2b92", func := "familycheck/familychecklaw09.FairStates", spec := "fairStates", inPlace := ["slices.overlaps[familycheck/api.Element]"], unfollowed := true, recurses := true, apart := false }
def FairStatesSaid : Prop := fairStatesRow.holds Tryz.pinned (OpenSpec.ofChange fairStatesSpec)

/-- ITS FALSE NEIGHBOUR: 'it returns false'. Refute it at one input. -/
def fairStatesWrong : ChangeSpec := { name := "fairStates", fn := fun _ => fun
  | [d1, d2, d3] => { results := [.lit (.bool false)], args := [d1, d2, d3] }
  | _ => none }
def FairStatesWrongFalsely : Prop := fairStatesRow.holds Tryz.pinned (OpenSpec.ofChange fairStatesWrong)

/-- 'familychecklaw09.FairWeighs': WHATEVER THE INPUT: true; the input reads as it did. -/
def fairWeighsSpec : ChangeSpec := { name := "fairWeighs", fn := fun _ => fun
  | [d1, d2, d3] => { results := [.lit (.bool true)], args := [d1, d2, d3] }
  | _ => none }
def fairWeighsRow : OpenClaim := { program := "ythefecaefbeidaagreat", sum := "8238d9094fe07e1a55987e7c8cbcb44f12a566284838e1b1615d1f74adff2b92", func := "familycheck/familychecklaw09.FairWeighs", spec := "fairWeighs", inPlace := ["slices.overlaps[familycheck/api.Element]"], unfollowed := true, recurses := true, apart := false }
def FairWeighsSaid : Prop := fairWeighsRow.holds Tryz.pinned (OpenSpec.ofChange fairWeighsSpec)

/-- ITS FALSE NEIGHBOUR: 'it returns false'. Refute it at one input. -/
def fairWeighsWrong : ChangeSpec := { name := "fairWeighs", fn := fun _ => fun
  | [d1, d2, d3] => { results := [.lit (.bool false)], args := [d1, d2, d3] }
  | _ => none }
def FairWeighsWrongFalsely : Prop := fairWeighsRow.holds Tryz.pinned (OpenSpec.ofChange fairWeighsWrong)

/- THE SECOND FORM. 'bulk': how many values and letters a reading holds, each counted each time it is reached (what is shared counts as often as it is met; a slice's spare places count too). A statement '..UptoSaid' is the law's where the arguments, and the package variables that the reading takes, are together of bulk at most 1048576: NARROWER than '..Said'. Prove '..Said' where nothing that the law and all that it calls make is longer than what came in: it says more and counts as full. Else prove '..UptoSaid'. A law counts once. -/
mutual
def uptoBulk {H : Type} : DataW H → Nat
  | .lit (.string bytes) => bytes.length + 1
  | .lit _ => 1
  | .nil => 1
  | .ptr d => uptoBulk d + 1
  | .slice elems spare => uptoBulkAll elems + uptoBulkAll spare + 1
  | .agg parts => uptoBulkAll parts + 1
  | .iface _ d => uptoBulk d + 1
  | .map entries => uptoBulkEntries entries + 1
  | .held _ => 1
def uptoBulkAll {H : Type} : List (DataW H) → Nat
  | [] => 0
  | d :: r => uptoBulk d + uptoBulkAll r
def uptoBulkEntries {H : Type} : List (Lit × DataW H) → Nat
  | [] => 0
  | x :: r => uptoBulkEntry x + uptoBulkEntries r
def uptoBulkEntry {H : Type} : Lit × DataW H → Nat
  | (.string bytes, d) => bytes.length + uptoBulk d + 1
  | (_, d) => uptoBulk d + 1
 end
def uptoSmall : (H : Type) → List (DataW H) → Bool := fun _ ds => decide (uptoBulkAll ds ≤ 1048576)
def OpenSpec.upto (s : _root_.Go.ChangeSpec) : _root_.Go.OpenSpec := { _root_.Go.OpenSpec.ofChange s with cond := some uptoSmall }

/-- 'familychecklaw05.CoverElements', WHERE WHAT IT READS IS OF BULK AT MOST 1048576: true; the input reads as it did. -/
def coverElementsUptoRow : OpenClaim := { program := "ythefecaefbeidaagreat", sum := "8238d9094fe07e1a55987e7c8cbcb44f12a566284838e1b1615d1f74adff2b92", func := "familycheck/familychecklaw05.CoverElements", spec := "coverElements", unfollowed := true, recurses := true, apart := false, narrowed := true }
def CoverElementsUptoSaid : Prop := coverElementsUptoRow.holds Tryz.pinned (OpenSpec.upto coverElementsSpec)

/-- 'familychecklaw05.CoverMinimizes', WHERE WHAT IT READS IS OF BULK AT MOST 1048576: true; the input reads as it did. -/
def coverMinimizesUptoRow : OpenClaim := { program := "ythefecaefbeidaagreat", sum := "8238d9094fe07e1a55987e7c8cbcb44f12a566284838e1b1615d1f74adff2b92", func := "familycheck/familychecklaw05.CoverMinimizes", spec := "coverMinimizes", unfollowed := true, recurses := true, apart := false, narrowed := true }
def CoverMinimizesUptoSaid : Prop := coverMinimizesUptoRow.holds Tryz.pinned (OpenSpec.upto coverMinimizesSpec)

/-- 'familychecklaw09.FairStates', WHERE WHAT IT READS IS OF BULK AT MOST 1048576: true; the input reads as it did. -/
def fairStatesUptoRow : OpenClaim := { program := "ythefecaefbeidaagreat", sum := "8238d9094fe07e1a55987e7c8cbcb44f12a566284838e1b1615d1f74adff2b92", func := "familycheck/familychecklaw09.FairStates", spec := "fairStates", inPlace := ["slices.overlaps[familycheck/api.Element]"], unfollowed := true, recurses := true, apart := false, narrowed := true }
def FairStatesUptoSaid : Prop := fairStatesUptoRow.holds Tryz.pinned (OpenSpec.upto fairStatesSpec)

/-- 'familychecklaw09.FairWeighs', WHERE WHAT IT READS IS OF BULK AT MOST 1048576: true; the input reads as it did. -/
def fairWeighsUptoRow : OpenClaim := { program := "ythefecaefbeidaagreat", sum := "8238d9094fe07e1a55987e7c8cbcb44f12a566284838e1b1615d1f74adff2b92", func := "familycheck/familychecklaw09.FairWeighs", spec := "fairWeighs", inPlace := ["slices.overlaps[familycheck/api.Element]"], unfollowed := true, recurses := true, apart := false, narrowed := true }
def FairWeighsUptoSaid : Prop := fairWeighsUptoRow.holds Tryz.pinned (OpenSpec.upto fairWeighsSpec)

end Rows
end Go.Proofs.YthefecaefbeidaaGreat
