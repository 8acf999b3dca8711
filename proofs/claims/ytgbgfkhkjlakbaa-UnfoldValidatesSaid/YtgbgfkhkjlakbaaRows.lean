/-
  No cell of these rows narrows 'for every input' (looked for: loops, veiled, ifaces, maps, wideKeys, modest, calm, conditions, laid).
  DERIVED. THE GIVEN ROWS OF THIS SEAT. 4 by the template 'for every input the law returns true; each argument reads behind the call as it read before'; 0 by the template 'total and deterministic' (their statements: YtgbgfkhkjlakbaaTotals.lean).
  GIVEN WITH THE SEED: the statements are not yours to turn. If you find one false, say at which input.
  Laid BY PROGRAM, IN A SANDBOX (cutbox-rows.mjs): the forced cells as the released guide's own fill.sh prints them over the translation 3e8c20d1876280c2… (all of the seat's roots in one cut). By AI agents, Wed Nov 11 2026. No macro, syntax, notation, axiom, sorry.
-/
import Derived.Test.YtgbgfkhkjlakbaaChecked
import GoSem.Claim
import GoSem.ClaimJoined
import GoSem.ClaimMapViews
import Derived.JoinedTies
import Derived.KernelRfl
namespace Go.Proofs.Ytgbgfkhkjlakbaa
/- THE CELL 'sum', in the pinned program and in every row, IS THE sha256 OF THE DUMP (.gsa) THAT YtgbgfkhkjlakbaaProg.lean LOADS. Nothing in Lean hashes anything: it is a label: what it is worth is what the hold of that sum in a sandbox is worth. -/
noncomputable def Try.pinned : Pinned := { name := "ytgbgfkhkjlakbaa", sum := "3e8c20d1876280c265ca937585e2542e94cd2531c13e67d9ac6de68fa6e5c86d", checked := Try.checked }
namespace Rows
def none {H : Type} : Left H := { results := [], args := [] }

/-- 'familychecklaw03.UnfoldModels': WHATEVER THE INPUT: true; the input reads as it did. -/
def unfoldModelsSpec : ChangeSpec := { name := "unfoldModels", fn := fun _ => fun
  | [d1, d2] => { results := [.lit (.bool true)], args := [d1, d2] }
  | _ => none }
def unfoldModelsRow : OpenClaim := { program := "ytgbgfkhkjlakbaa", sum := "3e8c20d1876280c265ca937585e2542e94cd2531c13e67d9ac6de68fa6e5c86d", func := "familycheck/familychecklaw03.UnfoldModels", spec := "unfoldModels", unfollowed := true, recurses := true, apart := false }
def UnfoldModelsSaid : Prop := unfoldModelsRow.holds Try.pinned (OpenSpec.ofChange unfoldModelsSpec)

/-- ITS FALSE NEIGHBOUR: 'it returns false'. Refute it at one input. -/
def unfoldModelsWrong : ChangeSpec := { name := "unfoldModels", fn := fun _ => fun
  | [d1, d2] => { results := [.lit (.bool false)], args := [d1, d2] }
  | _ => none }
def UnfoldModelsWrongFalsely : Prop := unfoldModelsRow.holds Try.pinned (OpenSpec.ofChange unfoldModelsWrong)

/-- 'familychecklaw03.UnfoldShapes': WHATEVER THE INPUT: true; the input reads as it did. -/
def unfoldShapesSpec : ChangeSpec := { name := "unfoldShapes", fn := fun _ => fun
  | [d] => { results := [.lit (.bool true)], args := [d] }
  | _ => none }
def unfoldShapesRow : OpenClaim := { program := "ytgbgfkhkjlakbaa", sum := "3e8c20d1876280c265ca937585e2542e94cd2531c13e67d9ac6de68fa6e5c86d", func := "familycheck/familychecklaw03.UnfoldShapes", spec := "unfoldShapes", recurses := true, apart := false }
def UnfoldShapesSaid : Prop := unfoldShapesRow.holds Try.pinned (OpenSpec.ofChange unfoldShapesSpec)

/-- ITS FALSE NEIGHBOUR: 'it returns false'. Refute it at one input. -/
def unfoldShapesWrong : ChangeSpec := { name := "unfoldShapes", fn := fun _ => fun
  | [d] => { results := [.lit (.bool false)], args := [d] }
  | _ => none }
def UnfoldShapesWrongFalsely : Prop := unfoldShapesRow.holds Try.pinned (OpenSpec.ofChange unfoldShapesWrong)

/-- 'familychecklaw03.UnfoldValidates': WHATEVER THE INPUT: true; the input reads as it did. -/
def unfoldValidatesSpec : ChangeSpec := { name := "unfoldValidates", fn := fun _ => fun
  | [d] => { results := [.lit (.bool true)], args := [d] }
  | _ => none }
def unfoldValidatesRow : OpenClaim := { program := "ytgbgfkhkjlakbaa", sum := "3e8c20d1876280c265ca937585e2542e94cd2531c13e67d9ac6de68fa6e5c86d", func := "familycheck/familychecklaw03.UnfoldValidates", spec := "unfoldValidates", unfollowed := true, recurses := true, apart := false }
def UnfoldValidatesSaid : Prop := unfoldValidatesRow.holds Try.pinned (OpenSpec.ofChange unfoldValidatesSpec)

/-- ITS FALSE NEIGHBOUR: 'it returns false'. Refute it at one input. -/
def unfoldValidatesWrong : ChangeSpec := { name := "unfoldValidates", fn := fun _ => fun
  | [d] => { results := [.lit (.bool false)], args := [d] }
  | _ => none }
def UnfoldValidatesWrongFalsely : Prop := unfoldValidatesRow.holds Try.pinned (OpenSpec.ofChange unfoldValidatesWrong)

/-- 'familychecklaw03.UnfoldJudges': WHATEVER THE INPUT: true; the input reads as it did. -/
def unfoldJudgesSpec : ChangeSpec := { name := "unfoldJudges", fn := fun _ => fun
  | [d1, d2, d3] => { results := [.lit (.bool true)], args := [d1, d2, d3] }
  | _ => none }
def unfoldJudgesRow : OpenClaim := { program := "ytgbgfkhkjlakbaa", sum := "3e8c20d1876280c265ca937585e2542e94cd2531c13e67d9ac6de68fa6e5c86d", func := "familycheck/familychecklaw03.UnfoldJudges", spec := "unfoldJudges", unfollowed := true, recurses := true, apart := false }
def UnfoldJudgesSaid : Prop := unfoldJudgesRow.holds Try.pinned (OpenSpec.ofChange unfoldJudgesSpec)

/-- ITS FALSE NEIGHBOUR: 'it returns false'. Refute it at one input. -/
def unfoldJudgesWrong : ChangeSpec := { name := "unfoldJudges", fn := fun _ => fun
  | [d1, d2, d3] => { results := [.lit (.bool false)], args := [d1, d2, d3] }
  | _ => none }
def UnfoldJudgesWrongFalsely : Prop := unfoldJudgesRow.holds Try.pinned (OpenSpec.ofChange unfoldJudgesWrong)

/- THE SECOND FORM. 'bulk': how many values and letters a reading holds, each counted each time it is reached (what is shared counts as often as it is met; a slice's spare places count too). A statement '..UptoSaid' is the law's where the arguments, and the package variables that the reading takes, are together of bulk at most 1048576: NARROWER than '..Said'. Prove '..Said' where nothing that the law and all that it calls make is longer than what came in: it says more and counts as full. Else prove '..UptoSaid'. A law counts once. -/
mutual
def uptoBulk {H : Type} : DataW H → Nat
  | .lit (.string bytes) => bytes.length + 1
  | .lit _ => 1
  | .nil => 1
  | .ptr d => uptoBulk d + 1
  | .slice elems spare => uptoBulkAll elems + uptoBulkAll spare + 1
  | .agg parts => uptoBulkAll parts + 1
  | .iface _ d => uptoBulk d + 1
  | .map entries => uptoBulkEntries entries + 1
  | .held _ => 1
def uptoBulkAll {H : Type} : List (DataW H) → Nat
  | [] => 0
  | d :: r => uptoBulk d + uptoBulkAll r
def uptoBulkEntries {H : Type} : List (Lit × DataW H) → Nat
  | [] => 0
  | x :: r => uptoBulkEntry x + uptoBulkEntries r
def uptoBulkEntry {H : Type} : Lit × DataW H → Nat
  | (.string bytes, d) => bytes.length + uptoBulk d + 1
  | (_, d) => uptoBulk d + 1
 end
def uptoSmall : (H : Type) → List (DataW H) → Bool := fun _ ds => decide (uptoBulkAll ds ≤ 1048576)
def OpenSpec.upto (s : _root_.Go.ChangeSpec) : _root_.Go.OpenSpec := { _root_.Go.OpenSpec.ofChange s with cond := some uptoSmall }

/-- 'familychecklaw03.UnfoldModels', WHERE WHAT IT READS IS OF BULK AT MOST 1048576: true; the input reads as it did. -/
def unfoldModelsUptoRow : OpenClaim := { program := "ytgbgfkhkjlakbaa", sum := "3e8c20d1876280c265ca937585e2542e94cd2531c13e67d9ac6de68fa6e5c86d", func := "familycheck/familychecklaw03.UnfoldModels", spec := "unfoldModels", unfollowed := true, recurses := true, apart := false, narrowed := true }
def UnfoldModelsUptoSaid : Prop := unfoldModelsUptoRow.holds Try.pinned (OpenSpec.upto unfoldModelsSpec)

/-- 'familychecklaw03.UnfoldShapes', WHERE WHAT IT READS IS OF BULK AT MOST 1048576: true; the input reads as it did. -/
def unfoldShapesUptoRow : OpenClaim := { program := "ytgbgfkhkjlakbaa", sum := "3e8c20d1876280c265ca937585e2542e94cd2531c13e67d9ac6de68fa6e5c86d", func := "familycheck/familychecklaw03.UnfoldShapes", spec := "unfoldShapes", recurses := true, apart := false, narrowed := true }
def UnfoldShapesUptoSaid : Prop := unfoldShapesUptoRow.holds Try.pinned (OpenSpec.upto unfoldShapesSpec)

/-- 'familychecklaw03.UnfoldValidates', WHERE WHAT IT READS IS OF BULK AT MOST 1048576: true; the input reads as it did. -/
def unfoldValidatesUptoRow : OpenClaim := { program := "ytgbgfkhkjlakbaa", sum := "3e8c20d1876280c265ca937585e2542e94cd2531c13e67d9ac6de68fa6e5c86d", func := "familycheck/familychecklaw03.UnfoldValidates", spec := "unfoldValidates", unfollowed := true, recurses := true, apart := false, narrowed := true }
def UnfoldValidatesUptoSaid : Prop := unfoldValidatesUptoRow.holds Try.pinned (OpenSpec.upto unfoldValidatesSpec)

/-- 'familychecklaw03.UnfoldJudges', WHERE WHAT IT READS IS OF BULK AT MOST 1048576: true; the input reads as it did. -/
def unfoldJudgesUptoRow : OpenClaim := { program := "ytgbgfkhkjlakbaa", sum := "3e8c20d1876280c265ca937585e2542e94cd2531c13e67d9ac6de68fa6e5c86d", func := "familycheck/familychecklaw03.UnfoldJudges", spec := "unfoldJudges", unfollowed := true, recurses := true, apart := false, narrowed := true }
def UnfoldJudgesUptoSaid : Prop := unfoldJudgesUptoRow.holds Try.pinned (OpenSpec.upto unfoldJudgesSpec)

end Rows
end Go.Proofs.Ytgbgfkhkjlakbaa
