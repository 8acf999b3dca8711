/-
  No cell of these rows narrows 'for every input' (looked for: loops, veiled, ifaces, maps, wideKeys, modest, calm, conditions, laid).
  DERIVED. THE GIVEN ROWS OF THIS SEAT. 4 by the template 'for every input the law returns true; each argument reads behind the call as it read before'; 0 by the template 'total and deterministic' (their statements: YtmobmhgobpipkaaGreatTotals.lean).
  GIVEN WITH THE SEED: the statements are not yours to turn. If you find one false, say at which input.
  Laid BY PROGRAM, IN A SANDBOX (cutbox-rows.mjs): the forced cells as the released guide's own fill.sh prints them over the translation 16caec1092fdb055… (all of the seat's roots in one cut). By AI agents, Wed Nov 11 2026. No macro, syntax, notation, axiom, sorry.
-/
import Derived.Test.YtmobmhgobpipkaaGreatChecked
import GoSem.Claim
import GoSem.ClaimJoined
import GoSem.ClaimMapViews
import Derived.JoinedTies
import Derived.KernelRfl
namespace Go.Proofs.YtmobmhgobpipkaaGreat
/- THE CELL 'sum', in the pinned program and in every row, IS THE sha256 OF THE DUMP (.gsa) THAT YtmobmhgobpipkaaGreatProg.lean LOADS. Nothing in Lean hashes anything: it is a label: what it is worth is what the hold of that sum in a sandbox is worth. -/
noncomputable def Tryz.pinned : Pinned := { name := "ytmobmhgobpipkaagreat", sum := "16caec1092fdb055744349bde757d3587d13b05542008babda60e53a17b44c6f", checked := Tryz.checked }
namespace Rows
def none {H : Type} : Left H := { results := [], args := [] }

/-- 'familychecklaw03.UnfoldEnables': WHATEVER THE INPUT: true; the input reads as it did. -/
def unfoldEnablesSpec : ChangeSpec := { name := "unfoldEnables", fn := fun _ => fun
  | [d1, d2] => { results := [.lit (.bool true)], args := [d1, d2] }
  | _ => none }
def unfoldEnablesRow : OpenClaim := { program := "ytmobmhgobpipkaagreat", sum := "16caec1092fdb055744349bde757d3587d13b05542008babda60e53a17b44c6f", func := "familycheck/familychecklaw03.UnfoldEnables", spec := "unfoldEnables", unfollowed := true, recurses := true, apart := false }
def UnfoldEnablesSaid : Prop := unfoldEnablesRow.holds Tryz.pinned (OpenSpec.ofChange unfoldEnablesSpec)

/-- ITS FALSE NEIGHBOUR: 'it returns false'. Refute it at one input. -/
def unfoldEnablesWrong : ChangeSpec := { name := "unfoldEnables", fn := fun _ => fun
  | [d1, d2] => { results := [.lit (.bool false)], args := [d1, d2] }
  | _ => none }
def UnfoldEnablesWrongFalsely : Prop := unfoldEnablesRow.holds Tryz.pinned (OpenSpec.ofChange unfoldEnablesWrong)

/-- 'familychecklaw03.UnfoldForces': WHATEVER THE INPUT: true; the input reads as it did. -/
def unfoldForcesSpec : ChangeSpec := { name := "unfoldForces", fn := fun _ => fun
  | [d1, d2, d3] => { results := [.lit (.bool true)], args := [d1, d2, d3] }
  | _ => none }
def unfoldForcesRow : OpenClaim := { program := "ytmobmhgobpipkaagreat", sum := "16caec1092fdb055744349bde757d3587d13b05542008babda60e53a17b44c6f", func := "familycheck/familychecklaw03.UnfoldForces", spec := "unfoldForces", unfollowed := true, recurses := true, apart := false }
def UnfoldForcesSaid : Prop := unfoldForcesRow.holds Tryz.pinned (OpenSpec.ofChange unfoldForcesSpec)

/-- ITS FALSE NEIGHBOUR: 'it returns false'. Refute it at one input. -/
def unfoldForcesWrong : ChangeSpec := { name := "unfoldForces", fn := fun _ => fun
  | [d1, d2, d3] => { results := [.lit (.bool false)], args := [d1, d2, d3] }
  | _ => none }
def UnfoldForcesWrongFalsely : Prop := unfoldForcesRow.holds Tryz.pinned (OpenSpec.ofChange unfoldForcesWrong)

/-- 'familychecklaw03.UnfoldApplies': WHATEVER THE INPUT: true; the input reads as it did. -/
def unfoldAppliesSpec : ChangeSpec := { name := "unfoldApplies", fn := fun _ => fun
  | [d1, d2] => { results := [.lit (.bool true)], args := [d1, d2] }
  | _ => none }
def unfoldAppliesRow : OpenClaim := { program := "ytmobmhgobpipkaagreat", sum := "16caec1092fdb055744349bde757d3587d13b05542008babda60e53a17b44c6f", func := "familycheck/familychecklaw03.UnfoldApplies", spec := "unfoldApplies", unfollowed := true, recurses := true, apart := false }
def UnfoldAppliesSaid : Prop := unfoldAppliesRow.holds Tryz.pinned (OpenSpec.ofChange unfoldAppliesSpec)

/-- ITS FALSE NEIGHBOUR: 'it returns false'. Refute it at one input. -/
def unfoldAppliesWrong : ChangeSpec := { name := "unfoldApplies", fn := fun _ => fun
  | [d1, d2] => { results := [.lit (.bool false)], args := [d1, d2] }
  | _ => none }
def UnfoldAppliesWrongFalsely : Prop := unfoldAppliesRow.holds Tryz.pinned (OpenSpec.ofChange unfoldAppliesWrong)

/-- 'familychecklaw03.UnfoldSteps': WHATEVER THE INPUT: true; the input reads as it did. -/
def unfoldStepsSpec : ChangeSpec := { name := "unfoldSteps", fn := fun _ => fun
  | [d] => { results := [.lit (.bool true)], args := [d] }
  | _ => none }
def unfoldStepsRow : OpenClaim := { program := "ytmobmhgobpipkaagreat", sum := "16caec1092fdb055744349bde757d3587d13b05542008babda60e53a17b44c6f", func := "familycheck/familychecklaw03.UnfoldSteps", spec := "unfoldSteps", unfollowed := true, recurses := true, apart := false }
def UnfoldStepsSaid : Prop := unfoldStepsRow.holds Tryz.pinned (OpenSpec.ofChange unfoldStepsSpec)

/-- ITS FALSE NEIGHBOUR: 'it returns false'. Refute it at one input. -/
def unfoldStepsWrong : ChangeSpec := { name := "unfoldSteps", fn := fun _ => fun
  | [d] => { results := [.lit (.bool false)], args := [d] }
  | _ => none }
def UnfoldStepsWrongFalsely : Prop := unfoldStepsRow.holds Tryz.pinned (OpenSpec.ofChange unfoldStepsWrong)

/- THE SECOND FORM. 'bulk': how many values and letters a reading holds, each counted each time it is reached (what is shared counts as often as it is met; a slice's spare places count too). A statement '..UptoSaid' is the law's where the arguments, and the package variables that the reading takes, are together of bulk at most 1048576: NARROWER than '..Said'. Prove '..Said' where nothing that the law and all that it calls make is longer than what came in: it says more and counts as full. Else prove '..UptoSaid'. A law counts once. -/
mutual
def uptoBulk {H : Type} : DataW H → Nat
  | .lit (.string bytes) => bytes.length + 1
  | .lit _ => 1
  | .nil => 1
  | .ptr d => uptoBulk d + 1
  | .slice elems spare => uptoBulkAll elems + uptoBulkAll spare + 1
  | .agg parts => uptoBulkAll parts + 1
  | .iface _ d => uptoBulk d + 1
  | .map entries => uptoBulkEntries entries + 1
  | .held _ => 1
def uptoBulkAll {H : Type} : List (DataW H) → Nat
  | [] => 0
  | d :: r => uptoBulk d + uptoBulkAll r
def uptoBulkEntries {H : Type} : List (Lit × DataW H) → Nat
  | [] => 0
  | x :: r => uptoBulkEntry x + uptoBulkEntries r
def uptoBulkEntry {H : Type} : Lit × DataW H → Nat
  | (.string bytes, d) => bytes.length + uptoBulk d + 1
  | (_, d) => uptoBulk d + 1
 end
def uptoSmall : (H : Type) → List (DataW H) → Bool := fun _ ds => decide (uptoBulkAll ds ≤ 1048576)
def OpenSpec.upto (s : _root_.Go.ChangeSpec) : _root_.Go.OpenSpec := { _root_.Go.OpenSpec.ofChange s with cond := some uptoSmall }

/-- 'familychecklaw03.UnfoldEnables', WHERE WHAT IT READS IS OF BULK AT MOST 1048576: true; the input reads as it did. -/
def unfoldEnablesUptoRow : OpenClaim := { program := "ytmobmhgobpipkaagreat", sum := "16caec1092fdb055744349bde757d3587d13b05542008babda60e53a17b44c6f", func := "familycheck/familychecklaw03.UnfoldEnables", spec := "unfoldEnables", unfollowed := true, recurses := true, apart := false, narrowed := true }
def UnfoldEnablesUptoSaid : Prop := unfoldEnablesUptoRow.holds Tryz.pinned (OpenSpec.upto unfoldEnablesSpec)

/-- 'familychecklaw03.UnfoldForces', WHERE WHAT IT READS IS OF BULK AT MOST 1048576: true; the input reads as it did. -/
def unfoldForcesUptoRow : OpenClaim := { program := "ytmobmhgobpipkaagreat", sum := "16caec1092fdb055744349bde757d3587d13b05542008babda60e53a17b44c6f", func := "familycheck/familychecklaw03.UnfoldForces", spec := "unfoldForces", unfollowed := true, recurses := true, apart := false, narrowed := true }
def UnfoldForcesUptoSaid : Prop := unfoldForcesUptoRow.holds Tryz.pinned (OpenSpec.upto unfoldForcesSpec)

/-- 'familychecklaw03.UnfoldApplies', WHERE WHAT IT READS IS OF BULK AT MOST 1048576: true; the input reads as it did. -/
def unfoldAppliesUptoRow : OpenClaim := { program := "ytmobmhgobpipkaagreat", sum := "16caec1092fdb055744349bde757d3587d13b05542008babda60e53a17b44c6f", func := "familycheck/familychecklaw03.UnfoldApplies", spec := "unfoldApplies", unfollowed := true, recurses := true, apart := false, narrowed := true }
def UnfoldAppliesUptoSaid : Prop := unfoldAppliesUptoRow.holds Tryz.pinned (OpenSpec.upto unfoldAppliesSpec)

/-- 'familychecklaw03.UnfoldSteps', WHERE WHAT IT READS IS OF BULK AT MOST 1048576: true; the input reads as it did. -/
def unfoldStepsUptoRow : OpenClaim := { program := "ytmobmhgobpipkaagreat", sum := "16caec1092fdb055744349bde757d3587d13b05542008babda60e53a17b44c6f", func := "familycheck/familychecklaw03.UnfoldSteps", spec := "unfoldSteps", unfollowed := true, recurses := true, apart := false, narrowed := true }
def UnfoldStepsUptoSaid : Prop := unfoldStepsUptoRow.holds Tryz.pinned (OpenSpec.upto unfoldStepsSpec)

end Rows
end Go.Proofs.YtmobmhgobpipkaaGreat
