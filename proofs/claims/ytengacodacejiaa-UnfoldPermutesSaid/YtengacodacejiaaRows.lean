/-
  No cell of these rows narrows 'for every input' (looked for: loops, veiled, ifaces, maps, wideKeys, modest, calm, conditions, laid).
  DERIVED. THE GIVEN ROWS OF THIS SEAT. 3 by the template 'for every input the law returns true; each argument reads behind the call as it read before'; 0 by the template 'total and deterministic' (their statements: YtengacodacejiaaTotals.lean).
  GIVEN WITH THE SEED: the statements are not yours to turn. If you find one false, say at which input.
  Laid BY PROGRAM, IN A SANDBOX (cutbox-rows.mjs): the forced cells as the released guide's own fill.sh prints them over the translation 97959fa5ef04fa72… (all of the seat's roots in one cut). By AI agents, Wed Nov 11 2026. No macro, syntax, notation, axiom, sorry.
-/
import Derived.Test.YtengacodacejiaaChecked
import GoSem.Claim
import GoSem.ClaimJoined
import GoSem.ClaimMapViews
import Derived.JoinedTies
import Derived.KernelRfl
namespace Go.Proofs.Ytengacodacejiaa
/- THE CELL 'sum', in the pinned program and in every row, IS THE sha256 OF THE DUMP (.gsa) THAT YtengacodacejiaaProg.lean LOADS. Nothing in Lean hashes anything: it is a label: what it is worth is what the hold of that sum in a sandbox is worth. -/
noncomputable def Try.pinned : Pinned := { name := "ytengacodacejiaa", sum := "97959fa5ef04fa7291f3dd0e8ffef047d72cc90cb2bf4ca7ecb6764f8d71320d", checked := Try.checked }
namespace Rows
def none {H : Type} : Left H := { results := [], args := [] }

/-- 'familychecklaw03.UnfoldStays': WHATEVER THE INPUT: true; the input reads as it did. -/
def unfoldStaysSpec : ChangeSpec := { name := "unfoldStays", fn := fun _ => fun
  | [d1, d2] => { results := [.lit (.bool true)], args := [d1, d2] }
  | _ => none }
def unfoldStaysRow : OpenClaim := { program := "ytengacodacejiaa", sum := "97959fa5ef04fa7291f3dd0e8ffef047d72cc90cb2bf4ca7ecb6764f8d71320d", func := "familycheck/familychecklaw03.UnfoldStays", spec := "unfoldStays", unfollowed := true, recurses := true, apart := false }
def UnfoldStaysSaid : Prop := unfoldStaysRow.holds Try.pinned (OpenSpec.ofChange unfoldStaysSpec)

/-- ITS FALSE NEIGHBOUR: 'it returns false'. Refute it at one input. -/
def unfoldStaysWrong : ChangeSpec := { name := "unfoldStays", fn := fun _ => fun
  | [d1, d2] => { results := [.lit (.bool false)], args := [d1, d2] }
  | _ => none }
def UnfoldStaysWrongFalsely : Prop := unfoldStaysRow.holds Try.pinned (OpenSpec.ofChange unfoldStaysWrong)

/-- 'familychecklaw03.UnfoldPermutes': WHATEVER THE INPUT: true; the input reads as it did. -/
def unfoldPermutesSpec : ChangeSpec := { name := "unfoldPermutes", fn := fun _ => fun
  | [d1, d2, d3] => { results := [.lit (.bool true)], args := [d1, d2, d3] }
  | _ => none }
def unfoldPermutesRow : OpenClaim := { program := "ytengacodacejiaa", sum := "97959fa5ef04fa7291f3dd0e8ffef047d72cc90cb2bf4ca7ecb6764f8d71320d", func := "familycheck/familychecklaw03.UnfoldPermutes", spec := "unfoldPermutes", unfollowed := true, recurses := true, apart := false }
def UnfoldPermutesSaid : Prop := unfoldPermutesRow.holds Try.pinned (OpenSpec.ofChange unfoldPermutesSpec)

/-- ITS FALSE NEIGHBOUR: 'it returns false'. Refute it at one input. -/
def unfoldPermutesWrong : ChangeSpec := { name := "unfoldPermutes", fn := fun _ => fun
  | [d1, d2, d3] => { results := [.lit (.bool false)], args := [d1, d2, d3] }
  | _ => none }
def UnfoldPermutesWrongFalsely : Prop := unfoldPermutesRow.holds Try.pinned (OpenSpec.ofChange unfoldPermutesWrong)

/-- 'familychecklaw03.UnfoldMonotone': WHATEVER THE INPUT: true; the input reads as it did. -/
def unfoldMonotoneSpec : ChangeSpec := { name := "unfoldMonotone", fn := fun _ => fun
  | [d1, d2, d3] => { results := [.lit (.bool true)], args := [d1, d2, d3] }
  | _ => none }
def unfoldMonotoneRow : OpenClaim := { program := "ytengacodacejiaa", sum := "97959fa5ef04fa7291f3dd0e8ffef047d72cc90cb2bf4ca7ecb6764f8d71320d", func := "familycheck/familychecklaw03.UnfoldMonotone", spec := "unfoldMonotone", unfollowed := true, recurses := true, apart := false }
def UnfoldMonotoneSaid : Prop := unfoldMonotoneRow.holds Try.pinned (OpenSpec.ofChange unfoldMonotoneSpec)

/-- ITS FALSE NEIGHBOUR: 'it returns false'. Refute it at one input. -/
def unfoldMonotoneWrong : ChangeSpec := { name := "unfoldMonotone", fn := fun _ => fun
  | [d1, d2, d3] => { results := [.lit (.bool false)], args := [d1, d2, d3] }
  | _ => none }
def UnfoldMonotoneWrongFalsely : Prop := unfoldMonotoneRow.holds Try.pinned (OpenSpec.ofChange unfoldMonotoneWrong)

/- THE SECOND FORM. 'bulk': how many values and letters a reading holds, each counted each time it is reached (what is shared counts as often as it is met; a slice's spare places count too). A statement '..UptoSaid' is the law's where the arguments, and the package variables that the reading takes, are together of bulk at most 1048576: NARROWER than '..Said'. Prove '..Said' where nothing that the law and all that it calls make is longer than what came in: it says more and counts as full. Else prove '..UptoSaid'. A law counts once. -/
mutual
def uptoBulk {H : Type} : DataW H → Nat
  | .lit (.string bytes) => bytes.length + 1
  | .lit _ => 1
  | .nil => 1
  | .ptr d => uptoBulk d + 1
  | .slice elems spare => uptoBulkAll elems + uptoBulkAll spare + 1
  | .agg parts => uptoBulkAll parts + 1
  | .iface _ d => uptoBulk d + 1
  | .map entries => uptoBulkEntries entries + 1
  | .held _ => 1
def uptoBulkAll {H : Type} : List (DataW H) → Nat
  | [] => 0
  | d :: r => uptoBulk d + uptoBulkAll r
def uptoBulkEntries {H : Type} : List (Lit × DataW H) → Nat
  | [] => 0
  | x :: r => uptoBulkEntry x + uptoBulkEntries r
def uptoBulkEntry {H : Type} : Lit × DataW H → Nat
  | (.string bytes, d) => bytes.length + uptoBulk d + 1
  | (_, d) => uptoBulk d + 1
 end
def uptoSmall : (H : Type) → List (DataW H) → Bool := fun _ ds => decide (uptoBulkAll ds ≤ 1048576)
def OpenSpec.upto (s : _root_.Go.ChangeSpec) : _root_.Go.OpenSpec := { _root_.Go.OpenSpec.ofChange s with cond := some uptoSmall }

/-- 'familychecklaw03.UnfoldStays', WHERE WHAT IT READS IS OF BULK AT MOST 1048576: true; the input reads as it did. -/
def unfoldStaysUptoRow : OpenClaim := { program := "ytengacodacejiaa", sum := "97959fa5ef04fa7291f3dd0e8ffef047d72cc90cb2bf4ca7ecb6764f8d71320d", func := "familycheck/familychecklaw03.UnfoldStays", spec := "unfoldStays", unfollowed := true, recurses := true, apart := false, narrowed := true }
def UnfoldStaysUptoSaid : Prop := unfoldStaysUptoRow.holds Try.pinned (OpenSpec.upto unfoldStaysSpec)

/-- 'familychecklaw03.UnfoldPermutes', WHERE WHAT IT READS IS OF BULK AT MOST 1048576: true; the input reads as it did. -/
def unfoldPermutesUptoRow : OpenClaim := { program := "ytengacodacejiaa", sum := "97959fa5ef04fa7291f3dd0e8ffef047d72cc90cb2bf4ca7ecb6764f8d71320d", func := "familycheck/familychecklaw03.UnfoldPermutes", spec := "unfoldPermutes", unfollowed := true, recurses := true, apart := false, narrowed := true }
def UnfoldPermutesUptoSaid : Prop := unfoldPermutesUptoRow.holds Try.pinned (OpenSpec.upto unfoldPermutesSpec)

/-- 'familychecklaw03.UnfoldMonotone', WHERE WHAT IT READS IS OF BULK AT MOST 1048576: true; the input reads as it did. -/
def unfoldMonotoneUptoRow : OpenClaim := { program := "ytengacodacejiaa", sum := "97959fa5ef04fa7291f3dd0e8ffef047d72cc90cb2bf4ca7ecb6764f8d71320d", func := "familycheck/familychecklaw03.UnfoldMonotone", spec := "unfoldMonotone", unfollowed := true, recurses := true, apart := false, narrowed := true }
def UnfoldMonotoneUptoSaid : Prop := unfoldMonotoneUptoRow.holds Try.pinned (OpenSpec.upto unfoldMonotoneSpec)

end Rows
end Go.Proofs.Ytengacodacejiaa
