/-
  NARROWER THAN 'FOR EVERY INPUT', by the rows' own cells (each row's printed sentence says how): ProtocolValidates: laid · ProtocolRules: laid · ProtocolClasses: laid · ProtocolAdmits: laid · ProtocolSizes: laid · ProtocolThresholds: laid · ProtocolEquals: laid · ProtocolValidatesProperty: laid · ProtocolStarts: laid · ProtocolChanges: laid.
  DERIVED. THE GIVEN ROWS OF THIS SEAT. 10 by the template 'for every input the law returns true; each argument reads behind the call as it read before'; 0 by the template 'total and deterministic' (their statements: YtmpbfdfjcfanoaaDoorTotals.lean).
  GIVEN WITH THE SEED: the statements are not yours to turn. If you find one false, say at which input.
  Laid BY PROGRAM, IN A SANDBOX (cutbox-rows.mjs): the forced cells as the released guide's own fill.sh prints them over the translation 2516c49dbd5f57a2… (all of the seat's roots in one cut). By AI agents, Wed Nov 11 2026. No macro, syntax, notation, axiom, sorry.
-/
import Derived.Test.YtmpbfdfjcfanoaaDoorChecked
import GoSem.Claim
import GoSem.ClaimJoined
import GoSem.ClaimMapViews
import Derived.JoinedTies
import Derived.KernelRfl
namespace Go.Proofs.YtmpbfdfjcfanoaaDoor
/- THE CELL 'sum', in the pinned program and in every row, IS THE sha256 OF THE DUMP (.gsa) THAT YtmpbfdfjcfanoaaDoorProg.lean LOADS. Nothing in Lean hashes anything: it is a label: what it is worth is what the hold of that sum in a sandbox is worth. -/
noncomputable def Tryd.pinned : Pinned := { name := "ytmpbfdfjcfanoaadoor", sum := "2516c49dbd5f57a2a8a5e3c1423e61e4831f964eb40dabcd6dd34437ae377a63", checked := Tryd.checked }
namespace Rows
def none {H : Type} : Left H := { results := [], args := [] }

/- WHAT THE LISTED PACKAGE-LEVEL VARIABLES READ AS WHEN THE CALL BEGINS. Each datum BY PROGRAM (the guide's laid-datum.mjs) off the statement by which the dump's own 'gosem.cut.vars' lays the variable. In a bare row this is a premise. The card (YtmpbfdfjcfanoaaDoorCards.lean) ties it to the program's text. -/
def laid_math_bits_deBruijn32tab {H : Type} : DataW H := .agg [.lit (.int .u8 0), .lit (.int .u8 1), .lit (.int .u8 28), .lit (.int .u8 2), .lit (.int .u8 29), .lit (.int .u8 14), .lit (.int .u8 24), .lit (.int .u8 3), .lit (.int .u8 30), .lit (.int .u8 22), .lit (.int .u8 20), .lit (.int .u8 15), .lit (.int .u8 25), .lit (.int .u8 17), .lit (.int .u8 4), .lit (.int .u8 8), .lit (.int .u8 31), .lit (.int .u8 27), .lit (.int .u8 13), .lit (.int .u8 23), .lit (.int .u8 21), .lit (.int .u8 19), .lit (.int .u8 16), .lit (.int .u8 7), .lit (.int .u8 26), .lit (.int .u8 12), .lit (.int .u8 18), .lit (.int .u8 6), .lit (.int .u8 11), .lit (.int .u8 5), .lit (.int .u8 10), .lit (.int .u8 9)]
def laid_math_bits_deBruijn64tab {H : Type} : DataW H := .agg [.lit (.int .u8 0), .lit (.int .u8 1), .lit (.int .u8 56), .lit (.int .u8 2), .lit (.int .u8 57), .lit (.int .u8 49), .lit (.int .u8 28), .lit (.int .u8 3), .lit (.int .u8 61), .lit (.int .u8 58), .lit (.int .u8 42), .lit (.int .u8 50), .lit (.int .u8 38), .lit (.int .u8 29), .lit (.int .u8 17), .lit (.int .u8 4), .lit (.int .u8 62), .lit (.int .u8 47), .lit (.int .u8 59), .lit (.int .u8 36), .lit (.int .u8 45), .lit (.int .u8 43), .lit (.int .u8 51), .lit (.int .u8 22), .lit (.int .u8 53), .lit (.int .u8 39), .lit (.int .u8 33), .lit (.int .u8 30), .lit (.int .u8 24), .lit (.int .u8 18), .lit (.int .u8 12), .lit (.int .u8 5), .lit (.int .u8 63), .lit (.int .u8 55), .lit (.int .u8 48), .lit (.int .u8 27), .lit (.int .u8 60), .lit (.int .u8 41), .lit (.int .u8 37), .lit (.int .u8 16), .lit (.int .u8 46), .lit (.int .u8 35), .lit (.int .u8 44), .lit (.int .u8 21), .lit (.int .u8 52), .lit (.int .u8 32), .lit (.int .u8 23), .lit (.int .u8 11), .lit (.int .u8 54), .lit (.int .u8 26), .lit (.int .u8 40), .lit (.int .u8 15), .lit (.int .u8 34), .lit (.int .u8 20), .lit (.int .u8 31), .lit (.int .u8 10), .lit (.int .u8 25), .lit (.int .u8 14), .lit (.int .u8 19), .lit (.int .u8 9), .lit (.int .u8 13), .lit (.int .u8 8), .lit (.int .u8 7), .lit (.int .u8 6)]
def laid_internal_strconv_uint64pow10 {H : Type} : DataW H := .agg [.lit (.int .u64 1), .lit (.int .u64 10), .lit (.int .u64 100), .lit (.int .u64 1000), .lit (.int .u64 10000), .lit (.int .u64 100000), .lit (.int .u64 1000000), .lit (.int .u64 10000000), .lit (.int .u64 100000000), .lit (.int .u64 1000000000), .lit (.int .u64 10000000000), .lit (.int .u64 100000000000), .lit (.int .u64 1000000000000), .lit (.int .u64 10000000000000), .lit (.int .u64 100000000000000), .lit (.int .u64 1000000000000000), .lit (.int .u64 10000000000000000), .lit (.int .u64 100000000000000000), .lit (.int .u64 1000000000000000000), .lit (.int .u64 10000000000000000000)]

/-- 'familychecklaw02.ProtocolValidates': WHATEVER THE INPUT: true; the input reads as it did. -/
def protocolValidatesSpec : ChangeSpec := { name := "protocolValidates", fn := fun _ => fun
  | [d] => { results := [.lit (.bool true)], args := [d] }
  | _ => none }
def protocolValidatesRow : OpenClaim := { program := "ytmpbfdfjcfanoaadoor", sum := "2516c49dbd5f57a2a8a5e3c1423e61e4831f964eb40dabcd6dd34437ae377a63", func := "familycheck/familychecklaw02.ProtocolValidates", spec := "protocolValidates", unfollowed := true, recurses := true, named := ["internal/strconv.uint64pow10", "math/bits.deBruijn32tab", "math/bits.deBruijn64tab"], apart := false, laid := [("math/bits.deBruijn32tab", laid_math_bits_deBruijn32tab), ("math/bits.deBruijn64tab", laid_math_bits_deBruijn64tab), ("internal/strconv.uint64pow10", laid_internal_strconv_uint64pow10)] }
def ProtocolValidatesSaid : Prop := protocolValidatesRow.holds Tryd.pinned (OpenSpec.ofChange protocolValidatesSpec)

/-- ITS FALSE NEIGHBOUR: 'it returns false'. Refute it at one input. -/
def protocolValidatesWrong : ChangeSpec := { name := "protocolValidates", fn := fun _ => fun
  | [d] => { results := [.lit (.bool false)], args := [d] }
  | _ => none }
def ProtocolValidatesWrongFalsely : Prop := protocolValidatesRow.holds Tryd.pinned (OpenSpec.ofChange protocolValidatesWrong)

/-- 'familychecklaw02.ProtocolRules': WHATEVER THE INPUT: true; the input reads as it did. -/
def protocolRulesSpec : ChangeSpec := { name := "protocolRules", fn := fun _ => fun
  | [d1, d2] => { results := [.lit (.bool true)], args := [d1, d2] }
  | _ => none }
def protocolRulesRow : OpenClaim := { program := "ytmpbfdfjcfanoaadoor", sum := "2516c49dbd5f57a2a8a5e3c1423e61e4831f964eb40dabcd6dd34437ae377a63", func := "familycheck/familychecklaw02.ProtocolRules", spec := "protocolRules", unfollowed := true, recurses := true, named := ["internal/strconv.uint64pow10", "math/bits.deBruijn32tab", "math/bits.deBruijn64tab"], apart := false, laid := [("math/bits.deBruijn32tab", laid_math_bits_deBruijn32tab), ("math/bits.deBruijn64tab", laid_math_bits_deBruijn64tab), ("internal/strconv.uint64pow10", laid_internal_strconv_uint64pow10)] }
def ProtocolRulesSaid : Prop := protocolRulesRow.holds Tryd.pinned (OpenSpec.ofChange protocolRulesSpec)

/-- ITS FALSE NEIGHBOUR: 'it returns false'. Refute it at one input. -/
def protocolRulesWrong : ChangeSpec := { name := "protocolRules", fn := fun _ => fun
  | [d1, d2] => { results := [.lit (.bool false)], args := [d1, d2] }
  | _ => none }
def ProtocolRulesWrongFalsely : Prop := protocolRulesRow.holds Tryd.pinned (OpenSpec.ofChange protocolRulesWrong)

/-- 'familychecklaw02.ProtocolClasses': WHATEVER THE INPUT: true; the input reads as it did. -/
def protocolClassesSpec : ChangeSpec := { name := "protocolClasses", fn := fun _ => fun
  | [d] => { results := [.lit (.bool true)], args := [d] }
  | _ => none }
def protocolClassesRow : OpenClaim := { program := "ytmpbfdfjcfanoaadoor", sum := "2516c49dbd5f57a2a8a5e3c1423e61e4831f964eb40dabcd6dd34437ae377a63", func := "familycheck/familychecklaw02.ProtocolClasses", spec := "protocolClasses", unfollowed := true, recurses := true, named := ["internal/strconv.uint64pow10", "math/bits.deBruijn32tab", "math/bits.deBruijn64tab"], apart := false, laid := [("math/bits.deBruijn32tab", laid_math_bits_deBruijn32tab), ("math/bits.deBruijn64tab", laid_math_bits_deBruijn64tab), ("internal/strconv.uint64pow10", laid_internal_strconv_uint64pow10)] }
def ProtocolClassesSaid : Prop := protocolClassesRow.holds Tryd.pinned (OpenSpec.ofChange protocolClassesSpec)

/-- ITS FALSE NEIGHBOUR: 'it returns false'. Refute it at one input. -/
def protocolClassesWrong : ChangeSpec := { name := "protocolClasses", fn := fun _ => fun
  | [d] => { results := [.lit (.bool false)], args := [d] }
  | _ => none }
def ProtocolClassesWrongFalsely : Prop := protocolClassesRow.holds Tryd.pinned (OpenSpec.ofChange protocolClassesWrong)

/-- 'familychecklaw02.ProtocolAdmits': WHATEVER THE INPUT: true; the input reads as it did. -/
def protocolAdmitsSpec : ChangeSpec := { name := "protocolAdmits", fn := fun _ => fun
  | [d1, d2] => { results := [.lit (.bool true)], args := [d1, d2] }
  | _ => none }
def protocolAdmitsRow : OpenClaim := { program := "ytmpbfdfjcfanoaadoor", sum := "2516c49dbd5f57a2a8a5e3c1423e61e4831f964eb40dabcd6dd34437ae377a63", func := "familycheck/familychecklaw02.ProtocolAdmits", spec := "protocolAdmits", unfollowed := true, recurses := true, named := ["internal/strconv.uint64pow10", "math/bits.deBruijn32tab", "math/bits.deBruijn64tab"], apart := false, laid := [("math/bits.deBruijn32tab", laid_math_bits_deBruijn32tab), ("math/bits.deBruijn64tab", laid_math_bits_deBruijn64tab), ("internal/strconv.uint64pow10", laid_internal_strconv_uint64pow10)] }
def ProtocolAdmitsSaid : Prop := protocolAdmitsRow.holds Tryd.pinned (OpenSpec.ofChange protocolAdmitsSpec)

/-- ITS FALSE NEIGHBOUR: 'it returns false'. Refute it at one input. -/
def protocolAdmitsWrong : ChangeSpec := { name := "protocolAdmits", fn := fun _ => fun
  | [d1, d2] => { results := [.lit (.bool false)], args := [d1, d2] }
  | _ => none }
def ProtocolAdmitsWrongFalsely : Prop := protocolAdmitsRow.holds Tryd.pinned (OpenSpec.ofChange protocolAdmitsWrong)

/-- 'familychecklaw02.ProtocolSizes': WHATEVER THE INPUT: true; the input reads as it did. -/
def protocolSizesSpec : ChangeSpec := { name := "protocolSizes", fn := fun _ => fun
  | [d1, d2] => { results := [.lit (.bool true)], args := [d1, d2] }
  | _ => none }
def protocolSizesRow : OpenClaim := { program := "ytmpbfdfjcfanoaadoor", sum := "2516c49dbd5f57a2a8a5e3c1423e61e4831f964eb40dabcd6dd34437ae377a63", func := "familycheck/familychecklaw02.ProtocolSizes", spec := "protocolSizes", unfollowed := true, recurses := true, named := ["internal/strconv.uint64pow10", "math/bits.deBruijn32tab", "math/bits.deBruijn64tab"], apart := false, laid := [("math/bits.deBruijn32tab", laid_math_bits_deBruijn32tab), ("math/bits.deBruijn64tab", laid_math_bits_deBruijn64tab), ("internal/strconv.uint64pow10", laid_internal_strconv_uint64pow10)] }
def ProtocolSizesSaid : Prop := protocolSizesRow.holds Tryd.pinned (OpenSpec.ofChange protocolSizesSpec)

/-- ITS FALSE NEIGHBOUR: 'it returns false'. Refute it at one input. -/
def protocolSizesWrong : ChangeSpec := { name := "protocolSizes", fn := fun _ => fun
  | [d1, d2] => { results := [.lit (.bool false)], args := [d1, d2] }
  | _ => none }
def ProtocolSizesWrongFalsely : Prop := protocolSizesRow.holds Tryd.pinned (OpenSpec.ofChange protocolSizesWrong)

/-- 'familychecklaw02.ProtocolThresholds': WHATEVER THE INPUT: true; the input reads as it did. -/
def protocolThresholdsSpec : ChangeSpec := { name := "protocolThresholds", fn := fun _ => fun
  | [d] => { results := [.lit (.bool true)], args := [d] }
  | _ => none }
def protocolThresholdsRow : OpenClaim := { program := "ytmpbfdfjcfanoaadoor", sum := "2516c49dbd5f57a2a8a5e3c1423e61e4831f964eb40dabcd6dd34437ae377a63", func := "familycheck/familychecklaw02.ProtocolThresholds", spec := "protocolThresholds", unfollowed := true, recurses := true, named := ["internal/strconv.uint64pow10", "math/bits.deBruijn32tab", "math/bits.deBruijn64tab"], apart := false, laid := [("math/bits.deBruijn32tab", laid_math_bits_deBruijn32tab), ("math/bits.deBruijn64tab", laid_math_bits_deBruijn64tab), ("internal/strconv.uint64pow10", laid_internal_strconv_uint64pow10)] }
def ProtocolThresholdsSaid : Prop := protocolThresholdsRow.holds Tryd.pinned (OpenSpec.ofChange protocolThresholdsSpec)

/-- ITS FALSE NEIGHBOUR: 'it returns false'. Refute it at one input. -/
def protocolThresholdsWrong : ChangeSpec := { name := "protocolThresholds", fn := fun _ => fun
  | [d] => { results := [.lit (.bool false)], args := [d] }
  | _ => none }
def ProtocolThresholdsWrongFalsely : Prop := protocolThresholdsRow.holds Tryd.pinned (OpenSpec.ofChange protocolThresholdsWrong)

/-- 'familychecklaw02.ProtocolEquals': WHATEVER THE INPUT: true; the input reads as it did. -/
def protocolEqualsSpec : ChangeSpec := { name := "protocolEquals", fn := fun _ => fun
  | [d1, d2] => { results := [.lit (.bool true)], args := [d1, d2] }
  | _ => none }
def protocolEqualsRow : OpenClaim := { program := "ytmpbfdfjcfanoaadoor", sum := "2516c49dbd5f57a2a8a5e3c1423e61e4831f964eb40dabcd6dd34437ae377a63", func := "familycheck/familychecklaw02.ProtocolEquals", spec := "protocolEquals", unfollowed := true, recurses := true, named := ["internal/strconv.uint64pow10", "math/bits.deBruijn32tab", "math/bits.deBruijn64tab"], apart := false, laid := [("math/bits.deBruijn32tab", laid_math_bits_deBruijn32tab), ("math/bits.deBruijn64tab", laid_math_bits_deBruijn64tab), ("internal/strconv.uint64pow10", laid_internal_strconv_uint64pow10)] }
def ProtocolEqualsSaid : Prop := protocolEqualsRow.holds Tryd.pinned (OpenSpec.ofChange protocolEqualsSpec)

/-- ITS FALSE NEIGHBOUR: 'it returns false'. Refute it at one input. -/
def protocolEqualsWrong : ChangeSpec := { name := "protocolEquals", fn := fun _ => fun
  | [d1, d2] => { results := [.lit (.bool false)], args := [d1, d2] }
  | _ => none }
def ProtocolEqualsWrongFalsely : Prop := protocolEqualsRow.holds Tryd.pinned (OpenSpec.ofChange protocolEqualsWrong)

/-- 'familychecklaw02.ProtocolValidatesProperty': WHATEVER THE INPUT: true; the input reads as it did. -/
def protocolValidatesPropertySpec : ChangeSpec := { name := "protocolValidatesProperty", fn := fun _ => fun
  | [d1, d2] => { results := [.lit (.bool true)], args := [d1, d2] }
  | _ => none }
def protocolValidatesPropertyRow : OpenClaim := { program := "ytmpbfdfjcfanoaadoor", sum := "2516c49dbd5f57a2a8a5e3c1423e61e4831f964eb40dabcd6dd34437ae377a63", func := "familycheck/familychecklaw02.ProtocolValidatesProperty", spec := "protocolValidatesProperty", unfollowed := true, recurses := true, named := ["internal/strconv.uint64pow10", "math/bits.deBruijn32tab", "math/bits.deBruijn64tab"], apart := false, laid := [("math/bits.deBruijn32tab", laid_math_bits_deBruijn32tab), ("math/bits.deBruijn64tab", laid_math_bits_deBruijn64tab), ("internal/strconv.uint64pow10", laid_internal_strconv_uint64pow10)] }
def ProtocolValidatesPropertySaid : Prop := protocolValidatesPropertyRow.holds Tryd.pinned (OpenSpec.ofChange protocolValidatesPropertySpec)

/-- ITS FALSE NEIGHBOUR: 'it returns false'. Refute it at one input. -/
def protocolValidatesPropertyWrong : ChangeSpec := { name := "protocolValidatesProperty", fn := fun _ => fun
  | [d1, d2] => { results := [.lit (.bool false)], args := [d1, d2] }
  | _ => none }
def ProtocolValidatesPropertyWrongFalsely : Prop := protocolValidatesPropertyRow.holds Tryd.pinned (OpenSpec.ofChange protocolValidatesPropertyWrong)

/-- 'familychecklaw02.ProtocolStarts': WHATEVER THE INPUT: true; the input reads as it did. -/
def protocolStartsSpec : ChangeSpec := { name := "protocolStarts", fn := fun _ => fun
  | [d1, d2] => { results := [.lit (.bool true)], args := [d1, d2] }
  | _ => none }
def protocolStartsRow : OpenClaim := { program := "ytmpbfdfjcfanoaadoor", sum := "2516c49dbd5f57a2a8a5e3c1423e61e4831f964eb40dabcd6dd34437ae377a63", func := "familycheck/familychecklaw02.ProtocolStarts", spec := "protocolStarts", unfollowed := true, recurses := true, named := ["internal/strconv.uint64pow10", "math/bits.deBruijn32tab", "math/bits.deBruijn64tab"], apart := false, laid := [("math/bits.deBruijn32tab", laid_math_bits_deBruijn32tab), ("math/bits.deBruijn64tab", laid_math_bits_deBruijn64tab), ("internal/strconv.uint64pow10", laid_internal_strconv_uint64pow10)] }
def ProtocolStartsSaid : Prop := protocolStartsRow.holds Tryd.pinned (OpenSpec.ofChange protocolStartsSpec)

/-- ITS FALSE NEIGHBOUR: 'it returns false'. Refute it at one input. -/
def protocolStartsWrong : ChangeSpec := { name := "protocolStarts", fn := fun _ => fun
  | [d1, d2] => { results := [.lit (.bool false)], args := [d1, d2] }
  | _ => none }
def ProtocolStartsWrongFalsely : Prop := protocolStartsRow.holds Tryd.pinned (OpenSpec.ofChange protocolStartsWrong)

/-- 'familychecklaw02.ProtocolChanges': WHATEVER THE INPUT: true; the input reads as it did. -/
def protocolChangesSpec : ChangeSpec := { name := "protocolChanges", fn := fun _ => fun
  | [d1, d2] => { results := [.lit (.bool true)], args := [d1, d2] }
  | _ => none }
def protocolChangesRow : OpenClaim := { program := "ytmpbfdfjcfanoaadoor", sum := "2516c49dbd5f57a2a8a5e3c1423e61e4831f964eb40dabcd6dd34437ae377a63", func := "familycheck/familychecklaw02.ProtocolChanges", spec := "protocolChanges", unfollowed := true, recurses := true, named := ["internal/strconv.uint64pow10", "math/bits.deBruijn32tab", "math/bits.deBruijn64tab"], apart := false, laid := [("math/bits.deBruijn32tab", laid_math_bits_deBruijn32tab), ("math/bits.deBruijn64tab", laid_math_bits_deBruijn64tab), ("internal/strconv.uint64pow10", laid_internal_strconv_uint64pow10)] }
def ProtocolChangesSaid : Prop := protocolChangesRow.holds Tryd.pinned (OpenSpec.ofChange protocolChangesSpec)

/-- ITS FALSE NEIGHBOUR: 'it returns false'. Refute it at one input. -/
def protocolChangesWrong : ChangeSpec := { name := "protocolChanges", fn := fun _ => fun
  | [d1, d2] => { results := [.lit (.bool false)], args := [d1, d2] }
  | _ => none }
def ProtocolChangesWrongFalsely : Prop := protocolChangesRow.holds Tryd.pinned (OpenSpec.ofChange protocolChangesWrong)

/- THE SECOND FORM. 'bulk': how many values and letters a reading holds, each counted each time it is reached (what is shared counts as often as it is met; a slice's spare places count too). A statement '..UptoSaid' is the law's where the arguments, and the package variables that the reading takes, are together of bulk at most 1048576: NARROWER than '..Said'. Prove '..Said' where nothing that the law and all that it calls make is longer than what came in: it says more and counts as full. Else prove '..UptoSaid'. A law counts once. -/
mutual
def uptoBulk {H : Type} : DataW H → Nat
  | .lit (.string bytes) => bytes.length + 1
  | .lit _ => 1
  | .nil => 1
  | .ptr d => uptoBulk d + 1
  | .slice elems spare => uptoBulkAll elems + uptoBulkAll spare + 1
  | .agg parts => uptoBulkAll parts + 1
  | .iface _ d => uptoBulk d + 1
  | .map entries => uptoBulkEntries entries + 1
  | .held _ => 1
def uptoBulkAll {H : Type} : List (DataW H) → Nat
  | [] => 0
  | d :: r => uptoBulk d + uptoBulkAll r
def uptoBulkEntries {H : Type} : List (Lit × DataW H) → Nat
  | [] => 0
  | x :: r => uptoBulkEntry x + uptoBulkEntries r
def uptoBulkEntry {H : Type} : Lit × DataW H → Nat
  | (.string bytes, d) => bytes.length + uptoBulk d + 1
  | (_, d) => uptoBulk d + 1
 end
def uptoSmall : (H : Type) → List (DataW H) → Bool := fun _ ds => decide (uptoBulkAll ds ≤ 1048576)
def OpenSpec.upto (s : _root_.Go.ChangeSpec) : _root_.Go.OpenSpec := { _root_.Go.OpenSpec.ofChange s with cond := some uptoSmall }

/-- 'familychecklaw02.ProtocolValidates', WHERE WHAT IT READS IS OF BULK AT MOST 1048576: true; the input reads as it did. -/
def protocolValidatesUptoRow : OpenClaim := { program := "ytmpbfdfjcfanoaadoor", sum := "2516c49dbd5f57a2a8a5e3c1423e61e4831f964eb40dabcd6dd34437ae377a63", func := "familycheck/familychecklaw02.ProtocolValidates", spec := "protocolValidates", unfollowed := true, recurses := true, named := ["internal/strconv.uint64pow10", "math/bits.deBruijn32tab", "math/bits.deBruijn64tab"], apart := false, laid := [("math/bits.deBruijn32tab", laid_math_bits_deBruijn32tab), ("math/bits.deBruijn64tab", laid_math_bits_deBruijn64tab), ("internal/strconv.uint64pow10", laid_internal_strconv_uint64pow10)], narrowed := true }
def ProtocolValidatesUptoSaid : Prop := protocolValidatesUptoRow.holds Tryd.pinned (OpenSpec.upto protocolValidatesSpec)

/-- 'familychecklaw02.ProtocolRules', WHERE WHAT IT READS IS OF BULK AT MOST 1048576: true; the input reads as it did. -/
def protocolRulesUptoRow : OpenClaim := { program := "ytmpbfdfjcfanoaadoor", sum := "2516c49dbd5f57a2a8a5e3c1423e61e4831f964eb40dabcd6dd34437ae377a63", func := "familycheck/familychecklaw02.ProtocolRules", spec := "protocolRules", unfollowed := true, recurses := true, named := ["internal/strconv.uint64pow10", "math/bits.deBruijn32tab", "math/bits.deBruijn64tab"], apart := false, laid := [("math/bits.deBruijn32tab", laid_math_bits_deBruijn32tab), ("math/bits.deBruijn64tab", laid_math_bits_deBruijn64tab), ("internal/strconv.uint64pow10", laid_internal_strconv_uint64pow10)], narrowed := true }
def ProtocolRulesUptoSaid : Prop := protocolRulesUptoRow.holds Tryd.pinned (OpenSpec.upto protocolRulesSpec)

/-- 'familychecklaw02.ProtocolClasses', WHERE WHAT IT READS IS OF BULK AT MOST 1048576: true; the input reads as it did. -/
def protocolClassesUptoRow : OpenClaim := { program := "ytmpbfdfjcfanoaadoor", sum := "2516c49dbd5f57a2a8a5e3c1423e61e4831f964eb40dabcd6dd34437ae377a63", func := "familycheck/familychecklaw02.ProtocolClasses", spec := "protocolClasses", unfollowed := true, recurses := true, named := ["internal/strconv.uint64pow10", "math/bits.deBruijn32tab", "math/bits.deBruijn64tab"], apart := false, laid := [("math/bits.deBruijn32tab", laid_math_bits_deBruijn32tab), ("math/bits.deBruijn64tab", laid_math_bits_deBruijn64tab), ("internal/strconv.uint64pow10", laid_internal_strconv_uint64pow10)], narrowed := true }
def ProtocolClassesUptoSaid : Prop := protocolClassesUptoRow.holds Tryd.pinned (OpenSpec.upto protocolClassesSpec)

/-- 'familychecklaw02.ProtocolAdmits', WHERE WHAT IT READS IS OF BULK AT MOST 1048576: true; the input reads as it did. -/
def protocolAdmitsUptoRow : OpenClaim := { program := "ytmpbfdfjcfanoaadoor", sum := "2516c49dbd5f57a2a8a5e3c1423e61e4831f964eb40dabcd6dd34437ae377a63", func := "familycheck/familychecklaw02.ProtocolAdmits", spec := "protocolAdmits", unfollowed := true, recurses := true, named := ["internal/strconv.uint64pow10", "math/bits.deBruijn32tab", "math/bits.deBruijn64tab"], apart := false, laid := [("math/bits.deBruijn32tab", laid_math_bits_deBruijn32tab), ("math/bits.deBruijn64tab", laid_math_bits_deBruijn64tab), ("internal/strconv.uint64pow10", laid_internal_strconv_uint64pow10)], narrowed := true }
def ProtocolAdmitsUptoSaid : Prop := protocolAdmitsUptoRow.holds Tryd.pinned (OpenSpec.upto protocolAdmitsSpec)

/-- 'familychecklaw02.ProtocolSizes', WHERE WHAT IT READS IS OF BULK AT MOST 1048576: true; the input reads as it did. -/
def protocolSizesUptoRow : OpenClaim := { program := "ytmpbfdfjcfanoaadoor", sum := "2516c49dbd5f57a2a8a5e3c1423e61e4831f964eb40dabcd6dd34437ae377a63", func := "familycheck/familychecklaw02.ProtocolSizes", spec := "protocolSizes", unfollowed := true, recurses := true, named := ["internal/strconv.uint64pow10", "math/bits.deBruijn32tab", "math/bits.deBruijn64tab"], apart := false, laid := [("math/bits.deBruijn32tab", laid_math_bits_deBruijn32tab), ("math/bits.deBruijn64tab", laid_math_bits_deBruijn64tab), ("internal/strconv.uint64pow10", laid_internal_strconv_uint64pow10)], narrowed := true }
def ProtocolSizesUptoSaid : Prop := protocolSizesUptoRow.holds Tryd.pinned (OpenSpec.upto protocolSizesSpec)

/-- 'familychecklaw02.ProtocolThresholds', WHERE WHAT IT READS IS OF BULK AT MOST 1048576: true; the input reads as it did. -/
def protocolThresholdsUptoRow : OpenClaim := { program := "ytmpbfdfjcfanoaadoor", sum := "2516c49dbd5f57a2a8a5e3c1423e61e4831f964eb40dabcd6dd34437ae377a63", func := "familycheck/familychecklaw02.ProtocolThresholds", spec := "protocolThresholds", unfollowed := true, recurses := true, named := ["internal/strconv.uint64pow10", "math/bits.deBruijn32tab", "math/bits.deBruijn64tab"], apart := false, laid := [("math/bits.deBruijn32tab", laid_math_bits_deBruijn32tab), ("math/bits.deBruijn64tab", laid_math_bits_deBruijn64tab), ("internal/strconv.uint64pow10", laid_internal_strconv_uint64pow10)], narrowed := true }
def ProtocolThresholdsUptoSaid : Prop := protocolThresholdsUptoRow.holds Tryd.pinned (OpenSpec.upto protocolThresholdsSpec)

/-- 'familychecklaw02.ProtocolEquals', WHERE WHAT IT READS IS OF BULK AT MOST 1048576: true; the input reads as it did. -/
def protocolEqualsUptoRow : OpenClaim := { program := "ytmpbfdfjcfanoaadoor", sum := "2516c49dbd5f57a2a8a5e3c1423e61e4831f964eb40dabcd6dd34437ae377a63", func := "familycheck/familychecklaw02.ProtocolEquals", spec := "protocolEquals", unfollowed := true, recurses := true, named := ["internal/strconv.uint64pow10", "math/bits.deBruijn32tab", "math/bits.deBruijn64tab"], apart := false, laid := [("math/bits.deBruijn32tab", laid_math_bits_deBruijn32tab), ("math/bits.deBruijn64tab", laid_math_bits_deBruijn64tab), ("internal/strconv.uint64pow10", laid_internal_strconv_uint64pow10)], narrowed := true }
def ProtocolEqualsUptoSaid : Prop := protocolEqualsUptoRow.holds Tryd.pinned (OpenSpec.upto protocolEqualsSpec)

/-- 'familychecklaw02.ProtocolValidatesProperty', WHERE WHAT IT READS IS OF BULK AT MOST 1048576: true; the input reads as it did. -/
def protocolValidatesPropertyUptoRow : OpenClaim := { program := "ytmpbfdfjcfanoaadoor", sum := "2516c49dbd5f57a2a8a5e3c1423e61e4831f964eb40dabcd6dd34437ae377a63", func := "familycheck/familychecklaw02.ProtocolValidatesProperty", spec := "protocolValidatesProperty", unfollowed := true, recurses := true, named := ["internal/strconv.uint64pow10", "math/bits.deBruijn32tab", "math/bits.deBruijn64tab"], apart := false, laid := [("math/bits.deBruijn32tab", laid_math_bits_deBruijn32tab), ("math/bits.deBruijn64tab", laid_math_bits_deBruijn64tab), ("internal/strconv.uint64pow10", laid_internal_strconv_uint64pow10)], narrowed := true }
def ProtocolValidatesPropertyUptoSaid : Prop := protocolValidatesPropertyUptoRow.holds Tryd.pinned (OpenSpec.upto protocolValidatesPropertySpec)

/-- 'familychecklaw02.ProtocolStarts', WHERE WHAT IT READS IS OF BULK AT MOST 1048576: true; the input reads as it did. -/
def protocolStartsUptoRow : OpenClaim := { program := "ytmpbfdfjcfanoaadoor", sum := "2516c49dbd5f57a2a8a5e3c1423e61e4831f964eb40dabcd6dd34437ae377a63", func := "familycheck/familychecklaw02.ProtocolStarts", spec := "protocolStarts", unfollowed := true, recurses := true, named := ["internal/strconv.uint64pow10", "math/bits.deBruijn32tab", "math/bits.deBruijn64tab"], apart := false, laid := [("math/bits.deBruijn32tab", laid_math_bits_deBruijn32tab), ("math/bits.deBruijn64tab", laid_math_bits_deBruijn64tab), ("internal/strconv.uint64pow10", laid_internal_strconv_uint64pow10)], narrowed := true }
def ProtocolStartsUptoSaid : Prop := protocolStartsUptoRow.holds Tryd.pinned (OpenSpec.upto protocolStartsSpec)

/-- 'familychecklaw02.ProtocolChanges', WHERE WHAT IT READS IS OF BULK AT MOST 1048576: true; the input reads as it did. -/
def protocolChangesUptoRow : OpenClaim := { program := "ytmpbfdfjcfanoaadoor", sum := "2516c49dbd5f57a2a8a5e3c1423e61e4831f964eb40dabcd6dd34437ae377a63", func := "familycheck/familychecklaw02.ProtocolChanges", spec := "protocolChanges", unfollowed := true, recurses := true, named := ["internal/strconv.uint64pow10", "math/bits.deBruijn32tab", "math/bits.deBruijn64tab"], apart := false, laid := [("math/bits.deBruijn32tab", laid_math_bits_deBruijn32tab), ("math/bits.deBruijn64tab", laid_math_bits_deBruijn64tab), ("internal/strconv.uint64pow10", laid_internal_strconv_uint64pow10)], narrowed := true }
def ProtocolChangesUptoSaid : Prop := protocolChangesUptoRow.holds Tryd.pinned (OpenSpec.upto protocolChangesSpec)

end Rows
end Go.Proofs.YtmpbfdfjcfanoaaDoor
