/-
  NARROWER THAN 'FOR EVERY INPUT', by the rows' own cells (each row's printed sentence says how): LinearNormalKeeps: laid · LinearSubstitutes: laid · LinearSubstituteMeans: laid · LinearEliminates: laid · LinearEliminateKeeps: laid · LinearFormats: laid · LinearLeast: laid · LinearLeastFirst: laid.
  DERIVED. THE GIVEN ROWS OF THIS SEAT. 8 by the template 'for every input the law returns true; each argument reads behind the call as it read before'; 0 by the template 'total and deterministic' (their statements: YtbbglendddepfaaDoorTotals.lean).
  GIVEN WITH THE SEED: the statements are not yours to turn. If you find one false, say at which input.
  Laid BY PROGRAM, IN A SANDBOX (cutbox-rows.mjs): the forced cells as the released guide's own fill.sh prints them over the translation 169cfec520f4b118… (all of the seat's roots in one cut). By AI agents, Wed Nov 11 2026. No macro, syntax, notation, axiom, sorry.
-/
import Derived.Test.YtbbglendddepfaaDoorChecked
import GoSem.Claim
import GoSem.ClaimJoined
import GoSem.ClaimMapViews
import Derived.JoinedTies
import Derived.KernelRfl
namespace Go.Proofs.YtbbglendddepfaaDoor
/- THE CELL 'sum', in the pinned program and in every row, IS THE sha256 OF THE DUMP (.gsa) THAT YtbbglendddepfaaDoorProg.lean LOADS. Nothing in Lean hashes anything: it is a label: what it is worth is what the hold of that sum in a sandbox is worth. -/
noncomputable def Tryd.pinned : Pinned := { name := "ytbbglendddepfaadoor", sum := "169cfec520f4b11895ccef05327b33a794c4f9c7a2fc11e75cdab8e8e2665721", checked := Tryd.checked }
namespace Rows
def none {H : Type} : Left H := { results := [], args := [] }

/- WHAT THE LISTED PACKAGE-LEVEL VARIABLES READ AS WHEN THE CALL BEGINS. Each datum BY PROGRAM (the guide's laid-datum.mjs) off the statement by which the dump's own 'gosem.cut.vars' lays the variable. In a bare row this is a premise. The card (YtbbglendddepfaaDoorCards.lean) ties it to the program's text. -/
def laid_math_bits_deBruijn32tab {H : Type} : DataW H := .agg [.lit (.int .u8 0), .lit (.int .u8 1), .lit (.int .u8 28), .lit (.int .u8 2), .lit (.int .u8 29), .lit (.int .u8 14), .lit (.int .u8 24), .lit (.int .u8 3), .lit (.int .u8 30), .lit (.int .u8 22), .lit (.int .u8 20), .lit (.int .u8 15), .lit (.int .u8 25), .lit (.int .u8 17), .lit (.int .u8 4), .lit (.int .u8 8), .lit (.int .u8 31), .lit (.int .u8 27), .lit (.int .u8 13), .lit (.int .u8 23), .lit (.int .u8 21), .lit (.int .u8 19), .lit (.int .u8 16), .lit (.int .u8 7), .lit (.int .u8 26), .lit (.int .u8 12), .lit (.int .u8 18), .lit (.int .u8 6), .lit (.int .u8 11), .lit (.int .u8 5), .lit (.int .u8 10), .lit (.int .u8 9)]
def laid_math_bits_deBruijn64tab {H : Type} : DataW H := .agg [.lit (.int .u8 0), .lit (.int .u8 1), .lit (.int .u8 56), .lit (.int .u8 2), .lit (.int .u8 57), .lit (.int .u8 49), .lit (.int .u8 28), .lit (.int .u8 3), .lit (.int .u8 61), .lit (.int .u8 58), .lit (.int .u8 42), .lit (.int .u8 50), .lit (.int .u8 38), .lit (.int .u8 29), .lit (.int .u8 17), .lit (.int .u8 4), .lit (.int .u8 62), .lit (.int .u8 47), .lit (.int .u8 59), .lit (.int .u8 36), .lit (.int .u8 45), .lit (.int .u8 43), .lit (.int .u8 51), .lit (.int .u8 22), .lit (.int .u8 53), .lit (.int .u8 39), .lit (.int .u8 33), .lit (.int .u8 30), .lit (.int .u8 24), .lit (.int .u8 18), .lit (.int .u8 12), .lit (.int .u8 5), .lit (.int .u8 63), .lit (.int .u8 55), .lit (.int .u8 48), .lit (.int .u8 27), .lit (.int .u8 60), .lit (.int .u8 41), .lit (.int .u8 37), .lit (.int .u8 16), .lit (.int .u8 46), .lit (.int .u8 35), .lit (.int .u8 44), .lit (.int .u8 21), .lit (.int .u8 52), .lit (.int .u8 32), .lit (.int .u8 23), .lit (.int .u8 11), .lit (.int .u8 54), .lit (.int .u8 26), .lit (.int .u8 40), .lit (.int .u8 15), .lit (.int .u8 34), .lit (.int .u8 20), .lit (.int .u8 31), .lit (.int .u8 10), .lit (.int .u8 25), .lit (.int .u8 14), .lit (.int .u8 19), .lit (.int .u8 9), .lit (.int .u8 13), .lit (.int .u8 8), .lit (.int .u8 7), .lit (.int .u8 6)]
def laid_internal_strconv_uint64pow10 {H : Type} : DataW H := .agg [.lit (.int .u64 1), .lit (.int .u64 10), .lit (.int .u64 100), .lit (.int .u64 1000), .lit (.int .u64 10000), .lit (.int .u64 100000), .lit (.int .u64 1000000), .lit (.int .u64 10000000), .lit (.int .u64 100000000), .lit (.int .u64 1000000000), .lit (.int .u64 10000000000), .lit (.int .u64 100000000000), .lit (.int .u64 1000000000000), .lit (.int .u64 10000000000000), .lit (.int .u64 100000000000000), .lit (.int .u64 1000000000000000), .lit (.int .u64 10000000000000000), .lit (.int .u64 100000000000000000), .lit (.int .u64 1000000000000000000), .lit (.int .u64 10000000000000000000)]

/-- 'familychecklaw01.LinearNormalKeeps': WHATEVER THE INPUT: true; the input reads as it did. -/
def linearNormalKeepsSpec : ChangeSpec := { name := "linearNormalKeeps", fn := fun _ => fun
  | [d1, d2] => { results := [.lit (.bool true)], args := [d1, d2] }
  | _ => none }
def linearNormalKeepsRow : OpenClaim := { program := "ytbbglendddepfaadoor", sum := "169cfec520f4b11895ccef05327b33a794c4f9c7a2fc11e75cdab8e8e2665721", func := "familycheck/familychecklaw01.LinearNormalKeeps", spec := "linearNormalKeeps", inPlace := ["internal/abi.NoEscape"], unfollowed := true, recurses := true, named := ["internal/strconv.uint64pow10", "math/bits.deBruijn32tab", "math/bits.deBruijn64tab"], apart := false, laid := [("math/bits.deBruijn32tab", laid_math_bits_deBruijn32tab), ("math/bits.deBruijn64tab", laid_math_bits_deBruijn64tab), ("internal/strconv.uint64pow10", laid_internal_strconv_uint64pow10)] }
def LinearNormalKeepsSaid : Prop := linearNormalKeepsRow.holds Tryd.pinned (OpenSpec.ofChange linearNormalKeepsSpec)

/-- ITS FALSE NEIGHBOUR: 'it returns false'. Refute it at one input. -/
def linearNormalKeepsWrong : ChangeSpec := { name := "linearNormalKeeps", fn := fun _ => fun
  | [d1, d2] => { results := [.lit (.bool false)], args := [d1, d2] }
  | _ => none }
def LinearNormalKeepsWrongFalsely : Prop := linearNormalKeepsRow.holds Tryd.pinned (OpenSpec.ofChange linearNormalKeepsWrong)

/-- 'familychecklaw01.LinearSubstitutes': WHATEVER THE INPUT: true; the input reads as it did. -/
def linearSubstitutesSpec : ChangeSpec := { name := "linearSubstitutes", fn := fun _ => fun
  | [d1, d2] => { results := [.lit (.bool true)], args := [d1, d2] }
  | _ => none }
def linearSubstitutesRow : OpenClaim := { program := "ytbbglendddepfaadoor", sum := "169cfec520f4b11895ccef05327b33a794c4f9c7a2fc11e75cdab8e8e2665721", func := "familycheck/familychecklaw01.LinearSubstitutes", spec := "linearSubstitutes", inPlace := ["internal/abi.NoEscape"], named := ["internal/strconv.uint64pow10", "math/bits.deBruijn32tab", "math/bits.deBruijn64tab"], apart := false, laid := [("math/bits.deBruijn32tab", laid_math_bits_deBruijn32tab), ("math/bits.deBruijn64tab", laid_math_bits_deBruijn64tab), ("internal/strconv.uint64pow10", laid_internal_strconv_uint64pow10)] }
def LinearSubstitutesSaid : Prop := linearSubstitutesRow.holds Tryd.pinned (OpenSpec.ofChange linearSubstitutesSpec)

/-- ITS FALSE NEIGHBOUR: 'it returns false'. Refute it at one input. -/
def linearSubstitutesWrong : ChangeSpec := { name := "linearSubstitutes", fn := fun _ => fun
  | [d1, d2] => { results := [.lit (.bool false)], args := [d1, d2] }
  | _ => none }
def LinearSubstitutesWrongFalsely : Prop := linearSubstitutesRow.holds Tryd.pinned (OpenSpec.ofChange linearSubstitutesWrong)

/-- 'familychecklaw01.LinearSubstituteMeans': WHATEVER THE INPUT: true; the input reads as it did. -/
def linearSubstituteMeansSpec : ChangeSpec := { name := "linearSubstituteMeans", fn := fun _ => fun
  | [d1, d2, d3] => { results := [.lit (.bool true)], args := [d1, d2, d3] }
  | _ => none }
def linearSubstituteMeansRow : OpenClaim := { program := "ytbbglendddepfaadoor", sum := "169cfec520f4b11895ccef05327b33a794c4f9c7a2fc11e75cdab8e8e2665721", func := "familycheck/familychecklaw01.LinearSubstituteMeans", spec := "linearSubstituteMeans", inPlace := ["internal/abi.NoEscape"], named := ["internal/strconv.uint64pow10", "math/bits.deBruijn32tab", "math/bits.deBruijn64tab"], apart := false, laid := [("math/bits.deBruijn32tab", laid_math_bits_deBruijn32tab), ("math/bits.deBruijn64tab", laid_math_bits_deBruijn64tab), ("internal/strconv.uint64pow10", laid_internal_strconv_uint64pow10)] }
def LinearSubstituteMeansSaid : Prop := linearSubstituteMeansRow.holds Tryd.pinned (OpenSpec.ofChange linearSubstituteMeansSpec)

/-- ITS FALSE NEIGHBOUR: 'it returns false'. Refute it at one input. -/
def linearSubstituteMeansWrong : ChangeSpec := { name := "linearSubstituteMeans", fn := fun _ => fun
  | [d1, d2, d3] => { results := [.lit (.bool false)], args := [d1, d2, d3] }
  | _ => none }
def LinearSubstituteMeansWrongFalsely : Prop := linearSubstituteMeansRow.holds Tryd.pinned (OpenSpec.ofChange linearSubstituteMeansWrong)

/-- 'familychecklaw01.LinearEliminates': WHATEVER THE INPUT: true; the input reads as it did. -/
def linearEliminatesSpec : ChangeSpec := { name := "linearEliminates", fn := fun _ => fun
  | [d1, d2] => { results := [.lit (.bool true)], args := [d1, d2] }
  | _ => none }
def linearEliminatesRow : OpenClaim := { program := "ytbbglendddepfaadoor", sum := "169cfec520f4b11895ccef05327b33a794c4f9c7a2fc11e75cdab8e8e2665721", func := "familycheck/familychecklaw01.LinearEliminates", spec := "linearEliminates", inPlace := ["internal/abi.NoEscape"], unfollowed := true, recurses := true, named := ["internal/strconv.uint64pow10", "math/bits.deBruijn32tab", "math/bits.deBruijn64tab"], apart := false, laid := [("math/bits.deBruijn32tab", laid_math_bits_deBruijn32tab), ("math/bits.deBruijn64tab", laid_math_bits_deBruijn64tab), ("internal/strconv.uint64pow10", laid_internal_strconv_uint64pow10)] }
def LinearEliminatesSaid : Prop := linearEliminatesRow.holds Tryd.pinned (OpenSpec.ofChange linearEliminatesSpec)

/-- ITS FALSE NEIGHBOUR: 'it returns false'. Refute it at one input. -/
def linearEliminatesWrong : ChangeSpec := { name := "linearEliminates", fn := fun _ => fun
  | [d1, d2] => { results := [.lit (.bool false)], args := [d1, d2] }
  | _ => none }
def LinearEliminatesWrongFalsely : Prop := linearEliminatesRow.holds Tryd.pinned (OpenSpec.ofChange linearEliminatesWrong)

/-- 'familychecklaw01.LinearEliminateKeeps': WHATEVER THE INPUT: true; the input reads as it did. -/
def linearEliminateKeepsSpec : ChangeSpec := { name := "linearEliminateKeeps", fn := fun _ => fun
  | [d1, d2, d3] => { results := [.lit (.bool true)], args := [d1, d2, d3] }
  | _ => none }
def linearEliminateKeepsRow : OpenClaim := { program := "ytbbglendddepfaadoor", sum := "169cfec520f4b11895ccef05327b33a794c4f9c7a2fc11e75cdab8e8e2665721", func := "familycheck/familychecklaw01.LinearEliminateKeeps", spec := "linearEliminateKeeps", inPlace := ["internal/abi.NoEscape"], unfollowed := true, recurses := true, named := ["internal/strconv.uint64pow10", "math/bits.deBruijn32tab", "math/bits.deBruijn64tab"], apart := false, laid := [("math/bits.deBruijn32tab", laid_math_bits_deBruijn32tab), ("math/bits.deBruijn64tab", laid_math_bits_deBruijn64tab), ("internal/strconv.uint64pow10", laid_internal_strconv_uint64pow10)] }
def LinearEliminateKeepsSaid : Prop := linearEliminateKeepsRow.holds Tryd.pinned (OpenSpec.ofChange linearEliminateKeepsSpec)

/-- ITS FALSE NEIGHBOUR: 'it returns false'. Refute it at one input. -/
def linearEliminateKeepsWrong : ChangeSpec := { name := "linearEliminateKeeps", fn := fun _ => fun
  | [d1, d2, d3] => { results := [.lit (.bool false)], args := [d1, d2, d3] }
  | _ => none }
def LinearEliminateKeepsWrongFalsely : Prop := linearEliminateKeepsRow.holds Tryd.pinned (OpenSpec.ofChange linearEliminateKeepsWrong)

/-- 'familychecklaw01.LinearFormats': WHATEVER THE INPUT: true; the input reads as it did. -/
def linearFormatsSpec : ChangeSpec := { name := "linearFormats", fn := fun _ => fun
  | [d] => { results := [.lit (.bool true)], args := [d] }
  | _ => none }
def linearFormatsRow : OpenClaim := { program := "ytbbglendddepfaadoor", sum := "169cfec520f4b11895ccef05327b33a794c4f9c7a2fc11e75cdab8e8e2665721", func := "familycheck/familychecklaw01.LinearFormats", spec := "linearFormats", inPlace := ["internal/abi.NoEscape"], named := ["internal/strconv.uint64pow10", "math/bits.deBruijn32tab", "math/bits.deBruijn64tab"], apart := false, laid := [("math/bits.deBruijn32tab", laid_math_bits_deBruijn32tab), ("math/bits.deBruijn64tab", laid_math_bits_deBruijn64tab), ("internal/strconv.uint64pow10", laid_internal_strconv_uint64pow10)] }
def LinearFormatsSaid : Prop := linearFormatsRow.holds Tryd.pinned (OpenSpec.ofChange linearFormatsSpec)

/-- ITS FALSE NEIGHBOUR: 'it returns false'. Refute it at one input. -/
def linearFormatsWrong : ChangeSpec := { name := "linearFormats", fn := fun _ => fun
  | [d] => { results := [.lit (.bool false)], args := [d] }
  | _ => none }
def LinearFormatsWrongFalsely : Prop := linearFormatsRow.holds Tryd.pinned (OpenSpec.ofChange linearFormatsWrong)

/-- 'familychecklaw01.LinearLeast': WHATEVER THE INPUT: true; the input reads as it did. -/
def linearLeastSpec : ChangeSpec := { name := "linearLeast", fn := fun _ => fun
  | [d1, d2] => { results := [.lit (.bool true)], args := [d1, d2] }
  | _ => none }
def linearLeastRow : OpenClaim := { program := "ytbbglendddepfaadoor", sum := "169cfec520f4b11895ccef05327b33a794c4f9c7a2fc11e75cdab8e8e2665721", func := "familycheck/familychecklaw01.LinearLeast", spec := "linearLeast", inPlace := ["internal/abi.NoEscape"], named := ["internal/strconv.uint64pow10", "math/bits.deBruijn32tab", "math/bits.deBruijn64tab"], apart := false, laid := [("math/bits.deBruijn32tab", laid_math_bits_deBruijn32tab), ("math/bits.deBruijn64tab", laid_math_bits_deBruijn64tab), ("internal/strconv.uint64pow10", laid_internal_strconv_uint64pow10)] }
def LinearLeastSaid : Prop := linearLeastRow.holds Tryd.pinned (OpenSpec.ofChange linearLeastSpec)

/-- ITS FALSE NEIGHBOUR: 'it returns false'. Refute it at one input. -/
def linearLeastWrong : ChangeSpec := { name := "linearLeast", fn := fun _ => fun
  | [d1, d2] => { results := [.lit (.bool false)], args := [d1, d2] }
  | _ => none }
def LinearLeastWrongFalsely : Prop := linearLeastRow.holds Tryd.pinned (OpenSpec.ofChange linearLeastWrong)

/-- 'familychecklaw01.LinearLeastFirst': WHATEVER THE INPUT: true; the input reads as it did. -/
def linearLeastFirstSpec : ChangeSpec := { name := "linearLeastFirst", fn := fun _ => fun
  | [d1, d2, d3] => { results := [.lit (.bool true)], args := [d1, d2, d3] }
  | _ => none }
def linearLeastFirstRow : OpenClaim := { program := "ytbbglendddepfaadoor", sum := "169cfec520f4b11895ccef05327b33a794c4f9c7a2fc11e75cdab8e8e2665721", func := "familycheck/familychecklaw01.LinearLeastFirst", spec := "linearLeastFirst", inPlace := ["internal/abi.NoEscape"], named := ["internal/strconv.uint64pow10", "math/bits.deBruijn32tab", "math/bits.deBruijn64tab"], apart := false, laid := [("math/bits.deBruijn32tab", laid_math_bits_deBruijn32tab), ("math/bits.deBruijn64tab", laid_math_bits_deBruijn64tab), ("internal/strconv.uint64pow10", laid_internal_strconv_uint64pow10)] }
def LinearLeastFirstSaid : Prop := linearLeastFirstRow.holds Tryd.pinned (OpenSpec.ofChange linearLeastFirstSpec)

/-- ITS FALSE NEIGHBOUR: 'it returns false'. Refute it at one input. -/
def linearLeastFirstWrong : ChangeSpec := { name := "linearLeastFirst", fn := fun _ => fun
  | [d1, d2, d3] => { results := [.lit (.bool false)], args := [d1, d2, d3] }
  | _ => none }
def LinearLeastFirstWrongFalsely : Prop := linearLeastFirstRow.holds Tryd.pinned (OpenSpec.ofChange linearLeastFirstWrong)

/- THE SECOND FORM. 'bulk': how many values and letters a reading holds, each counted each time it is reached (what is shared counts as often as it is met; a slice's spare places count too). A statement '..UptoSaid' is the law's where the arguments, and the package variables that the reading takes, are together of bulk at most 1048576: NARROWER than '..Said'. Prove '..Said' where nothing that the law and all that it calls make is longer than what came in: it says more and counts as full. Else prove '..UptoSaid'. A law counts once. -/
mutual
def uptoBulk {H : Type} : DataW H → Nat
  | .lit (.string bytes) => bytes.length + 1
  | .lit _ => 1
  | .nil => 1
  | .ptr d => uptoBulk d + 1
  | .slice elems spare => uptoBulkAll elems + uptoBulkAll spare + 1
  | .agg parts => uptoBulkAll parts + 1
  | .iface _ d => uptoBulk d + 1
  | .map entries => uptoBulkEntries entries + 1
  | .held _ => 1
def uptoBulkAll {H : Type} : List (DataW H) → Nat
  | [] => 0
  | d :: r => uptoBulk d + uptoBulkAll r
def uptoBulkEntries {H : Type} : List (Lit × DataW H) → Nat
  | [] => 0
  | x :: r => uptoBulkEntry x + uptoBulkEntries r
def uptoBulkEntry {H : Type} : Lit × DataW H → Nat
  | (.string bytes, d) => bytes.length + uptoBulk d + 1
  | (_, d) => uptoBulk d + 1
 end
def uptoSmall : (H : Type) → List (DataW H) → Bool := fun _ ds => decide (uptoBulkAll ds ≤ 1048576)
def OpenSpec.upto (s : _root_.Go.ChangeSpec) : _root_.Go.OpenSpec := { _root_.Go.OpenSpec.ofChange s with cond := some uptoSmall }

/-- 'familychecklaw01.LinearNormalKeeps', WHERE WHAT IT READS IS OF BULK AT MOST 1048576: true; the input reads as it did. -/
def linearNormalKeepsUptoRow : OpenClaim := { program := "ytbbglendddepfaadoor", sum := "169cfec520f4b11895ccef05327b33a794c4f9c7a2fc11e75cdab8e8e2665721", func := "familycheck/familychecklaw01.LinearNormalKeeps", spec := "linearNormalKeeps", inPlace := ["internal/abi.NoEscape"], unfollowed := true, recurses := true, named := ["internal/strconv.uint64pow10", "math/bits.deBruijn32tab", "math/bits.deBruijn64tab"], apart := false, laid := [("math/bits.deBruijn32tab", laid_math_bits_deBruijn32tab), ("math/bits.deBruijn64tab", laid_math_bits_deBruijn64tab), ("internal/strconv.uint64pow10", laid_internal_strconv_uint64pow10)], narrowed := true }
def LinearNormalKeepsUptoSaid : Prop := linearNormalKeepsUptoRow.holds Tryd.pinned (OpenSpec.upto linearNormalKeepsSpec)

/-- 'familychecklaw01.LinearSubstitutes', WHERE WHAT IT READS IS OF BULK AT MOST 1048576: true; the input reads as it did. -/
def linearSubstitutesUptoRow : OpenClaim := { program := "ytbbglendddepfaadoor", sum := "169cfec520f4b11895ccef05327b33a794c4f9c7a2fc11e75cdab8e8e2665721", func := "familycheck/familychecklaw01.LinearSubstitutes", spec := "linearSubstitutes", inPlace := ["internal/abi.NoEscape"], named := ["internal/strconv.uint64pow10", "math/bits.deBruijn32tab", "math/bits.deBruijn64tab"], apart := false, laid := [("math/bits.deBruijn32tab", laid_math_bits_deBruijn32tab), ("math/bits.deBruijn64tab", laid_math_bits_deBruijn64tab), ("internal/strconv.uint64pow10", laid_internal_strconv_uint64pow10)], narrowed := true }
def LinearSubstitutesUptoSaid : Prop := linearSubstitutesUptoRow.holds Tryd.pinned (OpenSpec.upto linearSubstitutesSpec)

/-- 'familychecklaw01.LinearSubstituteMeans', WHERE WHAT IT READS IS OF BULK AT MOST 1048576: true; the input reads as it did. -/
def linearSubstituteMeansUptoRow : OpenClaim := { program := "ytbbglendddepfaadoor", sum := "169cfec520f4b11895ccef05327b33a794c4f9c7a2fc11e75cdab8e8e2665721", func := "familycheck/familychecklaw01.LinearSubstituteMeans", spec := "linearSubstituteMeans", inPlace := ["internal/abi.NoEscape"], named := ["internal/strconv.uint64pow10", "math/bits.deBruijn32tab", "math/bits.deBruijn64tab"], apart := false, laid := [("math/bits.deBruijn32tab", laid_math_bits_deBruijn32tab), ("math/bits.deBruijn64tab", laid_math_bits_deBruijn64tab), ("internal/strconv.uint64pow10", laid_internal_strconv_uint64pow10)], narrowed := true }
def LinearSubstituteMeansUptoSaid : Prop := linearSubstituteMeansUptoRow.holds Tryd.pinned (OpenSpec.upto linearSubstituteMeansSpec)

/-- 'familychecklaw01.LinearEliminates', WHERE WHAT IT READS IS OF BULK AT MOST 1048576: true; the input reads as it did. -/
def linearEliminatesUptoRow : OpenClaim := { program := "ytbbglendddepfaadoor", sum := "169cfec520f4b11895ccef05327b33a794c4f9c7a2fc11e75cdab8e8e2665721", func := "familycheck/familychecklaw01.LinearEliminates", spec := "linearEliminates", inPlace := ["internal/abi.NoEscape"], unfollowed := true, recurses := true, named := ["internal/strconv.uint64pow10", "math/bits.deBruijn32tab", "math/bits.deBruijn64tab"], apart := false, laid := [("math/bits.deBruijn32tab", laid_math_bits_deBruijn32tab), ("math/bits.deBruijn64tab", laid_math_bits_deBruijn64tab), ("internal/strconv.uint64pow10", laid_internal_strconv_uint64pow10)], narrowed := true }
def LinearEliminatesUptoSaid : Prop := linearEliminatesUptoRow.holds Tryd.pinned (OpenSpec.upto linearEliminatesSpec)

/-- 'familychecklaw01.LinearEliminateKeeps', WHERE WHAT IT READS IS OF BULK AT MOST 1048576: true; the input reads as it did. -/
def linearEliminateKeepsUptoRow : OpenClaim := { program := "ytbbglendddepfaadoor", sum := "169cfec520f4b11895ccef05327b33a794c4f9c7a2fc11e75cdab8e8e2665721", func := "familycheck/familychecklaw01.LinearEliminateKeeps", spec := "linearEliminateKeeps", inPlace := ["internal/abi.NoEscape"], unfollowed := true, recurses := true, named := ["internal/strconv.uint64pow10", "math/bits.deBruijn32tab", "math/bits.deBruijn64tab"], apart := false, laid := [("math/bits.deBruijn32tab", laid_math_bits_deBruijn32tab), ("math/bits.deBruijn64tab", laid_math_bits_deBruijn64tab), ("internal/strconv.uint64pow10", laid_internal_strconv_uint64pow10)], narrowed := true }
def LinearEliminateKeepsUptoSaid : Prop := linearEliminateKeepsUptoRow.holds Tryd.pinned (OpenSpec.upto linearEliminateKeepsSpec)

/-- 'familychecklaw01.LinearFormats', WHERE WHAT IT READS IS OF BULK AT MOST 1048576: true; the input reads as it did. -/
def linearFormatsUptoRow : OpenClaim := { program := "ytbbglendddepfaadoor", sum := "169cfec520f4b11895ccef05327b33a794c4f9c7a2fc11e75cdab8e8e2665721", func := "familycheck/familychecklaw01.LinearFormats", spec := "linearFormats", inPlace := ["internal/abi.NoEscape"], named := ["internal/strconv.uint64pow10", "math/bits.deBruijn32tab", "math/bits.deBruijn64tab"], apart := false, laid := [("math/bits.deBruijn32tab", laid_math_bits_deBruijn32tab), ("math/bits.deBruijn64tab", laid_math_bits_deBruijn64tab), ("internal/strconv.uint64pow10", laid_internal_strconv_uint64pow10)], narrowed := true }
def LinearFormatsUptoSaid : Prop := linearFormatsUptoRow.holds Tryd.pinned (OpenSpec.upto linearFormatsSpec)

/-- 'familychecklaw01.LinearLeast', WHERE WHAT IT READS IS OF BULK AT MOST 1048576: true; the input reads as it did. -/
def linearLeastUptoRow : OpenClaim := { program := "ytbbglendddepfaadoor", sum := "169cfec520f4b11895ccef05327b33a794c4f9c7a2fc11e75cdab8e8e2665721", func := "familycheck/familychecklaw01.LinearLeast", spec := "linearLeast", inPlace := ["internal/abi.NoEscape"], named := ["internal/strconv.uint64pow10", "math/bits.deBruijn32tab", "math/bits.deBruijn64tab"], apart := false, laid := [("math/bits.deBruijn32tab", laid_math_bits_deBruijn32tab), ("math/bits.deBruijn64tab", laid_math_bits_deBruijn64tab), ("internal/strconv.uint64pow10", laid_internal_strconv_uint64pow10)], narrowed := true }
def LinearLeastUptoSaid : Prop := linearLeastUptoRow.holds Tryd.pinned (OpenSpec.upto linearLeastSpec)

/-- 'familychecklaw01.LinearLeastFirst', WHERE WHAT IT READS IS OF BULK AT MOST 1048576: true; the input reads as it did. -/
def linearLeastFirstUptoRow : OpenClaim := { program := "ytbbglendddepfaadoor", sum := "169cfec520f4b11895ccef05327b33a794c4f9c7a2fc11e75cdab8e8e2665721", func := "familycheck/familychecklaw01.LinearLeastFirst", spec := "linearLeastFirst", inPlace := ["internal/abi.NoEscape"], named := ["internal/strconv.uint64pow10", "math/bits.deBruijn32tab", "math/bits.deBruijn64tab"], apart := false, laid := [("math/bits.deBruijn32tab", laid_math_bits_deBruijn32tab), ("math/bits.deBruijn64tab", laid_math_bits_deBruijn64tab), ("internal/strconv.uint64pow10", laid_internal_strconv_uint64pow10)], narrowed := true }
def LinearLeastFirstUptoSaid : Prop := linearLeastFirstUptoRow.holds Tryd.pinned (OpenSpec.upto linearLeastFirstSpec)

end Rows
end Go.Proofs.YtbbglendddepfaaDoor
