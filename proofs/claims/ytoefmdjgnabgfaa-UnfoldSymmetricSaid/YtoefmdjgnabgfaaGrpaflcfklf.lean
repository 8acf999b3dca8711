import Derived.Test.YtoefmdjgnabgfaaProg
import Derived.Test.YtoefmdjgnabgfaaGrpipbfodfj
import Derived.Test.YtoefmdjgnabgfaaGrpniiolkhp
import Derived.Test.YtoefmdjgnabgfaaGrpiggjlida
import Derived.Test.YtoefmdjgnabgfaaGrpopnghklf
import Derived.Test.YtoefmdjgnabgfaaGrphdgeedag
import Derived.Test.YtoefmdjgnabgfaaGrpimhdfpof
import Derived.Test.YtoefmdjgnabgfaaGrpdkaokjed
import Derived.Test.YtoefmdjgnabgfaaGrpmamlilom
set_option linter.all false
namespace Go.Proofs.Ytoefmdjgnabgfaa
open Go.RowKit Go.Deep
variable {J : World → Prop}
theorem lo0 {w : World} : ∀ b, b < w.heap.size → 0 ≤ b := fun _ _ => Nat.zero_le _
theorem Ke {q : Fm} (hq : FmOk q) : Ctr Try.prog J 21 [.agg (cFm q)] (iv (valE q)) := ctr1 fun w v _ h => (Validate_any (fam_of hq lo0 h)).mono fun _ _ => ret_sc
theorem Big_c {q : Fm} (hq : FmOk q) : Ctr Try.prog J 5 [.agg (cFm q)] (bv (bigF q)) := ctr1 fun w v _ h => (Big_any (fam_of hq lo0 h)).mono fun _ _ => ret_sc
end Go.Proofs.Ytoefmdjgnabgfaa

namespace Go.Proofs.Ytoefmdjgnabgfaa
open Go.RowKit Go.Deep
end Go.Proofs.Ytoefmdjgnabgfaa

namespace Go.Proofs.Ytoefmdjgnabgfaa
open Go.RowKit Go.Deep
theorem U3 : type_of% Try.underlying3 := Try.underlying3
theorem U4 : type_of% Try.underlying4 := Try.underlying4
theorem U9 : type_of% Try.underlying9 := Try.underlying9
theorem U22 : type_of% Try.underlying22 := Try.underlying22
theorem U24 : type_of% Try.underlying24 := Try.underlying24
theorem U27 : type_of% Try.underlying27 := Try.underlying27
theorem U28 : type_of% Try.underlying28 := Try.underlying28
theorem U30 : type_of% Try.underlying30 := Try.underlying30
theorem U32 : type_of% Try.underlying32 := Try.underlying32
theorem U53 : type_of% Try.underlying53 := Try.underlying53
theorem U66 : type_of% Try.underlying66 := Try.underlying66
theorem U76 : type_of% Try.underlying76 := Try.underlying76
theorem U109 : type_of% Try.underlying109 := Try.underlying109
end Go.Proofs.Ytoefmdjgnabgfaa
