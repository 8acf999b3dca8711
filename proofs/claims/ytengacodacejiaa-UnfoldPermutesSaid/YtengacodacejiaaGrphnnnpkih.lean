import Derived.Test.YtengacodacejiaaGrppafemefo
import Derived.Test.YtengacodacejiaaGrpbenpiplc
import Derived.Test.YtengacodacejiaaGrppfdkpffm
import Derived.Test.YtengacodacejiaaGrpnbjnjapj
import Derived.Test.YtengacodacejiaaGrpemgggjoe
import Derived.Test.YtengacodacejiaaGrpngnojgpl
import Derived.Test.YtengacodacejiaaGrpegkifceh
set_option linter.all false
namespace Go.Proofs.Ytengacodacejiaa
open Go.RowKit Go.Deep
variable {J:World→Prop}
theorem lo0 {w:World}:∀ b,b<w.heap.size→0≤b:=fun _ _=>Nat.zero_le _
theorem qValidate_c {q:Fm} (hq:FmOk q):Ctr Try.prog J 59 [.agg (cFm q)] (iv (valE q)):=ctr1 fun w v _ h=>(Validate_any (fam_of hq lo0 h)).mono fun _ _=>ret_sc
theorem Big_c {q:Fm} (hq:FmOk q):Ctr Try.prog J 6 [.agg (cFm q)] (bv (bigF q)):=ctr1 fun w v _ h=>(Big_any (fam_of hq lo0 h)).mono fun _ _=>ret_sc
end Go.Proofs.Ytengacodacejiaa
