import Derived.Test.YtabgfofjgkibmaaGrpnnocpcek
import Derived.Test.YtabgfofjgkibmaaGrpgogjohkb
import Derived.Test.YtabgfofjgkibmaaGrpgiibnijo
import Derived.Test.YtabgfofjgkibmaaGrpeoelnghp
import Derived.Test.YtabgfofjgkibmaaGrpghfndohf
import Derived.Test.YtabgfofjgkibmaaGrpcbdploig
import Derived.Test.YtabgfofjgkibmaaGrpajaamfjl
set_option linter.all false
namespace Go.Proofs.Ytabgfofjgkibmaa
open Go.RowKit Go.Deep
variable {J:World→Prop}
theorem lo0 {w:World}:∀ b,b<w.heap.size→0≤b:=fun _ _=>Nat.zero_le _
theorem qValidate_c {q:Fm} (hq:FmOk q):Ctr Try.prog J 30 [.agg (cFm q)] (iv (valE q)):=ctr1 fun w v _ h=>(Validate_any (fam_of hq lo0 h)).mono fun _ _=>ret_sc
theorem Big_c {q:Fm} (hq:FmOk q):Ctr Try.prog J 4 [.agg (cFm q)] (bv (bigF q)):=ctr1 fun w v _ h=>(Big_any (fam_of hq lo0 h)).mono fun _ _=>ret_sc
end Go.Proofs.Ytabgfofjgkibmaa
