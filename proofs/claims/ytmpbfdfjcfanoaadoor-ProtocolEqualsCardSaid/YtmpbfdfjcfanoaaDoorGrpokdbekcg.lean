import Derived.Test.YtmpbfdfjcfanoaaDoorGrpjfkenafn
import Derived.Test.YtmpbfdfjcfanoaaDoorGrpajlahnjo
import Derived.Test.YtmpbfdfjcfanoaaDoorGrpmgbgmblj
import Derived.Test.YtmpbfdfjcfanoaaDoorGrphgjekgob
import Derived.Test.YtmpbfdfjcfanoaaDoorGrpmnfkggic
import Derived.Test.YtmpbfdfjcfanoaaDoorGrpjdnchbff
import Derived.Test.YtmpbfdfjcfanoaaDoorGrpaganhbep
import Derived.Test.YtmpbfdfjcfanoaaDoorGrpghkcfdaa
set_option linter.all false
namespace Go.Proofs.YtmpbfdfjcfanoaaDoor
open Go.RowKit Go.Deep
variable {J : World → Prop}
theorem lo0 {w : World} : ∀ b, b < w.heap.size → 0 ≤ b := fun _ _ => Nat.zero_le _
theorem Big_c {q : Fm} (hq : FmOk q) : Ctr Tryd.prog J 13 [.agg (cFm q)] (bv (bigF q)) := ctr1 fun w v _ h => (Big_any (fam_of hq lo0 h)).mono fun _ _ => ret_sc
theorem known_c : Ctr Tryd.prog TabW 14 [] (bv true) := fun w vs hJ hl _ => by
  obtain rfl : vs = #[] := by cases vs; simp at hl; subst hl; rfl
  exact (vknown_any w (hJ w (Below.refl _ _))).mono fun _ _ => ret_sc
end Go.Proofs.YtmpbfdfjcfanoaaDoor

namespace Go.Proofs.YtmpbfdfjcfanoaaDoor
open Go.RowKit Go.Deep
end Go.Proofs.YtmpbfdfjcfanoaaDoor
