import Derived.Test.YtmpbfdfjcfanoaaDoorGrpaganhbep
import Derived.Test.YtmpbfdfjcfanoaaDoorGrphhcnbmmj
set_option linter.all false
namespace Go.Proofs.YtmpbfdfjcfanoaaDoor
open Go.RowKit Go.Deep
end Go.Proofs.YtmpbfdfjcfanoaaDoor
