import Derived.Test.YtmpbfdfjcfanoaaDoorGrpgchmcopf
import Derived.Test.YtmpbfdfjcfanoaaDoorGrpgofjlijc
set_option linter.all false
namespace Go.Proofs.YtmpbfdfjcfanoaaDoor
open Go.RowKit Go.Deep
end Go.Proofs.YtmpbfdfjcfanoaaDoor
