import Derived.Lib.Hide
import Derived.Test.YtmpbfdfjcfanoaaDoorGrpgopklpbi
set_option linter.all false
namespace Go.Proofs.YtmpbfdfjcfanoaaDoor
open Go.RowKit Go.Deep

end Go.Proofs.YtmpbfdfjcfanoaaDoor
