import Derived.Deep.QuietTactic
import Derived.BigQuiet
import Derived.Test.YtmpbfdfjcfanoaaDoorGrpelbpjhde
import Derived.Test.YtmpbfdfjcfanoaaDoorGrpjfkenafn
set_option linter.all false
namespace Go.Proofs.YtmpbfdfjcfanoaaDoor
open Go.RowKit Go.Deep
end Go.Proofs.YtmpbfdfjcfanoaaDoor
