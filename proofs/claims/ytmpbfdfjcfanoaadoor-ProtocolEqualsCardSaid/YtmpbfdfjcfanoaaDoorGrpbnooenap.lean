import Derived.Deep.DeepCutAuto
import Derived.Outline
import Derived.Test.YtmpbfdfjcfanoaaDoorGrpgfolglke
import Derived.Test.YtmpbfdfjcfanoaaDoorGrpneebdajk
set_option linter.all false
namespace Go.Proofs.YtmpbfdfjcfanoaaDoor
open Go.RowKit Go.Deep
end Go.Proofs.YtmpbfdfjcfanoaaDoor
