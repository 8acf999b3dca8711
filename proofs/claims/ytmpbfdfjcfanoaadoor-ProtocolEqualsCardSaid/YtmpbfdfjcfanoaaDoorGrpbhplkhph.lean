import Derived.Test.YtmpbfdfjcfanoaaDoorGrpokdbekcg
set_option linter.all false
namespace Go.Proofs.YtmpbfdfjcfanoaaDoor
open Go.RowKit Go.Deep
variable {J : World → Prop}
end Go.Proofs.YtmpbfdfjcfanoaaDoor
