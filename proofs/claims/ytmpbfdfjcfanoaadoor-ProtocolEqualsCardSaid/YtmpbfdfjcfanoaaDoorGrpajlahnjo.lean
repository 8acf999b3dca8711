import Derived.Test.YtmpbfdfjcfanoaaDoorGrpghkcfdaa
set_option linter.all false
namespace Go.Proofs.YtmpbfdfjcfanoaaDoor
open Go.RowKit Go.Deep
end Go.Proofs.YtmpbfdfjcfanoaaDoor
