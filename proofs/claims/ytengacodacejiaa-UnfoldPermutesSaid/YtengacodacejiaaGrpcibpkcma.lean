import Derived.Test.YtengacodacejiaaGrpbeiimdel
import Derived.Test.YtengacodacejiaaGrphdpjocfb
set_option linter.all false
namespace Go.Proofs.Ytengacodacejiaa
open Go.RowKit Go.Deep
end Go.Proofs.Ytengacodacejiaa
