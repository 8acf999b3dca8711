import Derived.Test.YtengacodacejiaaGrpkipfpjem
import Derived.Test.YtengacodacejiaaGrpohfnihkj
set_option linter.all false
namespace Go.Proofs.Ytengacodacejiaa
open Go.RowKit Go.Deep
end Go.Proofs.Ytengacodacejiaa
