import Derived.Test.YtengacodacejiaaGrpcibpkcma
import Derived.Test.YtengacodacejiaaGrpggejkcnp
set_option linter.all false
namespace Go.Proofs.Ytengacodacejiaa
open Go.RowKit Go.Deep
end Go.Proofs.Ytengacodacejiaa
