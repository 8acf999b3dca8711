import Derived.Test.YtengacodacejiaaGrpjijlkimh
import Derived.Test.YtengacodacejiaaGrpfkkmoooo
set_option linter.all false
namespace Go.Proofs.Ytengacodacejiaa
open Go.RowKit Go.Deep
end Go.Proofs.Ytengacodacejiaa
