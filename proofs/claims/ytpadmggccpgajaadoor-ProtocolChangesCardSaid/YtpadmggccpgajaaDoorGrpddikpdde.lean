import Derived.Test.YtpadmggccpgajaaDoorGrppiojbbec
import Derived.Test.YtpadmggccpgajaaDoorGrpopcoolac
set_option linter.all false
namespace Go.Proofs.YtpadmggccpgajaaDoor
open Go.RowKit Go.Deep
end Go.Proofs.YtpadmggccpgajaaDoor
