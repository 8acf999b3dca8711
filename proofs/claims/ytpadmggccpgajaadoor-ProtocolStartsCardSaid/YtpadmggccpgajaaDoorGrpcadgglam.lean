import Derived.Lib.Hide
import Derived.Test.YtpadmggccpgajaaDoorGrphfdclkag
set_option linter.all false
namespace Go.Proofs.YtpadmggccpgajaaDoor
open Go.RowKit Go.Deep

end Go.Proofs.YtpadmggccpgajaaDoor
