import Derived.Lib.Hide
import Derived.Test.YtoefmdjgnabgfaaGrpnfmidmgj
set_option linter.all false
namespace Go.Proofs.Ytoefmdjgnabgfaa
open Go.RowKit Go.Deep
end Go.Proofs.Ytoefmdjgnabgfaa
