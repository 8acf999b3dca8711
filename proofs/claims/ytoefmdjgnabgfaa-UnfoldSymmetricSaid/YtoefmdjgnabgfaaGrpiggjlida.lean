import Derived.Test.YtoefmdjgnabgfaaGrpobiopcno
import Derived.Test.YtoefmdjgnabgfaaGrpgeknhoge
set_option linter.all false
namespace Go.Proofs.Ytoefmdjgnabgfaa
open Go.RowKit Go.Deep
end Go.Proofs.Ytoefmdjgnabgfaa
