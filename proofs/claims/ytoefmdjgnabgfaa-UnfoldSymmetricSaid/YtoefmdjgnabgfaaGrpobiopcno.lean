import Derived.Test.YtoefmdjgnabgfaaGrpnghnlbhh
import Derived.Test.YtoefmdjgnabgfaaGrpmamlilom
set_option linter.all false
namespace Go.Proofs.Ytoefmdjgnabgfaa
open Go.RowKit Go.Deep
end Go.Proofs.Ytoefmdjgnabgfaa
