import Derived.Test.YtoefmdjgnabgfaaGrpaflcfklf
set_option linter.all false
namespace Go.Proofs.Ytoefmdjgnabgfaa
open Go.RowKit Go.Deep
variable {J : World → Prop}
end Go.Proofs.Ytoefmdjgnabgfaa
