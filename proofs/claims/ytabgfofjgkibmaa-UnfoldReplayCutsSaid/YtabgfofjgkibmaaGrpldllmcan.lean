import Derived.Test.YtabgfofjgkibmaaGrponeppnad
set_option linter.all false
namespace Go.Proofs.Ytabgfofjgkibmaa
open Go.RowKit Go.Deep
variable {J:World→Prop}
end Go.Proofs.Ytabgfofjgkibmaa
