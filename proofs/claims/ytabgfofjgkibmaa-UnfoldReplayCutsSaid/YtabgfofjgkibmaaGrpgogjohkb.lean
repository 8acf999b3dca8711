import Derived.Test.YtabgfofjgkibmaaGrpbomgbaal
import Derived.Test.YtabgfofjgkibmaaGrpodgfjebp
set_option linter.all false
namespace Go.Proofs.Ytabgfofjgkibmaa
open Go.RowKit Go.Deep
end Go.Proofs.Ytabgfofjgkibmaa
