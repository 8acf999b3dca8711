import Derived.Test.YtabgfofjgkibmaaGrpfihcfbic
import Derived.Test.YtabgfofjgkibmaaGrpdgndkbjf
set_option linter.all false
namespace Go.Proofs.Ytabgfofjgkibmaa
open Go.RowKit Go.Deep
end Go.Proofs.Ytabgfofjgkibmaa
