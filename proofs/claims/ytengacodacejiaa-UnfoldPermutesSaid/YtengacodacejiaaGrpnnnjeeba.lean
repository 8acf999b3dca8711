import Derived.Test.YtengacodacejiaaGrphfinfhoa
import Derived.Test.YtengacodacejiaaGrppafemefo
set_option linter.all false
namespace Go.Proofs.Ytengacodacejiaa
open Go.RowKit Go.Deep
variable {J:World→Prop}
end Go.Proofs.Ytengacodacejiaa
