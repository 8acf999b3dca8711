import Derived.Lib.Hide
import Derived.Test.YthefecaefbeidaaGreatGrpcdkhhigo
import Derived.Test.YthefecaefbeidaaGreatGrpahggjllk
import Derived.Test.YthefecaefbeidaaGreatGrpkapnohjd
set_option linter.all false
namespace Go.Proofs.YthefecaefbeidaaGreat
open Go.RowKit Go.Deep
end Go.Proofs.YthefecaefbeidaaGreat
