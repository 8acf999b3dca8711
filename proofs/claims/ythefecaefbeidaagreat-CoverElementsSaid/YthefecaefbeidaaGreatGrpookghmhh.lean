import Derived.Lib.Hide
import Derived.Test.YthefecaefbeidaaGreatGrpcdkhhigo
set_option linter.all false
namespace Go.Proofs.YthefecaefbeidaaGreat
open Go.RowKit Go.Deep
end Go.Proofs.YthefecaefbeidaaGreat
