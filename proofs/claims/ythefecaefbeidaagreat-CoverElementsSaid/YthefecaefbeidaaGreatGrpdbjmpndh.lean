import Derived.Test.YthefecaefbeidaaGreatGrplffdbgib
import Derived.Test.YthefecaefbeidaaGreatGrpookghmhh
set_option linter.all false
namespace Go.Proofs.YthefecaefbeidaaGreat
open Go.RowKit Go.Deep
end Go.Proofs.YthefecaefbeidaaGreat
