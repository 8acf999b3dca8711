import Derived.Lib.Hide
import Derived.Test.YtgbgfkhkjlakbaaGreatGrplnmjbbdm
set_option linter.all false
namespace Go.Proofs.YtgbgfkhkjlakbaaGreat
open Go.RowKit Go.Deep
end Go.Proofs.YtgbgfkhkjlakbaaGreat
