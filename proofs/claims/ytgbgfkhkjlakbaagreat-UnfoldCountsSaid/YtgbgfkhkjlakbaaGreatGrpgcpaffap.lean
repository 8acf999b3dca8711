import Derived.Test.YtgbgfkhkjlakbaaGreatGrpkjidmchj
import Derived.Test.YtgbgfkhkjlakbaaGreatGrpjahgiddf
set_option linter.all false
namespace Go.Proofs.YtgbgfkhkjlakbaaGreat
open Go.RowKit Go.Deep
end Go.Proofs.YtgbgfkhkjlakbaaGreat
