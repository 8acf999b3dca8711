import Derived.Test.YthefecaefbeidaaGreatGrpdbjmpndh
import Derived.Test.YthefecaefbeidaaGreatGrpklfkjebk
import Derived.Test.YthefecaefbeidaaGreatGrpjikmclcc
import Derived.Test.YthefecaefbeidaaGreatGrpaboakmmf
set_option linter.all false
namespace Go.Proofs.YthefecaefbeidaaGreat
open Go.RowKit Go.Deep
theorem famw {w:World} {v:Value} {q:Fm} (h:IsFam 0 w v q):Pu (fun _=>True) w (fun b=>b<w.heap.size) (.agg (cFm q)) v:=fam_pu (fun _ _ h=>h) h
section
variable {J:World→Prop}
end
end Go.Proofs.YthefecaefbeidaaGreat
