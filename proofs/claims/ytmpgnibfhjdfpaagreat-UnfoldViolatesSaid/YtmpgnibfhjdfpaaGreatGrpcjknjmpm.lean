import Derived.Test.YtmpgnibfhjdfpaaGreatGrpmpnnchka
import Derived.Test.YtmpgnibfhjdfpaaGreatGrpikjlcdag
set_option linter.all false
namespace Go.Proofs.YtmpgnibfhjdfpaaGreat
open Go.RowKit Go.Deep
def resvB (q:Fm) (n t f:Int):Bool:=q.res.all λl=>decide (0<=linV l.c l.n l.t l.f n t f)
def admB (q:Fm) (n t f:Int):Bool :=
 inB 1 1048576 n&&inB 0 n t&&inB 0 n f && !(decide (q.fzz=0) && !(decide (t=0)&&decide (f=0))) && !(decide (q.top=4)&&decide (n.tmod 2=0))&&resvB q n t f
variable {k:Nat}
theorem Zdx {α:Type} {p:α->Bool} {xs:List α} (h:k<xs.length) (hk:(xs.take k).all p=true) (e:p xs[k]=true):(xs.take (k+1)).all p=true:=by
 rw [List.take_succ_eq_append_getElem h,List.all_append,hk];simpa using e
theorem all_no {α:Type} {p:α->Bool} {xs:List α} (h:k<xs.length) (e:p xs[k]=false):xs.all p=false:=by
 rw [List.all_eq_false];exact ⟨xs[k],List.getElem_mem h,by simpa using e⟩
end Go.Proofs.YtmpgnibfhjdfpaaGreat
