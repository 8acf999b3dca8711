import Derived.Test.YtabgfofjgkibmaaGrpmkmihidi
import Derived.Test.YtabgfofjgkibmaaGrpjapahofk
set_option linter.all false
namespace Go.Proofs.Ytabgfofjgkibmaa
open Go.RowKit Go.Deep
variable {J:World→Prop}
theorem fst1 {xs:List ByteArray}:ZH xs=slA 1 (fun s=>[sv s]) xs:=by
  have e0:∀ xs:List ByteArray,xs.map sv=xs.flatMap fun s=>[sv s]:=fun xs=>by
    induction xs with
    | nil=>rfl
    | cons x xs ih=>simp only [List.map_cons,List.flatMap_cons,ih];rfl
  unfold ZH slA;rw [e0]
theorem th_pu {F ok:Nat→Prop} {lo:Nat} {w:World} (g:Th) (vs:List Value) (h:ThEl lo w vs g):∀ j (hj:j<(cTh g).length),Pu F w ok (cTh g)[j] (vs.getD j undef):=by
  obtain ⟨rfl,_⟩:=h
  intro j hj
  match j,hj with
  | 0,_=>exact .v _
  | 1,_=>exact .v _
  | 2,_=>exact .v _
  | 3,_=>exact .v _
  | 4,_=>exact .v _
  | 5,_=>exact .v _
end Go.Proofs.Ytabgfofjgkibmaa
