import Derived.Deep.Quiet
import Derived.StillTail
import Derived.LoopTactic
import Derived.Lib.Hide
import Derived.Outline
import Derived.Test.YtmpbfdfjcfanoaaDoorProg
import Derived.WalkSpells
import Derived.WalkLawsBesides
import Derived.LoopN
import Derived.Test.YtmpbfdfjcfanoaaDoorGrpcapphkoo
import Derived.Test.YtmpbfdfjcfanoaaDoorGrpbnooenap
import Derived.Test.YtmpbfdfjcfanoaaDoorGrpdnckhhhf
import Derived.Test.YtmpbfdfjcfanoaaDoorGrpneebdajk
import Derived.Test.YtmpbfdfjcfanoaaDoorGrpjfkenafn
set_option linter.all false
namespace Go.Proofs.YtmpbfdfjcfanoaaDoor
open Go
section
variable {P : Program} {ops : Array Oper} {md : Region.Mode} {C : World → Prop}

end
end Go.Proofs.YtmpbfdfjcfanoaaDoor

namespace Go.Proofs.YtmpbfdfjcfanoaaDoor
open Go.RowKit Go.Deep
theorem RuEl.below {lo : Nat} {w w' : World} {cs : List Value} {r : Ru} (h : RuEl lo w cs r) (hb : Below w.heap.size w w') : RuEl lo w' cs r := by
  have t := RuEl.stays
  unfold Stays at t
  exact t lo w w' cs r h hb
/-- A world of a class. -/
structure WIn (S : World → Prop) where
  val : World
  ok : S val
instance instWIn (W : World) : Nonempty (WIn (Below W.heap.size W)) := ⟨⟨W.drew, drewBelow W⟩⟩
section
variable {P : Program} {id : Nat} {Q : Exit → Act → World → Prop} {a : Act} {W : World} {l : List Oper}
end
end Go.Proofs.YtmpbfdfjcfanoaaDoor

namespace Go.Proofs.YtmpbfdfjcfanoaaDoor
open Go.RowKit Go.Deep
end Go.Proofs.YtmpbfdfjcfanoaaDoor

namespace Go.Proofs.YtmpbfdfjcfanoaaDoor
open Go.RowKit Go.Deep
end Go.Proofs.YtmpbfdfjcfanoaaDoor

namespace Go.Proofs.YtmpbfdfjcfanoaaDoor
open Go.RowKit Go.Deep

end Go.Proofs.YtmpbfdfjcfanoaaDoor

namespace Go.Proofs.YtmpbfdfjcfanoaaDoor
open Go.RowKit Go.Deep
end Go.Proofs.YtmpbfdfjcfanoaaDoor

namespace Go.Proofs.YtmpbfdfjcfanoaaDoor
open Go.RowKit Go.Deep
end Go.Proofs.YtmpbfdfjcfanoaaDoor

namespace Go.Proofs.YtmpbfdfjcfanoaaDoor
open Go.RowKit Go.Deep
end Go.Proofs.YtmpbfdfjcfanoaaDoor
