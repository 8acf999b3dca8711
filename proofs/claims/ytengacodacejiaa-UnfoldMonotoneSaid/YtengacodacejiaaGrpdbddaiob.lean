import Derived.Test.YtengacodacejiaaGrpelngjmom
import Derived.Test.YtengacodacejiaaGrpiejjlefa
set_option linter.all false
namespace Go.Proofs.Ytengacodacejiaa
open Go.RowKit Go.Deep
def clTh (q:Fm):Bool:=decide (q.top=1)&&(decide (q.vals.length=0) && !q.rules.any noThrB)
def clCo (q:Fm):Bool:=plainQ q && !q.rules.any demB
def clWo (q:Fm):Bool:=decide (q.top=2)||decide (q.top=3)
def clTr (q:Fm):Bool:=decide (q.top=4)
def clMo (q:Fm):Bool:=plainQ q&&decide (q.states.length≤4)
end Go.Proofs.Ytengacodacejiaa
