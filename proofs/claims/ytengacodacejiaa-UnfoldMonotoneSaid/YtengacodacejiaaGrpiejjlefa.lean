import Derived.Test.YtengacodacejiaaGrpecfdemen
import Derived.Test.YtengacodacejiaaGrpioggncjk
set_option linter.all false
namespace Go.Proofs.Ytengacodacejiaa
open Go.RowKit Go.Deep
def noThrB (r:Ru):Bool:=decide (r.kind≠1)||decide (r.to≤r.frm)||decide (0<r.ex.length)||decide (0<r.fa.length)
def demB (r:Ru):Bool:=decide (0<r.fa.length)
def plainQ (q:Fm):Bool:=decide (q.top=1)&&decide (q.fault=0)&&decide (q.msgs.length=0)&&decide (q.res.length=0)
end Go.Proofs.Ytengacodacejiaa
