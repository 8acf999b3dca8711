import Derived.Test.YtmpgnibfhjdfpaaGreatProg
import Derived.WalkSpells
import Derived.WalkLawsBesides
import Derived.Deep.QuietTactic
import Derived.BigQuiet
import Derived.Laws.AppendOwnNone
import Derived.Deep.RegionWith
import Derived.StillTailTactics
import Derived.Deep.RegionHeld3
import Derived.Lib.AppendZeros
import Derived.Lib.Hide
import Derived.Lib.Walk
import Derived.LoopTactic
import Derived.Outline
import Derived.Laws.RangeString
import Derived.Laws.RangeAny
import Derived.Deep.DeepCutAuto
import Derived.Test.YtmpgnibfhjdfpaaGreatGrphhmpajpk
import Derived.Test.YtmpgnibfhjdfpaaGreatGrpcjplndde
import Derived.Test.YtmpgnibfhjdfpaaGreatGrpaggajjjj
import Derived.Test.YtmpgnibfhjdfpaaGreatGrpnbibgnod
set_option linter.all false
namespace Go.Proofs.YtmpgnibfhjdfpaaGreat
open Go.RowKit Go.Deep Tryz
variable {J:World->Prop}
theorem Za4 {α:Type} {l:List α}:l≠[]↔0<(l.length:Int):=by
 cases l with
 | nil=>simp
 | cons a l=>simp
variable {q:Fm}{r:Ru}
theorem ZdM :KL r q.top=(decide (¬ r.kind=1/\(0<(r.gz.length:Int)\/0<(r.ex.length:Int)\/0<(r.fa.length:Int)\/0<(r.send.length:Int)))||(decide (¬ r.kind=1/\¬ r.kind=2/\¬ r.kind=3/\(¬ r.rd = -1\/¬ r.wr = -1))||(decide (¬ r.kind=2/\¬ r.kind=5/\(¬ r.pf=0\/¬ r.pt=0))||(decide ((¬ r.kind=3/\0<(r.resp.length:Int))\/(¬ r.kind=5/\¬ r.dir=0))||(decide (¬ r.kind=4/\(¬ r.pos=0\/0<(r.left.length:Int)\/0<(r.right.length:Int)))||decide (0<(r.pz.length:Int)/\¬ (r.kind=4/\q.top=4))))))):=by
 have e (a b:Prop) [Decidable a] [Decidable b] (x:Bool) (h:a↔b):(if a then true else x)=(decide b||x):=by
  by_cases g:a
  ·rw [if_pos g,decide_eq_true (h.1 g)];rfl
  rw [if_neg g,decide_eq_false (λk=>g (h.2 k))];rfl
 unfold KL
 rw [e _ (¬ r.kind=1/\(0<(r.gz.length:Int)\/0<(r.ex.length:Int)\/0<(r.fa.length:Int)\/0<(r.send.length:Int))) _ (by rw [Za4,Za4,Za4,Za4]),e _ (¬ r.kind=1/\¬ r.kind=2/\¬ r.kind=3/\(¬ r.rd = -1\/¬ r.wr = -1)) _ (by omega),e _ (¬ r.kind=2/\¬ r.kind=5/\(¬ r.pf=0\/¬ r.pt=0)) _ (by omega),e _ ((¬ r.kind=3/\0<(r.resp.length:Int))\/(¬ r.kind=5/\¬ r.dir=0)) _ (by rw [Za4]),e _ (¬ r.kind=4/\(¬ r.pos=0\/0<(r.left.length:Int)\/0<(r.right.length:Int))) _ (by rw [Za4,Za4])]
 rw [decide_eq_decide.2 (show (r.pz≠[]/\¬(r.kind=4/\q.top=4))↔(0<(r.pz.length:Int)/\¬ (r.kind=4/\q.top=4)) by rw [Za4])]
abbrev WN (x0:Fm) (x1:Ru):List (Nat × ABlk):=[(1,.box 27 (cFm x0)),(2,.box 79 (cRu x1))]
set_option maxRecDepth 100000 in
set_option maxHeartbeats 6400000 in
theorem Zbk (hk:r.kind=1\/r.kind=2\/r.kind=3\/r.kind=4\/r.kind=5) (hq:FmOk q) (hr:RuOk r):Ctr Tryz.prog J 125 [.agg (cFm q),.agg (cRu r)] (bv<|KL r q.top):=by
 refine Zn func125 rfl (pN (Zg<|Zy q)<|pN (Zg<|Yr r) pZ) (n:=136) rfl (by simp)<|λw0 => jB<|oX 1 (.agg (cFm q))<|oX 2 (.agg (cRu r))<|oS bF<|jD<|tD<|dW<|dS (iv r.kind)<|dC (ZH rfl rfl) I0 I0<|dW<|dS (iv r.kind)<|dC (ZH rfl rfl) I0 I0<|dW<|dS (iv r.kind)<|dC (ZH rfl rfl) I0 I0<|dW<|dS (iv r.kind)<|dC (ZH rfl rfl) I0 I0<|dW<|dS (iv r.kind)<|dC (ZH rfl rfl) I0 I0<|dS (bv<|decide<|r.kind=1)<|dS (bv<|decide<|r.kind=2)<|dS (bv<|decide<|r.kind=3)<|dS (bv<|decide<|r.kind=4)<|dS (bv<|decide<|r.kind=5)<|eD<|jC<|Zi ?_
 refine Ye (True) (ofL [(1,.box 27 (cFm q)),(2,.box 79 (cRu r))]) (ofT 136 [(2,bx 1),(3,bx 2),(4,bF),(5,bv (decide<|r.kind=1)),(6,bv (decide<|r.kind=2)),(7,bv (decide<|r.kind=3)),(8,bv (decide<|r.kind=4)),(9,bv (decide<|r.kind=5)),(50,bv (decide<|¬ r.kind=1/\(0<(r.gz.length:Int)\/0<(r.ex.length:Int)\/0<(r.fa.length:Int)\/0<(r.send.length:Int))))]) ?_<|λ_ => ?_
 by_cases hs1:r.kind=1
 rw [dT hs1]
 refine Za<|oW<|oF bF<|V5<|V5<|V5<|V5<|qK<|qK<|oS bF<|kN 136 [(1,.box 27 (cFm q)),(2,.box 79 (cRu r))] [(2,bx 1),(3,bx 2),(4,bF),(5,bT),(6,bv (decide<|r.kind=2)),(7,bv (decide<|r.kind=3)),(8,bv (decide<|r.kind=4)),(9,bv (decide<|r.kind=5)),(50,bF)] ?_
 rw [show decide (¬ r.kind=1/\(0<(r.gz.length:Int)\/0<(r.ex.length:Int)\/0<(r.fa.length:Int)\/0<(r.send.length:Int)))=false from decide_eq_false (by omega)]
 exact tM T0
 rw [dF hs1]
 refine kW 136 (WN q r) [(2,bx 1),(3,bx 2),(4,bF),(5,bF),(6,bv (decide<|r.kind=2)),(7,bv (decide<|r.kind=3)),(8,bv (decide<|r.kind=4)),(9,bv (decide<|r.kind=5))] ?_
 by_cases hs2:0<(r.gz.length:Int)
 refine Za<|oW<|oF bT<|W3<|og (dT hs2)<|oS bT<|V4<|oF bT<|V4<|oF bT<|V4<|oW<|oS bT<|kN 136 [(1,.box 27 (cFm q)),(2,.box 79 (cRu r))] [(2,bx 1),(3,bx 2),(4,bF),(5,bF),(6,bv (decide<|r.kind=2)),(7,bv (decide<|r.kind=3)),(8,bv (decide<|r.kind=4)),(9,bv (decide<|r.kind=5)),(50,bT)] ?_
 rw [show decide (¬ r.kind=1/\(0<(r.gz.length:Int)\/0<(r.ex.length:Int)\/0<(r.fa.length:Int)\/0<(r.send.length:Int)))=true from decide_eq_true (by omega)]
 exact tM T0
 by_cases hs3:0<(r.ex.length:Int)
 refine Za<|oW<|oF bT<|W3<|og (dF hs2)<|oS bF<|W3<|og (dT hs3)<|oF bT<|V4<|oF bT<|V4<|oW<|oS bT<|kN 136 [(1,.box 27 (cFm q)),(2,.box 79 (cRu r))] [(2,bx 1),(3,bx 2),(4,bF),(5,bF),(6,bv (decide<|r.kind=2)),(7,bv (decide<|r.kind=3)),(8,bv (decide<|r.kind=4)),(9,bv (decide<|r.kind=5)),(50,bT)] ?_
 rw [show decide (¬ r.kind=1/\(0<(r.gz.length:Int)\/0<(r.ex.length:Int)\/0<(r.fa.length:Int)\/0<(r.send.length:Int)))=true from decide_eq_true (by omega)]
 exact tM T0
 by_cases hs4:0<(r.fa.length:Int)
 refine Za<|oW<|oF bT<|W3<|og (dF hs2)<|oS bF<|W3<|og (dF hs3)<|oF bF<|W3<|og (dT hs4)<|oF bT<|V4<|oW<|oS bT<|kN 136 [(1,.box 27 (cFm q)),(2,.box 79 (cRu r))] [(2,bx 1),(3,bx 2),(4,bF),(5,bF),(6,bv (decide<|r.kind=2)),(7,bv (decide<|r.kind=3)),(8,bv (decide<|r.kind=4)),(9,bv (decide<|r.kind=5)),(50,bT)] ?_
 rw [show decide (¬ r.kind=1/\(0<(r.gz.length:Int)\/0<(r.ex.length:Int)\/0<(r.fa.length:Int)\/0<(r.send.length:Int)))=true from decide_eq_true (by omega)]
 exact tM T0
 by_cases hs5:0<(r.send.length:Int)
 refine Za<|oW<|oF bT<|W3<|og (dF hs2)<|oS bF<|W3<|og (dF hs3)<|oF bF<|W3<|og (dF hs4)<|oF bF<|W3<|og (dT hs5)<|oW<|oS bT<|kN 136 [(1,.box 27 (cFm q)),(2,.box 79 (cRu r))] [(2,bx 1),(3,bx 2),(4,bF),(5,bF),(6,bv (decide<|r.kind=2)),(7,bv (decide<|r.kind=3)),(8,bv (decide<|r.kind=4)),(9,bv (decide<|r.kind=5)),(50,bT)] ?_
 rw [show decide (¬ r.kind=1/\(0<(r.gz.length:Int)\/0<(r.ex.length:Int)\/0<(r.fa.length:Int)\/0<(r.send.length:Int)))=true from decide_eq_true (by omega)]
 exact tM T0
 refine Za<|oW<|oF bT<|W3<|og (dF hs2)<|oS bF<|W3<|og (dF hs3)<|oF bF<|W3<|og (dF hs4)<|oF bF<|W3<|og (dF hs5)<|oW<|oS bF<|kN 136 [(1,.box 27 (cFm q)),(2,.box 79 (cRu r))] [(2,bx 1),(3,bx 2),(4,bF),(5,bF),(6,bv (decide<|r.kind=2)),(7,bv (decide<|r.kind=3)),(8,bv (decide<|r.kind=4)),(9,bv (decide<|r.kind=5)),(50,bF)] ?_
 rw [show decide (¬ r.kind=1/\(0<(r.gz.length:Int)\/0<(r.ex.length:Int)\/0<(r.fa.length:Int)\/0<(r.send.length:Int)))=false from decide_eq_false (by omega)]
 exact tM T0
 refine Zf ?_
 by_cases hs6:(decide<|¬ r.kind=1/\(0<(r.gz.length:Int)\/0<(r.ex.length:Int)\/0<(r.fa.length:Int)\/0<(r.send.length:Int)))=true
 rw [hs6]
 refine jK<|oS bT<|jE<|Zb<|Zd results125 (.tmp rfl) ?_
 exact cB<|(by rw [ZdM];simp only [hs6,Bool.true_or,Bool.false_or,Bool.or_true,Bool.or_false])
 have hs6f:(decide<|¬ r.kind=1/\(0<(r.gz.length:Int)\/0<(r.ex.length:Int)\/0<(r.fa.length:Int)\/0<(r.send.length:Int)))=false:=by simpa using hs6
 rw [hs6f]
 refine jL<|jM<|Ye (True) (ofL [(1,.box 27 (cFm q)),(2,.box 79 (cRu r))]) (ofT 136 [(2,bx 1),(3,bx 2),(4,bF),(6,bv (decide<|r.kind=2)),(7,bv (decide<|r.kind=3)),(8,bv (decide<|r.kind=4)),(9,bv (decide<|r.kind=5)),(70,bv (decide<|¬ r.kind=1/\¬ r.kind=2/\¬ r.kind=3/\(¬ r.rd = -1\/¬ r.wr = -1)))]) ?_<|λ_ => ?_
 by_cases hs7:r.kind=1
 rw [dT hs7]
 refine Za<|oW<|oF bF<|V2<|oF bF<|V2<|oF bF<|V5<|V3<|oS bF<|kN 136 [(1,.box 27 (cFm q)),(2,.box 79 (cRu r))] [(2,bx 1),(3,bx 2),(4,bF),(6,bv (decide<|r.kind=2)),(7,bv (decide<|r.kind=3)),(8,bv (decide<|r.kind=4)),(9,bv (decide<|r.kind=5)),(70,bF)] ?_
 rw [show decide (¬ r.kind=1/\¬ r.kind=2/\¬ r.kind=3/\(¬ r.rd = -1\/¬ r.wr = -1))=false from decide_eq_false (by omega)]
 exact tM T0
 rw [dF hs7]
 refine kW 136 (WN q r) [(2,bx 1),(3,bx 2),(4,bF),(5,bF),(6,bv (decide<|r.kind=2)),(7,bv (decide<|r.kind=3)),(8,bv (decide<|r.kind=4)),(9,bv (decide<|r.kind=5)),(50,bF)] ?_
 by_cases hs8:r.kind=2
 rw [dT hs8]
 refine Za<|oW<|oF bT<|W2<|oF bF<|V2<|oF bF<|V5<|V3<|oS bF<|kN 136 [(1,.box 27 (cFm q)),(2,.box 79 (cRu r))] [(2,bx 1),(3,bx 2),(4,bF),(6,bT),(7,bv (decide<|r.kind=3)),(8,bv (decide<|r.kind=4)),(9,bv (decide<|r.kind=5)),(70,bF)] ?_
 rw [show decide (¬ r.kind=1/\¬ r.kind=2/\¬ r.kind=3/\(¬ r.rd = -1\/¬ r.wr = -1))=false from decide_eq_false (by omega)]
 exact tM T0
 rw [dF hs8]
 refine kW 136 (WN q r) [(2,bx 1),(3,bx 2),(4,bF),(5,bF),(6,bF),(7,bv (decide<|r.kind=3)),(8,bv (decide<|r.kind=4)),(9,bv (decide<|r.kind=5)),(50,bF)] ?_
 by_cases hs9:r.kind=3
 rw [dT hs9]
 refine Za<|oW<|oF bT<|W2<|oF bT<|W2<|oF bF<|V5<|V3<|oS bF<|kN 136 [(1,.box 27 (cFm q)),(2,.box 79 (cRu r))] [(2,bx 1),(3,bx 2),(4,bF),(6,bF),(7,bT),(8,bv (decide<|r.kind=4)),(9,bv (decide<|r.kind=5)),(70,bF)] ?_
 rw [show decide (¬ r.kind=1/\¬ r.kind=2/\¬ r.kind=3/\(¬ r.rd = -1\/¬ r.wr = -1))=false from decide_eq_false (by omega)]
 exact tM T0
 rw [dF hs9]
 refine kW 136 (WN q r) [(2,bx 1),(3,bx 2),(4,bF),(5,bF),(6,bF),(7,bF),(8,bv (decide<|r.kind=4)),(9,bv (decide<|r.kind=5)),(50,bF)] ?_
 by_cases hs10:r.rd=(-1)
 by_cases hs11:r.wr=(-1)
 refine Za<|oW<|oF bT<|W2<|oF bT<|W2<|oF bT<|W2<|on (dT' hs10)<|oS bF<|W2<|on (dT' hs11)<|oW<|oS bF<|kN 136 [(1,.box 27 (cFm q)),(2,.box 79 (cRu r))] [(2,bx 1),(3,bx 2),(4,bF),(6,bF),(7,bF),(8,bv (decide<|r.kind=4)),(9,bv (decide<|r.kind=5)),(70,bF)] ?_
 rw [show decide (¬ r.kind=1/\¬ r.kind=2/\¬ r.kind=3/\(¬ r.rd = -1\/¬ r.wr = -1))=false from decide_eq_false (by omega)]
 exact tM T0
 refine Za<|oW<|oF bT<|W2<|oF bT<|W2<|oF bT<|W2<|on (dT' hs10)<|oS bF<|W2<|on (dF' hs11)<|oW<|oS bT<|kN 136 [(1,.box 27 (cFm q)),(2,.box 79 (cRu r))] [(2,bx 1),(3,bx 2),(4,bF),(6,bF),(7,bF),(8,bv (decide<|r.kind=4)),(9,bv (decide<|r.kind=5)),(70,bT)] ?_
 rw [show decide (¬ r.kind=1/\¬ r.kind=2/\¬ r.kind=3/\(¬ r.rd = -1\/¬ r.wr = -1))=true from decide_eq_true (by omega)]
 exact tM T0
 refine Za<|oW<|oF bT<|W2<|oF bT<|W2<|oF bT<|W2<|on (dF' hs10)<|oS bT<|V3<|oW<|oS bT<|kN 136 [(1,.box 27 (cFm q)),(2,.box 79 (cRu r))] [(2,bx 1),(3,bx 2),(4,bF),(6,bF),(7,bF),(8,bv (decide<|r.kind=4)),(9,bv (decide<|r.kind=5)),(70,bT)] ?_
 rw [show decide (¬ r.kind=1/\¬ r.kind=2/\¬ r.kind=3/\(¬ r.rd = -1\/¬ r.wr = -1))=true from decide_eq_true (by omega)]
 exact tM T0
 refine Zf ?_
 by_cases hs12:(decide<|¬ r.kind=1/\¬ r.kind=2/\¬ r.kind=3/\(¬ r.rd = -1\/¬ r.wr = -1))=true
 rw [hs12]
 refine jK<|oS bT<|jE<|Zb<|Zd results125 (.tmp rfl) ?_
 exact cB<|(by rw [ZdM];simp only [hs6f,hs12,Bool.true_or,Bool.false_or,Bool.or_true,Bool.or_false])
 have hs12f:(decide<|¬ r.kind=1/\¬ r.kind=2/\¬ r.kind=3/\(¬ r.rd = -1\/¬ r.wr = -1))=false:=by simpa using hs12
 rw [hs12f]
 refine jL<|jM<|Ye (True) (ofL [(1,.box 27 (cFm q)),(2,.box 79 (cRu r))]) (ofT 136 [(2,bx 1),(3,bx 2),(4,bF),(7,bv (decide<|r.kind=3)),(8,bv (decide<|r.kind=4)),(9,bv (decide<|r.kind=5)),(86,bv (decide<|¬ r.kind=2/\¬ r.kind=5/\(¬ r.pf=0\/¬ r.pt=0)))]) ?_<|λ_ => ?_
 by_cases hs13:r.kind=2
 rw [dT hs13]
 refine Za<|oW<|oF bF<|V2<|oF bF<|V5<|V3<|oS bF<|kN 136 [(1,.box 27 (cFm q)),(2,.box 79 (cRu r))] [(2,bx 1),(3,bx 2),(4,bF),(7,bv (decide<|r.kind=3)),(8,bv (decide<|r.kind=4)),(9,bv (decide<|r.kind=5)),(86,bF)] ?_
 rw [show decide (¬ r.kind=2/\¬ r.kind=5/\(¬ r.pf=0\/¬ r.pt=0))=false from decide_eq_false (by omega)]
 exact tM T0
 rw [dF hs13]
 refine kW 136 (WN q r) [(2,bx 1),(3,bx 2),(4,bF),(6,bF),(7,bv (decide<|r.kind=3)),(8,bv (decide<|r.kind=4)),(9,bv (decide<|r.kind=5)),(70,bF)] ?_
 by_cases hs14:r.kind=5
 rw [dT hs14]
 refine Za<|oW<|oF bT<|W2<|oF bF<|V5<|V3<|oS bF<|kN 136 [(1,.box 27 (cFm q)),(2,.box 79 (cRu r))] [(2,bx 1),(3,bx 2),(4,bF),(7,bv (decide<|r.kind=3)),(8,bv (decide<|r.kind=4)),(9,bT),(86,bF)] ?_
 rw [show decide (¬ r.kind=2/\¬ r.kind=5/\(¬ r.pf=0\/¬ r.pt=0))=false from decide_eq_false (by omega)]
 exact tM T0
 rw [dF hs14]
 refine kW 136 (WN q r) [(2,bx 1),(3,bx 2),(4,bF),(6,bF),(7,bv (decide<|r.kind=3)),(8,bv (decide<|r.kind=4)),(9,bF),(70,bF)] ?_
 by_cases hs15:r.pf=0
 by_cases hs16:r.pt=0
 refine Za<|oW<|oF bT<|W2<|oF bT<|W2<|on (dT' hs15)<|oS bF<|W2<|on (dT' hs16)<|oW<|oS bF<|kN 136 [(1,.box 27 (cFm q)),(2,.box 79 (cRu r))] [(2,bx 1),(3,bx 2),(4,bF),(7,bv (decide<|r.kind=3)),(8,bv (decide<|r.kind=4)),(9,bF),(86,bF)] ?_
 rw [show decide (¬ r.kind=2/\¬ r.kind=5/\(¬ r.pf=0\/¬ r.pt=0))=false from decide_eq_false (by omega)]
 exact tM T0
 refine Za<|oW<|oF bT<|W2<|oF bT<|W2<|on (dT' hs15)<|oS bF<|W2<|on (dF' hs16)<|oW<|oS bT<|kN 136 [(1,.box 27 (cFm q)),(2,.box 79 (cRu r))] [(2,bx 1),(3,bx 2),(4,bF),(7,bv (decide<|r.kind=3)),(8,bv (decide<|r.kind=4)),(9,bF),(86,bT)] ?_
 rw [show decide (¬ r.kind=2/\¬ r.kind=5/\(¬ r.pf=0\/¬ r.pt=0))=true from decide_eq_true (by omega)]
 exact tM T0
 refine Za<|oW<|oF bT<|W2<|oF bT<|W2<|on (dF' hs15)<|oS bT<|V3<|oW<|oS bT<|kN 136 [(1,.box 27 (cFm q)),(2,.box 79 (cRu r))] [(2,bx 1),(3,bx 2),(4,bF),(7,bv (decide<|r.kind=3)),(8,bv (decide<|r.kind=4)),(9,bF),(86,bT)] ?_
 rw [show decide (¬ r.kind=2/\¬ r.kind=5/\(¬ r.pf=0\/¬ r.pt=0))=true from decide_eq_true (by omega)]
 exact tM T0
 refine Zf ?_
 by_cases hs17:(decide<|¬ r.kind=2/\¬ r.kind=5/\(¬ r.pf=0\/¬ r.pt=0))=true
 rw [hs17]
 refine jK<|oS bT<|jE<|Zb<|Zd results125 (.tmp rfl) ?_
 exact cB<|(by rw [ZdM];simp only [hs6f,hs12f,hs17,Bool.true_or,Bool.false_or,Bool.or_true,Bool.or_false])
 have hs17f:(decide<|¬ r.kind=2/\¬ r.kind=5/\(¬ r.pf=0\/¬ r.pt=0))=false:=by simpa using hs17
 rw [hs17f]
 refine jL<|jM<|Ye (True) (ofL [(1,.box 27 (cFm q)),(2,.box 79 (cRu r))]) (ofT 136 [(2,bx 1),(3,bx 2),(4,bF),(8,bv (decide<|r.kind=4)),(103,bv (decide<|(¬ r.kind=3/\0<(r.resp.length:Int))\/(¬ r.kind=5/\¬ r.dir=0)))]) ?_<|λ_ => ?_
 by_cases hs18:r.kind=3
 rw [dT hs18]
 refine kW 136 (WN q r) [(2,bx 1),(3,bx 2),(4,bF),(7,bT),(8,bv (decide<|r.kind=4)),(9,bv (decide<|r.kind=5)),(86,bF)] ?_
 by_cases hs19:r.kind=5
 rw [dT hs19]
 refine Za<|oW<|oF bF<|V4<|oF bF<|oW<|oF bF<|V3<|oW<|oS bF<|kN 136 [(1,.box 27 (cFm q)),(2,.box 79 (cRu r))] [(2,bx 1),(3,bx 2),(4,bF),(8,bv (decide<|r.kind=4)),(103,bF)] ?_
 rw [show decide ((¬ r.kind=3/\0<(r.resp.length:Int))\/(¬ r.kind=5/\¬ r.dir=0))=false from decide_eq_false (by omega)]
 exact tM T0
 rw [dF hs19]
 refine kW 136 (WN q r) [(2,bx 1),(3,bx 2),(4,bF),(7,bT),(8,bv (decide<|r.kind=4)),(9,bF),(86,bF)] ?_
 by_cases hs20:r.dir=0
 refine Za<|oW<|oF bF<|V4<|oF bF<|oW<|oF bT<|W2<|on (dT' hs20)<|oW<|oS bF<|kN 136 [(1,.box 27 (cFm q)),(2,.box 79 (cRu r))] [(2,bx 1),(3,bx 2),(4,bF),(8,bv (decide<|r.kind=4)),(103,bF)] ?_
 rw [show decide ((¬ r.kind=3/\0<(r.resp.length:Int))\/(¬ r.kind=5/\¬ r.dir=0))=false from decide_eq_false (by omega)]
 exact tM T0
 refine Za<|oW<|oF bF<|V4<|oF bF<|oW<|oF bT<|W2<|on (dF' hs20)<|oW<|oS bT<|kN 136 [(1,.box 27 (cFm q)),(2,.box 79 (cRu r))] [(2,bx 1),(3,bx 2),(4,bF),(8,bv (decide<|r.kind=4)),(103,bT)] ?_
 rw [show decide ((¬ r.kind=3/\0<(r.resp.length:Int))\/(¬ r.kind=5/\¬ r.dir=0))=true from decide_eq_true (by omega)]
 exact tM T0
 rw [dF hs18]
 refine kW 136 (WN q r) [(2,bx 1),(3,bx 2),(4,bF),(7,bF),(8,bv (decide<|r.kind=4)),(9,bv (decide<|r.kind=5)),(86,bF)] ?_
 by_cases hs21:0<(r.resp.length:Int)
 refine Za<|oW<|oF bT<|W3<|og (dT hs21)<|oF bT<|V5<|V2<|oS bT<|kN 136 [(1,.box 27 (cFm q)),(2,.box 79 (cRu r))] [(2,bx 1),(3,bx 2),(4,bF),(8,bv (decide<|r.kind=4)),(103,bT)] ?_
 rw [show decide ((¬ r.kind=3/\0<(r.resp.length:Int))\/(¬ r.kind=5/\¬ r.dir=0))=true from decide_eq_true (by omega)]
 exact tM T0
 by_cases hs22:r.kind=5
 rw [dT hs22]
 refine Za<|oW<|oF bT<|W3<|og (dF hs21)<|oF bF<|oW<|oF bF<|V3<|oW<|oS bF<|kN 136 [(1,.box 27 (cFm q)),(2,.box 79 (cRu r))] [(2,bx 1),(3,bx 2),(4,bF),(8,bv (decide<|r.kind=4)),(103,bF)] ?_
 rw [show decide ((¬ r.kind=3/\0<(r.resp.length:Int))\/(¬ r.kind=5/\¬ r.dir=0))=false from decide_eq_false (by omega)]
 exact tM T0
 rw [dF hs22]
 refine kW 136 (WN q r) [(2,bx 1),(3,bx 2),(4,bF),(7,bF),(8,bv (decide<|r.kind=4)),(9,bF),(86,bF)] ?_
 by_cases hs23:r.dir=0
 refine Za<|oW<|oF bT<|W3<|og (dF hs21)<|oF bF<|oW<|oF bT<|W2<|on (dT' hs23)<|oW<|oS bF<|kN 136 [(1,.box 27 (cFm q)),(2,.box 79 (cRu r))] [(2,bx 1),(3,bx 2),(4,bF),(8,bv (decide<|r.kind=4)),(103,bF)] ?_
 rw [show decide ((¬ r.kind=3/\0<(r.resp.length:Int))\/(¬ r.kind=5/\¬ r.dir=0))=false from decide_eq_false (by omega)]
 exact tM T0
 refine Za<|oW<|oF bT<|W3<|og (dF hs21)<|oF bF<|oW<|oF bT<|W2<|on (dF' hs23)<|oW<|oS bT<|kN 136 [(1,.box 27 (cFm q)),(2,.box 79 (cRu r))] [(2,bx 1),(3,bx 2),(4,bF),(8,bv (decide<|r.kind=4)),(103,bT)] ?_
 rw [show decide ((¬ r.kind=3/\0<(r.resp.length:Int))\/(¬ r.kind=5/\¬ r.dir=0))=true from decide_eq_true (by omega)]
 exact tM T0
 refine Zf ?_
 by_cases hs24:(decide<|(¬ r.kind=3/\0<(r.resp.length:Int))\/(¬ r.kind=5/\¬ r.dir=0))=true
 rw [hs24]
 refine jK<|oS bT<|jE<|Zb<|Zd results125 (.tmp rfl) ?_
 exact cB<|(by rw [ZdM];simp only [hs6f,hs12f,hs17f,hs24,Bool.true_or,Bool.false_or,Bool.or_true,Bool.or_false])
 have hs24f:(decide<|(¬ r.kind=3/\0<(r.resp.length:Int))\/(¬ r.kind=5/\¬ r.dir=0))=false:=by simpa using hs24
 rw [hs24f]
 refine jL<|jM<|Ye (True) (ofL [(1,.box 27 (cFm q)),(2,.box 79 (cRu r))]) (ofT 136 [(2,bx 1),(3,bx 2),(4,bF),(8,bv (decide<|r.kind=4)),(122,bv (decide<|¬ r.kind=4/\(¬ r.pos=0\/0<(r.left.length:Int)\/0<(r.right.length:Int))))]) ?_<|λ_ => ?_
 by_cases hs25:r.kind=4
 rw [dT hs25]
 refine Za<|oW<|oF bF<|V5<|V5<|V5<|oS bF<|kN 136 [(1,.box 27 (cFm q)),(2,.box 79 (cRu r))] [(2,bx 1),(3,bx 2),(4,bF),(8,bT),(122,bF)] ?_
 rw [show decide (¬ r.kind=4/\(¬ r.pos=0\/0<(r.left.length:Int)\/0<(r.right.length:Int)))=false from decide_eq_false (by omega)]
 exact tM T0
 rw [dF hs25]
 refine kW 136 (WN q r) [(2,bx 1),(3,bx 2),(4,bF),(8,bF),(103,bF)] ?_
 by_cases hs26:r.pos=0
 by_cases hs27:0<(r.left.length:Int)
 refine Za<|oW<|oF bT<|W2<|on (dT' hs26)<|oS bF<|W3<|og (dT hs27)<|oF bT<|V4<|oW<|oS bT<|kN 136 [(1,.box 27 (cFm q)),(2,.box 79 (cRu r))] [(2,bx 1),(3,bx 2),(4,bF),(8,bF),(122,bT)] ?_
 rw [show decide (¬ r.kind=4/\(¬ r.pos=0\/0<(r.left.length:Int)\/0<(r.right.length:Int)))=true from decide_eq_true (by omega)]
 exact tM T0
 by_cases hs28:0<(r.right.length:Int)
 refine Za<|oW<|oF bT<|W2<|on (dT' hs26)<|oS bF<|W3<|og (dF hs27)<|oF bF<|W3<|og (dT hs28)<|oW<|oS bT<|kN 136 [(1,.box 27 (cFm q)),(2,.box 79 (cRu r))] [(2,bx 1),(3,bx 2),(4,bF),(8,bF),(122,bT)] ?_
 rw [show decide (¬ r.kind=4/\(¬ r.pos=0\/0<(r.left.length:Int)\/0<(r.right.length:Int)))=true from decide_eq_true (by omega)]
 exact tM T0
 refine Za<|oW<|oF bT<|W2<|on (dT' hs26)<|oS bF<|W3<|og (dF hs27)<|oF bF<|W3<|og (dF hs28)<|oW<|oS bF<|kN 136 [(1,.box 27 (cFm q)),(2,.box 79 (cRu r))] [(2,bx 1),(3,bx 2),(4,bF),(8,bF),(122,bF)] ?_
 rw [show decide (¬ r.kind=4/\(¬ r.pos=0\/0<(r.left.length:Int)\/0<(r.right.length:Int)))=false from decide_eq_false (by omega)]
 exact tM T0
 refine Za<|oW<|oF bT<|W2<|on (dF' hs26)<|oS bT<|V4<|oF bT<|V4<|oW<|oS bT<|kN 136 [(1,.box 27 (cFm q)),(2,.box 79 (cRu r))] [(2,bx 1),(3,bx 2),(4,bF),(8,bF),(122,bT)] ?_
 rw [show decide (¬ r.kind=4/\(¬ r.pos=0\/0<(r.left.length:Int)\/0<(r.right.length:Int)))=true from decide_eq_true (by omega)]
 exact tM T0
 refine Zf ?_
 by_cases hs29:(decide<|¬ r.kind=4/\(¬ r.pos=0\/0<(r.left.length:Int)\/0<(r.right.length:Int)))=true
 rw [hs29]
 refine jK<|oS bT<|jE<|Zb<|Zd results125 (.tmp rfl) ?_
 exact cB<|(by rw [ZdM];simp only [hs6f,hs12f,hs17f,hs24f,hs29,Bool.true_or,Bool.false_or,Bool.or_true,Bool.or_false])
 have hs29f:(decide<|¬ r.kind=4/\(¬ r.pos=0\/0<(r.left.length:Int)\/0<(r.right.length:Int)))=false:=by simpa using hs29
 rw [hs29f]
 refine jL<|Zi ?_
 by_cases hs30:0<(r.pz.length:Int)
 by_cases hs31:r.kind=4
 rw [dT hs31]
 refine Za<|W3<|og (dT hs30)<|oS bT<|oF bT<|oF (iv q.top)<|gC (ZH rfl rfl) I0 I0<|W2<|oF (bv<|!decide (q.top=4))<|jE<|Zd results125 (.tmp rfl) ?_
 have h6:decide (0<(r.pz.length:Int)/\¬ (r.kind=4/\q.top=4))=(!decide (q.top=4)):=(decide_eq_decide.2<|by omega).trans decide_not
 exact cB<|(by rw [ZdM,h6];simp only [hs6f,hs12f,hs17f,hs24f,hs29f,Bool.true_or,Bool.false_or,Bool.or_true,Bool.or_false])
 rw [dF hs31]
 refine Za<|W3<|og (dT hs30)<|oS bT<|oF bF<|V3<|W2<|oF bT<|jE<|Zd results125 (.tmp rfl) ?_
 have h6:decide (0<(r.pz.length:Int)/\¬ (r.kind=4/\q.top=4))=true:=decide_eq_true<|by omega
 exact cB<|(by rw [ZdM,h6];simp only [hs6f,hs12f,hs17f,hs24f,hs29f,Bool.true_or,Bool.false_or,Bool.or_true,Bool.or_false])
 refine Za<|W3<|og (dF hs30)<|oS bF<|V5<|V2<|oF bF<|jE<|Zd results125 (.tmp rfl) ?_
 have h6:decide (0<(r.pz.length:Int)/\¬ (r.kind=4/\q.top=4))=false:=decide_eq_false<|by omega
 exact cB<|(by rw [ZdM,h6];simp only [hs6f,hs12f,hs17f,hs24f,hs29f,Bool.true_or,Bool.false_or,Bool.or_true,Bool.or_false])
set_option maxHeartbeats 12800000
def cmpI:List Int->List Int->Int
 | [],[]=>0
 | [],_::_ => -1
 | _::_,[]=>1
 | x::xs,y::ys=>if x<y then -1 else if y<x then 1 else cmpI xs ys
theorem ZeF (b off n cap b' off' n' cap':Nat) (w:World) (xs ys:List Int) (hx:xs.length=n) (hy:ys.length=n') (hn:n<=9223372036854775807)
 (hc:∀ i,i<n->w.cell? ⟨b,off+i,none⟩=some (.int .i64 (xs.getD i 0))) (hc':∀ i,i<n'->w.cell? ⟨b',off'+i,none⟩=some (.int .i64 (ys.getD i 0))) :
 Calls Tryz.prog 30 #[.slice (some ⟨b,off,none⟩) n cap,.slice (some ⟨b',off',none⟩) n' cap'] w λe w'=>e = .returned (.int .i64 (cmpI xs ys))/\Below w.heap.size w w':=by
 go_enter func30,ntmps30
 go_wp2
 go_loopw [5] (λv wr=>∃ k:Nat,k<=n/\k<=n'/\v = .int .i64 k/\cmpI (xs.drop k) (ys.drop k)=cmpI xs ys/\Below w.heap.size w wr/\(∀ p:Addr,wr.cell? p=w.cell? p)) (λv _=>n-(intOf v).toNat)
 case atStart=>exact ⟨0,Nat.zero_le _,Nat.zero_le _,rfl,rfl,Below.refl _ _,λ_=>rfl⟩
 case round =>
  obtain ⟨k,hk,hk',rfl,hcm,hb,hsame⟩:=hrel
  have HS:Hid (∀ p:Addr,wr.cell? p=w.cell? p):=hsame
  have HB:Hid (Below w.heap.size w wr):=hb
  by_cases h1:k<n
  ·by_cases h2:k<n'
   ·have g1:wr.cell? ⟨b,off+k,none⟩=some (.int .i64 (xs.getD k 0)):=(hsame _).trans (hc k h1)
    have g2:wr.cell? ⟨b',off'+k,none⟩=some (.int .i64 (ys.getD k 0)):=(hsame _).trans (hc' k h2)
    have HC:Hid (cmpI xs ys=(if xs[k]'(by omega)<ys[k]'(by omega) then -1 else if ys[k]'(by omega)<xs[k]'(by omega) then 1 else cmpI (xs.drop (k+1)) (ys.drop (k+1)))):=by
     show _=_
     rw [<- hcm,List.drop_eq_getElem_cons (l:=xs) (by omega),List.drop_eq_getElem_cons (l:=ys) (by omega),cmpI]
    clear hsame hcm hb
    go_wp2
    go_quiet (fail)
    go_wp2
    ·have hlt:xs[k]<ys[k]:=by assumption
     go_ret
     exact ⟨ZA (by rw [HC.out,if_pos hlt]),quietBelow HB.out _⟩
    have hle:ys[k]<=xs[k]:=by assumption
    go_quiet (fail)
    go_wp2
    ·have hlt:ys[k]<xs[k]:=by assumption
     go_ret
     exact ⟨ZA (by rw [HC.out,if_neg (by omega),if_pos hlt]),(by (repeat refine quietBelow ?_ _);exact HB.out)⟩
    have hle':xs[k]<=ys[k]:=by assumption
    go_roundw
    case rel=>exact ⟨k+1,by omega,by omega,by go_num,by rw [HC.out,if_neg (by omega),if_neg (by omega)],(by (repeat refine quietBelow ?_ _);exact HB.out),λp=>HS.out p⟩
    case measure=>simp [intOf];omega
   have hd:ys.drop k=[]:=List.drop_eq_nil_of_le (by omega)
   have HC:Hid (cmpI xs ys=1):=by
    show _=_
    rw [<- hcm,hd,List.drop_eq_getElem_cons (by omega),cmpI]
   have hlt:n'<n:=by omega
   clear hsame hcm hb hd
   go_wp2
   go_ret
   exact ⟨ZA HC.out.symm,HB.out⟩
  have hkn:k=n:=by omega
  have hd:xs.drop k=[]:=List.drop_eq_nil_of_le (by omega)
  by_cases h2:n<n'
  ·have HC:Hid (cmpI xs ys = -1):=by
    show _=_
    rw [<- hcm,hd,List.drop_eq_getElem_cons (by omega),cmpI]
   clear hsame hcm hb hd hkn
   go_wp2
   go_ret
   exact ⟨ZA HC.out.symm,HB.out⟩
  have HC:Hid (cmpI xs ys=0):=by
   show _=_
   rw [<- hcm,hd,List.drop_eq_nil_of_le (by omega),cmpI]
  have hnn:¬ n'<n:=by omega
  clear hsame hcm hb hd hkn
  go_wp2
  go_ret
  exact ⟨ZA HC.out.symm,HB.out⟩
theorem Zbf (a a':Option Addr) (cap n' cap':Nat) (w:World) (ys:List Int) (hy:ys.length=n') (hn':n'<=9223372036854775807) :
 Calls Tryz.prog 30 #[.slice a 0 cap,.slice a' n' cap'] w λe w'=>e = .returned (.int .i64 (cmpI [] ys))/\Below w.heap.size w w':=by
 have HC:Hid (cmpI [] ys=if 0<n' then -1 else 0):=by
  show _=_
  cases ys<;>simp_all [cmpI]<;>omega
 by_cases h2:0<n'
 ·go_enter func30,ntmps30
  go_wp2
  go_rounds 1
  go_ret
  exact ⟨ZA (by rw [HC.out,if_pos h2]),Below.refl _ _⟩
 obtain rfl:n'=0:=by omega
 clear h2
 go_enter func30,ntmps30
 go_wp2
 go_rounds 1
 go_ret
 exact ⟨ZA (by rw [HC.out];rfl),Below.refl _ _⟩
theorem Zdv (a a':Option Addr) (n cap cap':Nat) (w:World) (x:Int) (xs:List Int) (hx:(x::xs).length=n) (hn:n<=9223372036854775807) :
 Calls Tryz.prog 30 #[.slice a n cap,.slice a' 0 cap'] w λe w'=>e = .returned (.int .i64 (cmpI (x::xs) []))/\Below w.heap.size w w':=by
 have h2:0<n:=by simp at hx;omega
 clear hx
 go_enter func30,ntmps30
 go_wp2
 go_rounds 1
 go_ret
 exact ⟨rfl,Below.refl _ _⟩
variable {lo lo':Nat}{w:World}{v v':Value}
theorem Zfv {xs ys:List Int} (h:IsInts lo w v xs) (h':IsInts lo' w v' ys) :
 Calls Tryz.prog 30 #[v,v'] w λe w'=>e = .returned (.int .i64 (cmpI xs ys))/\Below w.heap.size w w':=by
 obtain ⟨a,cap,rfl,hl,hm,hi,hc⟩:=h
 obtain ⟨a',cap',rfl,hl',hm',hi',hc'⟩:=h'
 unfold maxLen at hm hm'
 rcases hc with rfl | ⟨b,off,rfl,_,_,hc⟩
 ·exact Zbf _ _ _ _ _ _ _ rfl (by omega)
 rcases hc' with rfl | ⟨b',off',rfl,_,_,hc'⟩
 ·cases xs with
  | nil=>exact Zbf _ _ _ _ _ _ _ rfl (by simp)
  | cons x xs=>exact Zdv _ _ _ _ _ _ _ _ rfl (by omega)
 exact ZeF _ _ _ _ _ _ _ _ _ _ _ rfl rfl (by omega) hc hc'
def OwnV (lo:Nat) (w:World) (v:Value) (xs:List Int):Prop :=
 (v = .slice none 0 0/\xs=[])\/∃ g cap,v = .slice (some ⟨g,0,none⟩) xs.length cap/\xs.length<=cap/\cap<=maxLen/\OwnInts lo w g xs
theorem OwnV.ints {xs:List Int} (h:OwnV lo w v xs):IsInts lo w v xs:=by
 rcases h with ⟨rfl,rfl⟩ | ⟨g,cap,rfl,hl,hm,h1,h2,h3,cur,t,hg,hc⟩
 ·exact ⟨none,0,rfl,by simp,by simp [maxLen],by simp,.inl rfl⟩
 exact KF hg h1 rfl hl hm h3 hc
theorem OwnV.below {lo:Nat} {w w':World} {v:Value} {xs:List Int} (h:OwnV lo w v xs) (hb:Below w.heap.size w w'):OwnV lo w' v xs:=by
 rcases h with h | ⟨g,cap,hv,hl,hm,h⟩
 ·exact .inl h
 exact .inr ⟨g,cap,hv,hl,hm,h.below hb⟩
theorem OwnV.mono {lo lo':Nat} {w:World} {v:Value} {xs:List Int} (h:OwnV lo w v xs) (hl':lo'<=lo):OwnV lo' w v xs:=by
 rcases h with h | ⟨g,cap,hv,hl,hm,h⟩
 ·exact .inl h
 exact .inr ⟨g,cap,hv,hl,hm,h.mono hl'⟩
theorem OwnV.shape {lo:Nat} {w:World} {v:Value} {xs:List Int} (h:OwnV lo w v xs):∃ a cap,v = .slice a xs.length cap:=h.ints.shape
variable {e:TypeId}
theorem own_of_row {xs:List Int} (h:w.ownsRow lo e 1 v xs.length (xs.map (Value.int .i64))) (hi:∀ x∈xs,I64 x):OwnV lo w v xs:=by
 obtain ⟨_,h⟩:=h
 rcases h with ⟨hv,hn⟩ | ⟨g,cap,cur,hv,hb,hg,hnc,hcm,hcs,htake⟩
 ·exact .inl ⟨hv,List.eq_nil_of_length_eq_zero hn⟩
 refine .inr ⟨g,cap,hv,hnc,hcm,hb,Nat.le_trans hnc hcm,hi,cur,e,hg,λi h => ?_⟩
 have h1:(cur.toList.take (xs.length*1))[i]? = some (.int .i64 (xs.getD i 0)):=by rw [htake];simp [h]
 rw [List.getElem?_take,if_pos (by omega)] at h1
 simpa using h1
theorem info_int4:∃ i,Tryz.prog.info? 3=some i/\i.zero=some (.int .i64 0)/\i.size=1/\i.bytes=8:=by
 obtain ⟨i,hi,h⟩:=Option.map_eq_some_iff.1 (show (Tryz.prog.info? 3).map (λi=>(i.zero,i.size,i.bytes))=some (some (.int .i64 0),1,8) by kernel_rfl)
 simp only [Prod.mk.injEq] at h
 exact ⟨i,hi,h.1,h.2.1,h.2.2⟩
theorem ZeH:∀ xs,cmpI xs xs=0
 | []=>rfl
 | x::xs=>by simp [cmpI,ZeH xs]
theorem ZeG:∀ {xs ys:List Int},cmpI xs ys=0->xs=ys
 | [],[],_=>rfl
 | [],_::_,h=>by simp [cmpI] at h
 | _::_,[],h=>by simp [cmpI] at h
 | x::xs,y::ys,h=>by
   unfold cmpI at h
   split at h
   ·cases h
   split at h
   ·cases h
   rw [show x=y by omega,ZeG h]
def eqI (xs ys:List Int):Bool:=decide (xs=ys)
theorem eqI_cmp (xs ys:List Int):(cmpI xs ys==0)=eqI xs ys:=by
 unfold eqI
 rw [Bool.eq_iff_iff,beq_iff_eq,decide_eq_true_iff]
 exact ⟨ZeG,λh=>by rw [h];exact ZeH _⟩
theorem ZeV {xs ys:List Int} (h:IsInts lo w v xs) (h':IsInts lo' w v' ys) :
 Calls Tryz.prog 14 #[v,v'] w λe w'=>e = .returned (.bool (eqI xs ys))/\Below w.heap.size w w':=by
 obtain ⟨a,cap,rfl⟩:=h.shape
 obtain ⟨a',cap',rfl⟩:=h'.shape
 have E:=hid0 (eqI_cmp xs ys)
 go_enter func14,ntmps14
 go_wp2_with (go_at_call 30;refine (Zfv h h').mono ?_;rintro e w1 ⟨rfl,hb1⟩)
 go_ret
 exact ⟨Zt E.out,hb1⟩
variable {w':World}
theorem Zd7 {B e size n:Nat} {xs:List Value} (h:w.ownsRow B e size v n xs) (hb:Below w.heap.size w w'):w'.ownsRow B e size v n xs:=by
 obtain ⟨h1,h2⟩:=h
 refine ⟨h1,?_⟩
 rcases h2 with h2 | ⟨g,cap,cur,hv,hg,hh,r⟩
 ·exact .inl h2
 exact .inr ⟨g,cap,cur,hv,hg,by rw [hb.block g (Array.getElem?_eq_some_iff.1 hh).1];exact hh,r⟩
theorem Zet:∃ i:TypeInfo,Tryz.prog.info? 9=some i/\i.zero=some (.string ⟨#[]⟩)/\i.size=1/\i.bytes=16:=by
 have h:(Tryz.prog.info? 9).map (λi=>(i.zero,i.size,i.bytes))=some (some (.string ⟨#[]⟩),1,16):=by kernel_rfl
 obtain ⟨i,hi,hz⟩:=Option.map_eq_some_iff.1 h
 simp only [Prod.mk.injEq] at hz
 exact ⟨i,hi,hz.1,hz.2.1,hz.2.2⟩
theorem grow_own (w:World) (n:Nat) (hn:n<=1000) :
 (w.drew.alloc (.cells (Builtin.zeroCells (Value.string ⟨#[]⟩).cells n++Builtin.zeroCells (Value.string ⟨#[]⟩).cells (grownCap w n 0 9-n)) 9)).ownsRow w.heap.size 9 1 (.slice (some ⟨w.heap.size,0,none⟩) 0 (grownCap w n 0 9)) 0 []:=by
 have h1:=grownCap_ge w n 0 9
 have h2:=grownCap_le_maxLen w n 0 9 (by unfold maxLen;omega)
 refine ⟨rfl,.inr ⟨w.heap.size,_,_,rfl,Nat.le_refl _,heap_alloc_new w.drew _,Nat.zero_le _,h2,?_,by simp⟩⟩
 rw [Array.size_append,size_zeroCells,size_zeroCells]
 show n*1+(_-n)*1=_*1
 omega
set_option maxRecDepth 100000 in
theorem Grow_nil (n:Nat) (hn:n<=1000) (w:World) :
 Calls Tryz.prog 129 #[.slice none 0 0,.int .i64 n] w λe w'=>∃ a c,e = .returned (.slice a 0 c)/\w'.ownsRow w.heap.size 9 1 (.slice a 0 c) 0 []/\Below w.heap.size w w':=by
 by_cases h0:n=0
 ·subst h0
  go_enter func129,ntmps129
  go_wp2_with fail
  go_ret
  exact ⟨_,_,rfl,World.ownsRow_nil _ _ _ _,Below.refl _ _⟩
 have g1:(0:Int)<(n:Int):=by omega
 obtain ⟨i0,hi0,hz0,hz1,hz2⟩:=Zet
 have R:=Lib.hid (Lib.run_append_nil_zeros (P:=Tryz.prog) w 22 3 22 9 i0 (.string ⟨#[]⟩) .i64 .i64 underlying22 underlying3 hi0 hz0 n (by omega) (by omega) (by omega) (by rw [hz2];omega))
 clear hi0 hz0 hz1 hz2
 go_enter func129,ntmps129
 go_wp2_with (at_builtin;refine Lib.wpList_append_run _ rfl (.tmp 20) (.tmp 21) 22 3 rfl _ _ rfl rfl _ _ R.out ?_)
 go_ret
 exact ⟨_,_,rfl,grow_own w n hn,(drewBelow w).trans ((Zm w.drew _).mono (by simp))⟩
variable {xs:List ByteArray}
theorem sl_src {ad:Addr} {n c:Nat} (h:IsSl 1 StrEl lo w (.slice (some ad) n c) xs) (w':World) (hb:Below w.heap.size w w') (j:Nat) (u:Value) (hj:(xs.map Value.string)[j]? = some u):w'.cell? (ad.add j)=some u:=by
 have hjl:j<xs.length:=by have:=(List.getElem?_eq_some_iff.1 hj).1;simpa using this
 obtain ⟨b,off,cs,ha,_,hbk,hl,hc,hel⟩:=h.at j hjl
 cases ha
 have h0:=hc 0 (by omega)
 rw [hel.1] at h0
 have:(xs.map Value.string)[j]? = some (.string xs[j]):=by simp [hjl]
 rw [this] at hj
 cases hj
 simp only [Nat.add_zero,Nat.mul_one] at h0
 have e:=(hb.cell (p:=⟨b,off+j,none⟩) hbk).trans h0
 by_cases j0:j=0
 ·subst j0;simpa [Addr.add] using e
 simpa [Addr.add,j0] using e
variable {n:Nat}
theorem row_sl (h:w.ownsRow lo 9 1 v n (xs.map Value.string)) (hs:∀ s∈xs,s.size<=maxLen):IsSl 1 StrEl lo w v xs:=by
 obtain ⟨hl,h2⟩:=h
 have hn:n=xs.length:=by simpa using hl.symm
 subst hn
 rcases h2 with ⟨rfl,h0⟩ | ⟨g,cap,cur,rfl,hb,hg,hn,hm,hc,ht⟩
 ·exact ⟨none,0,by rw [h0],by omega,by simp [maxLen],λ_=>rfl,.inl (List.eq_nil_of_length_eq_zero h0)⟩
 refine ⟨_,_,rfl,hn,hm,by simp,.inr ⟨g,0,rfl,hb,(Array.getElem?_eq_some_iff.1 hg).1,λi hi=>⟨[.string xs[i]],rfl,λj hj => ?_,rfl,hs _ (List.getElem_mem hi)⟩⟩⟩
 obtain rfl:j=0:=by omega
 have hcell:w.cell? ⟨g,0+i*1+0,none⟩=cur[i]? := by
  simp only [World.cell?,hg];simp
 rw [hcell,<- Array.getElem?_toList,show cur.toList[i]? = (cur.toList.take (xs.length*1))[i]? by rw [List.getElem?_take_of_lt (by omega)],ht]
 simp [hi]
def lens (xss:List (List ByteArray)) (k:Nat):Nat:=(xss.take k).flatten.length
variable {k:Nat}
theorem ZdO {xss:List (List ByteArray)} (h:k<xss.length):(xss.take (k+1)).flatten=(xss.take k).flatten++xss[k]:=by
 rw [List.take_succ_eq_append_getElem h,List.flatten_append];simp
theorem Zeo {xss:List (List ByteArray)} (h:k<xss.length):lens xss (k+1)=lens xss k+xss[k].length:=by
 unfold lens;rw [ZdO h,List.length_append]
theorem lens_le (xss:List (List ByteArray)) (k:Nat):lens xss k<=xss.flatten.length:=by
 unfold lens
 conv=>rhs;rw [<- List.take_append_drop k xss,List.flatten_append,List.length_append]
 omega
theorem lens_all {xss:List (List ByteArray)} (h:k=xss.length):lens xss k=xss.flatten.length:=by
 unfold lens;rw [List.take_of_length_le (by omega)]
variable {base size:Nat}
theorem Zfb {xs:List Value} (h:w.ownsRow base e size v n xs):∃ a c,v = .slice a n c:=by
 rcases h.2 with ⟨rfl,rfl⟩ | ⟨g,cap,_,rfl,_⟩
 ·exact ⟨_,_,rfl⟩
 exact ⟨_,_,rfl⟩
theorem ZbO {xs:List Value} (h:w.ownsRow base e size v n xs) (k:Nat) (hk:v.ownBlock=some k):base<=k:=by
 rcases h.2 with ⟨rfl,_⟩ | ⟨g,cap,_,rfl,hb,_⟩
 ·cases hk
 have:g=k:=by simpa [Value.ownBlock] using hk
 omega
set_option maxRecDepth 100000 in
theorem ZfL (b off k cap:Nat) (w:World) (xss:List (List ByteArray)) (hx:xss.length=k) (hk:k<=1000) (ht:xss.flatten.length<=1000) (hb:b<w.heap.size) (hz:∀ s∈xss.flatten,s.size<=maxLen)
 (hc:∀ i (hi:i<xss.length),∃ u,w.cell? ⟨b,off+i,none⟩=some u/\IsSl 1 StrEl lo w u xss[i]) :
 Calls Tryz.prog 115 #[.slice (some ⟨b,off,none⟩) k cap] w λe w'=>∃ v',e = .returned v'/\IsSl 1 StrEl w.heap.size w' v' xss.flatten/\Below w.heap.size w w':=by
 have HC:=Lib.hid hc
 have HX:=Lib.hid hx
 have HT:=Lib.hid ht
 have HZ:=Lib.hid hz
 obtain ⟨i0,hi0,hz0,hz1,hz2⟩:=Zet
 clear hc hx ht hz
 go_enter func115,ntmps115
 go_wp2_with fail
 go_loop [3,11] (λv u=>∃ j:Nat,j<=k/\u = .int .i64 j/\v = .int .i64 (lens xss j)) (λ_ u=>k-(intOf u).toNat)
 case atStart=>exact ⟨0,Nat.zero_le _,rfl,rfl⟩
 case round =>
  obtain ⟨j,hj,rfl,rfl⟩:=hrel
  by_cases h1:j<k
  ·have hjx:j<xss.length:=by rw [HX.out];exact h1
   obtain ⟨u,c1,hu⟩:=HC.out j hjx
   obtain ⟨au,cu,rfl⟩:=hu.shape
   have LS:=Lib.hid (Zeo hjx)
   have hle:lens xss j+xss[j].length<=1000:=by have:=lens_le xss (j+1);rw [LS.out] at this;have:=HT.out;omega
   clear hu
   go_wp2_with fail
   go_round
   case rel=>exact ⟨j+1,by omega,by go_num,by rw [LS.out];go_num⟩
   case measure=>simp [intOf];omega
  obtain rfl:j=k:=by omega
  have LA:=Lib.hid (lens_all HX.out.symm)
  go_wp2_with (go_at_call 129;(with_reducible refine (Grow_nil (lens xss j) (by rw [LA.out];exact HT.out) _).mono ?_);rintro e w1 ⟨a1,c1,rfl,hO,hb1⟩;have HO:=Lib.hid hO;have HB1:=Lib.hid hb1;clear hO)
  go_loopw [6,27] (λv u wr=>∃ (i:Nat) (a:Option Addr) (c:Nat),i<=j/\u = .int .i64 i/\v = .slice a (lens xss i) c/\wr.ownsRow w.heap.size 9 1 (.slice a (lens xss i) c) (lens xss i) ((xss.take i).flatten.map Value.string)/\Below w.heap.size w wr) (λ_ u _=>j-(intOf u).toNat)
  case atStart=>exact ⟨0,a1,c1,Nat.zero_le _,rfl,rfl,HO.out,HB1.out⟩
  case round =>
   obtain ⟨i,a,c,hi,rfl,rfl,hown,hB⟩:=hrel
   have HOW:=Lib.hid hown
   have HB:=Lib.hid hB
   clear hown hB
   by_cases h2:i<j
   ·have hix:i<xss.length:=by rw [HX.out];exact h2
    obtain ⟨u,g1,hu⟩:=HC.out i hix
    have g2:=(HB.out.cell (p:=⟨b,off+i,none⟩) hb).trans g1
    have LS:=Lib.hid (Zeo hix)
    have hle:lens xss i+xss[i].length<=1000:=by have:=lens_le xss (i+1);rw [LS.out] at this;have:=HT.out;omega
    have TF:=Lib.hid (ZdO hix)
    obtain ⟨au,cu,rfl⟩:=hu.shape
    have HU:=Lib.hid hu
    have hcu:au=none->xss[i].length=0/\cu=0:=by
     obtain ⟨_,_,e,q1,_,q2,_⟩:=hu
     simp only [Value.slice.injEq] at e
     obtain ⟨rfl,_,rfl⟩:=e
     exact λh=>by have:=q2 h;omega
    have HCU:=Lib.hid hcu
    clear hu hcu g1
    cases au with
    | none =>
      obtain ⟨l0,rfl⟩:=HCU.out rfl
      have L0:=Lib.hid l0
      rw [l0] at g2
      clear l0
      go_wp2_with (at_builtin;refine wpList_append_own_none rfl (.tmp 31) (.tmp 32) 22 rfl w.heap.size 9 i0 1 underlying22 hi0 _ _ _ rfl HOW.out rfl ?_)
      go_roundw
      case rel =>
       have e1:lens xss (i+1)=lens xss i:=by rw [LS.out,L0.out];rfl
       have e2:(xss.take (i+1)).flatten=(xss.take i).flatten:=by rw [TF.out,List.eq_nil_of_length_eq_zero L0.out,List.append_nil]
       exact ⟨i+1,a,c,by omega,by go_num,by rw [e1],by rw [e1,e2];exact HOW.out,HB.out⟩
      case measure=>simp [intOf];omega
    | some ad =>
      have hmx:lens xss i+xss[i].length<=maxLen:=by unfold maxLen;omega
      go_wp2_with (at_builtin;refine wpList_append_own _ rfl (.tmp 31) (.tmp 32) 22 rfl w.heap.size 9 i0 (.string ⟨#[]⟩) 1 16 underlying22 hi0 hz0 hz1 hz2 rfl (by decide) _ _ _ rfl HOW.out ad xss[i].length cu (xss[i].map Value.string) rfl (by simp) (sl_src HU.out wr HB.out) (by simp [Value.oneCell']) hmx (by omega) HB.out.size ?_;intro v' w3 hown1 hgrow1 _;obtain ⟨a3,c3,rfl⟩:=Zfb hown1;have HO3:=Lib.hid hown1;have HB3:=Lib.hid (HB.out.grown hgrow1 HB.out.size (ZbO HOW.out));clear hown1 hgrow1)
      go_roundw
      case rel=>exact ⟨i+1,a3,c3,by omega,by go_num,by rw [LS.out],by rw [LS.out,TF.out,List.map_append];exact HO3.out,HB3.out⟩
      case measure=>simp [intOf];omega
   obtain rfl:i=j:=by omega
   go_wp2_with fail
   go_ret
   refine ⟨_,rfl,row_sl (n:=lens xss i) (xs:=xss.flatten) ?_ HZ.out,HB.out⟩
   have e2:(xss.take i).flatten=xss.flatten:=by rw [List.take_of_length_le (by rw [HX.out];exact Nat.le_refl _)]
   rw [<- e2]
   exact HOW.out
set_option maxRecDepth 100000 in
theorem Kq (s:ByteArray) (w:World) :
 Calls Tryz.prog 97 #[.string s] w λe w'=>e = .returned (.bool (resB s.toList))/\w=w':=by
 have e:Hid (resB s.toList=resW.any (λw=>s.toList==w)):=(rfl:resB _=_)
 go_enter func97,ntmps97
 go_wp2
 all_goals first
  | (exfalso;simp_all only [Bool.false_eq_true];done)
  | (go_ret;refine ⟨Zt ?_,rfl⟩;rw [e.out];unfold resW;simp only [List.any_cons,List.any_nil, *,Bool.or_true,Bool.true_or,Bool.or_false];done)
theorem YP (s:ByteArray):s.toList.length=s.size:=by rw [ByteArray.toList_eq];simp
theorem Zdr (s:ByteArray) (i:Nat) (h:i<s.size):s.toList.getD i 0=s[i]:=by
 rw [ByteArray.toList_eq];simp [List.getD,h];rfl
theorem iterBelow (w:World) (s:ByteArray) (n:Nat):Below w.heap.size w (w.iter s n):=(Below.refl _ _).alloc (Nat.le_refl _) _
theorem YI (s:ByteArray) (w:World) (hs:s.size<=maxLen) :
 Calls Tryz.prog 50 #[.string s] w λe w'=>e = .returned (.bool (nameB s.toList))/\Below w.heap.size w w':=by
 unfold maxLen at hs
 have e:Hid (nameB s.toList=(decide (1<=s.toList.length)&&decide (s.toList.length<=12) && !resB s.toList&&upB s.toList s.toList.length)):=(rfl:nameB _=_)
 have el:=Lib.hid (YP s)
 by_cases h1:s.size<1
 ·go_enter func50,ntmps50
  go_wp2_with (go_at_call 97;refine (Kq _ _).mono ?_;rintro e w' ⟨rfl,rfl⟩)
  go_ret
  exact ⟨Zt (by rw [e.out,el.out,decide_eq_false (by omega)];rfl),Below.refl _ _⟩
 by_cases h2:12<s.size
 ·go_enter func50,ntmps50
  go_wp2_with (go_at_call 97;refine (Kq _ _).mono ?_;rintro e w' ⟨rfl,rfl⟩)
  go_ret
  exact ⟨Zt (by rw [e.out,el.out,decide_eq_false (by omega:¬ s.size<=12)];simp),Below.refl _ _⟩
 cases h3:resB s.toList with
 | true =>
   go_enter func50,ntmps50
   go_wp2_with (go_at_call 97;refine (Kq _ _).mono ?_;rintro e w' ⟨rfl,rfl⟩)
   go_ret
   exact ⟨Zt (by rw [e.out,h3];simp),Below.refl _ _⟩
 | false =>
   go_enter func50,ntmps50
   go_wp2_with (go_at_call 97;refine (Kq _ _).mono ?_;rintro e w' ⟨rfl,rfl⟩)
   go_loopw [] (λw'=>∃ pos:Nat,w'=w.iter s pos/\pos<=s.size/\upB s.toList pos=true) (λw'=>s.size-w'.iterPos w.heap.size)
   case atStart=>exact ⟨0,rfl,Nat.zero_le _,upB_zero _⟩
   case round =>
    obtain ⟨pos,rfl,hle,hup⟩:=hrel
    have HU:=Lib.hid hup
    clear hup
    by_cases hp:pos<s.size
    ·have hg:=Zdr s pos hp
     obtain ⟨r,p',hnx,hr⟩:∃ (r:Int) (p':Nat),(∀ ty,(Instr.next (.pointer (some ⟨w.heap.size,0,none⟩)) true ty).run Tryz.prog (w.iter s pos) = .ok (.tuple #[.bool true,.int .i64 pos,.int .i32 r]) (w.iter s p'))/\((r=(s[pos].toNat:Int)/\p'=pos+1)\/(128<=r/\128<=s[pos].toNat)):=by
      by_cases ha:s[pos].toNat<128
      ·exact ⟨_,_,λty=>run_next_ascii w s pos ty hp ha,.inl ⟨rfl,rfl⟩⟩
      exact ⟨_,_,λty=>run_next_any w s pos ty hp,.inr ⟨by have:=(decode_high s pos hp (by omega)).1;omega,by omega⟩⟩
     have hcl:(97<=r/\r<=122)\/(48<=r/\r<=57)\/r=95\/r<48\/(57<r/\r<97/\r≠95)\/122<r:=by omega
     have hat:atB s.toList pos=(leB s[pos]||(decide (pos≠0)&&diB s[pos])):=by unfold atB;rw [hg]
     have hno:(128<=s[pos].toNat\/(r=(s[pos].toNat:Int)/\(r<48\/(57<r/\r<97/\r≠95)\/122<r)))->atB s.toList pos=false:=λh=>by
      rw [hat]
      have:leB s[pos]=false:=by unfold leB;simp;omega
      have h2:diB s[pos]=false:=by unfold diB;simp;omega
      rw [this,h2];simp
     have HAT:=Lib.hid hat
     have HNO:=Lib.hid hno
     have HR:=Lib.hid hr
     clear hat hno hr hg
     rcases hcl with ⟨c1,c2⟩ | ⟨c1,c2⟩ | c1 | c1 | ⟨c1,c2,c3⟩ | c1
     ·have hr:r=(s[pos].toNat:Int)/\p'=pos+1:=HR.out.elim id λh=>absurd h.1 (by omega)
      obtain rfl:pos+1=p':=hr.2.symm
      have HA:=Lib.hid (show atB s.toList pos=true by rw [HAT.out];have:leB s[pos]=true:=(by unfold leB;simp;omega);rw [this];rfl)
      clear hr
      go_wp2
      all_goals
       go_roundw
       case rel=>exact ⟨pos+1,rfl,by omega,upB_succ HU.out HA.out⟩
       case measure=>simp;omega
     ·have hr:r=(s[pos].toNat:Int)/\p'=pos+1:=HR.out.elim id λh=>absurd h.1 (by omega)
      obtain rfl:pos+1=p':=hr.2.symm
      by_cases h0:pos=0
      ·have HA:=Lib.hid (show atB s.toList pos=false by rw [HAT.out];have:leB s[pos]=false:=(by unfold leB;simp;omega);rw [this];simp [h0])
       have h0':((pos:Int)==0)=true:=by simp [h0]
       clear hr h0
       go_wp2
       all_goals
        go_ret
        exact ⟨Zt (by rw [e.out,ZdK (el.out.symm ▸ hp) HA.out];simp),iterBelow _ _ _⟩
      have HA:=Lib.hid (show atB s.toList pos=true by rw [HAT.out];have:diB s[pos]=true:=(by unfold diB;simp;omega);rw [this];simp [h0])
      have h0':((pos:Int)==0)=false:=by simp [h0]
      clear hr h0
      go_wp2
      all_goals
       go_roundw
       case rel=>exact ⟨pos+1,rfl,by omega,upB_succ HU.out HA.out⟩
       case measure=>simp;omega
     ·have hr:r=(s[pos].toNat:Int)/\p'=pos+1:=HR.out.elim id λh=>absurd h.1 (by omega)
      obtain rfl:pos+1=p':=hr.2.symm
      have c2:57<r:=by omega
      have c3:r<97:=by omega
      have c4:(r==95)=true:=by simp [c1]
      by_cases h0:pos=0
      ·have HA:=Lib.hid (show atB s.toList pos=false by rw [HAT.out];have:leB s[pos]=false:=(by unfold leB;simp;omega);rw [this];simp [h0])
       have h0':((pos:Int)==0)=true:=by simp [h0]
       clear hr h0 c1
       go_wp2
       all_goals
        go_ret
        exact ⟨Zt (by rw [e.out,ZdK (el.out.symm ▸ hp) HA.out];simp),iterBelow _ _ _⟩
      have HA:=Lib.hid (show atB s.toList pos=true by rw [HAT.out];have:diB s[pos]=true:=(by unfold diB;simp;omega);rw [this];simp [h0])
      have h0':((pos:Int)==0)=false:=by simp [h0]
      clear hr h0 c1
      go_wp2
      all_goals
       go_roundw
       case rel=>exact ⟨pos+1,rfl,by omega,upB_succ HU.out HA.out⟩
       case measure=>simp;omega
     ·have HA:=Lib.hid (HNO.out (HR.out.elim (λh => .inr ⟨h.1,.inl c1⟩) λh=>absurd h.1 (by omega)))
      have c4:(r==95)=false:=by simp;omega
      go_wp2
      all_goals
       go_ret
       exact ⟨Zt (by rw [e.out,ZdK (el.out.symm ▸ hp) HA.out];simp),iterBelow _ _ _⟩
     ·have HA:=Lib.hid (HNO.out (HR.out.elim (λh => .inr ⟨h.1,.inr (.inl ⟨c1,c2,c3⟩)⟩) λh=>absurd h.1 (by omega)))
      have c4:(r==95)=false:=by simp;omega
      clear c3
      have c0:48<=r:=by omega
      have d1:decide (r<=57)=false:=by simp;omega
      go_wp2
      all_goals
       go_ret
       exact ⟨Zt (by rw [e.out,ZdK (el.out.symm ▸ hp) HA.out];simp),iterBelow _ _ _⟩
     have HA:=Lib.hid (HNO.out (HR.out.elim (λh => .inr ⟨h.1,.inr (.inr c1)⟩) λh => .inl h.2))
     have c4:(r==95)=false:=by simp;omega
     have c5:97<=r:=by omega
     have c6:48<=r:=by omega
     have c7:57<r:=by omega
     have d1:decide (r<=57)=false:=by simp;omega
     have d2:decide (r<=122)=false:=by simp;omega
     go_wp2
     all_goals
      go_ret
      exact ⟨Zt (by rw [e.out,ZdK (el.out.symm ▸ hp) HA.out];simp),iterBelow _ _ _⟩
    have hnx:∀ ty,(Instr.next (.pointer (some ⟨w.heap.size,0,none⟩)) true ty).run Tryz.prog (w.iter s pos)=_:=λty=>run_next_end w s pos ty hp
    go_wp2
    go_ret
    exact ⟨Zt (by rw [e.out,el.out,h3,decide_eq_true (by omega),decide_eq_true (by omega),show s.size=pos by omega,HU.out];rfl),(Below.refl _ _).alloc (Nat.le_refl _) _⟩
variable {s:ByteArray}
theorem hasN_succ (h:k<xs.length) (hk:hasN (xs.take k) s=false) (e:(s.toList==xs[k].toList)=false):hasN (xs.take (k+1)) s=false:=by
 have e':(xs[k].toList==s.toList)=false:=by rw [Bool.beq_comm];exact e
 unfold hasN at *;rw [List.take_succ_eq_append_getElem h,List.any_append,hk];simpa using e'
theorem hasN_yes (h:k<xs.length) (e:(s.toList==xs[k].toList)=true):hasN xs s=true:=by
 unfold hasN;rw [List.any_eq_true];exact ⟨xs[k],List.getElem_mem h,by rw [Bool.beq_comm];exact e⟩
theorem hasN_end (h:k=xs.length) (hk:hasN (xs.take k) s=false):hasN xs s=false:=by
 rwa [List.take_of_length_le (by omega)] at hk
theorem str_cell {b off n cap:Nat} (h:IsSl 1 StrEl lo w (.slice (some ⟨b,off,none⟩) n cap) xs) (k:Nat) (hk:k<xs.length):w.cell? ⟨b,off+k,none⟩=some (.string xs[k])/\xs[k].size<=maxLen:=by
 obtain ⟨b',off',cs,ha,_,_,_,hc,hel⟩:=h.at k hk
 cases ha
 have h0:=hc 0 (by omega)
 rw [hel.1] at h0
 simp only [Nat.add_zero,Nat.mul_one] at h0
 exact ⟨h0.trans rfl,hel.2⟩
theorem Wo {α:Type} {P:Nat->World->List Value->α->Prop} {xs:List α} (h:IsSl size P lo w v xs):(xs=[]/\∃ a c,v = .slice a 0 c)\/∃ b off c,v = .slice (some ⟨b,off,none⟩) xs.length c/\b<w.heap.size/\lo<=b:=by
 obtain ⟨a,cap,rfl,_,_,_,hc⟩:=h
 rcases hc with rfl | ⟨b,off,rfl,hlo,hb,_⟩
 ·exact .inl ⟨rfl,_,_,rfl⟩
 exact .inr ⟨b,off,cap,rfl,hb,hlo⟩
theorem Index_any (s:ByteArray) (h:IsSl 1 StrEl lo w v xs) :
 Calls Tryz.prog 130 #[v,.string s] w λe w'=>∃ i:Int,e = .returned (.int .i64 i)/\(decide (0<=i))=hasN xs s/\w'=w:=by
 have hn:=h.bound
 have H:=Lib.hid h
 rcases Wo h with ⟨rfl,a,c,rfl⟩ | ⟨b,off,c,rfl,_⟩
 ·clear h
  go_enter func130,ntmps130
  go_wp2_with fail
  refine wp_loop_rounds 1 ?_
  rw [rounds_succ]
  go_wp2_with fail
  go_ret
  exact ⟨-1,rfl,rfl,rfl⟩
 generalize hN:xs.length=n at hn
 have HN:=Lib.hid hN
 rw [hN] at H
 clear h hN
 go_enter func130,ntmps130
 go_wp2_with fail
 go_loop [8] (λu=>∃ k:Nat,k<=n/\u = .int .i64 k/\hasN (xs.take k) s=false) (λu=>n-(intOf u).toNat)
 case atStart=>exact ⟨0,Nat.zero_le _,rfl,rfl⟩
 case round =>
  obtain ⟨k,hk,rfl,hs⟩:=hrel
  have HS:=Lib.hid hs
  clear hs
  by_cases h1:k<n
  ·have hkx:k<xs.length:=by rw [HN.out];exact h1
   obtain ⟨g1,_⟩:=str_cell H.out k hkx
   by_cases he:(s.toList==xs[k].toList)=true
   ·have HE:=Lib.hid (hasN_yes hkx he)
    go_wp2_with fail
    go_ret
    exact ⟨k,rfl,by rw [HE.out];simp,rfl⟩
   have he':(s.toList==xs[k].toList)=false:=by simpa using he
   have HE:=Lib.hid (hasN_succ hkx HS.out he')
   clear he
   go_wp2_with fail
   go_round
   case rel=>exact ⟨k+1,by omega,by go_num,HE.out⟩
   case measure=>simp [intOf];omega
  have HE:=Lib.hid (hasN_end (by rw [HN.out];omega) HS.out)
  go_wp2_with fail
  go_ret
  exact ⟨-1,rfl,by rw [HE.out];rfl,rfl⟩
theorem Zbi (s:ByteArray) (h:IsSl 1 StrEl lo w v xs) :
 Calls Tryz.prog 116 #[v,.string s] w λe w'=>e = .returned (.bool (hasN xs s))/\w'=w:=by
 have H:=Lib.hid h
 clear h
 go_enter func116,ntmps116
 go_wp2_with (go_at_call 130;(with_reducible refine (Index_any s H.out).mono ?_);rintro e w1 ⟨i,rfl,hi,rfl⟩;have HI:=Lib.hid hi;clear hi)
 go_ret
 exact ⟨Zt (by rw [<- HI.out]),rfl⟩
variable {a:Option Addr}{cap:Nat}
theorem IsSl.take' {α:Type} {P:Nat->World->List Value->α->Prop} {xs:List α} (h:IsSl size P lo w (.slice a n cap) xs) (k:Nat) (hk:k<=xs.length):IsSl size P lo w (.slice a k cap) (xs.take k):=by
 obtain ⟨a',cap',hv,h1,hm,hn,hc⟩:=h
 simp only [Value.slice.injEq] at hv
 obtain ⟨rfl,rfl,rfl⟩:=hv
 have e:(xs.take k).length=k:=by simp;omega
 refine ⟨a,cap,by rw [e],by omega,hm,hn,?_⟩
 rcases hc with rfl | ⟨b,off,ha,hlo,hb,hc⟩
 ·exact .inl (by simp)
 refine .inr ⟨b,off,ha,hlo,hb,λi hi => ?_⟩
 obtain ⟨cs,g1,g2,g3⟩:=hc i (by omega)
 exact ⟨cs,g1,g2,by simpa using g3⟩
theorem sl_cap {α:Type} {P:Nat->World->List Value->α->Prop} {xs:List α} (h:IsSl size P lo w (.slice a n cap) xs):n<=cap/\n=xs.length:=by
 obtain ⟨a',cap',hv,h1,hm,hn,hc⟩:=h
 simp only [Value.slice.injEq] at hv
 omega
set_option maxRecDepth 100000 in
theorem Zbh {lo g k:Nat} (xss:List (List ByteArray)) (hx:xss.length=k) (hk:k<=1000) (ht:xss.flatten.length<=1000) (hb:g<w.heap.size) (hz:∀ s∈xss.flatten,s.size<=maxLen)
 (hc:∀ i (hi:i<xss.length),∃ u,w.cell? ⟨g,0+i,none⟩=some u/\IsSl 1 StrEl lo w u xss[i]) :
 Calls Tryz.prog 90 #[.slice (some ⟨g,0,none⟩) k k] w λe w'=>e = .returned (.bool (nmOk xss.flatten xss.flatten.length))/\Below w.heap.size w w':=by
 have HC:=Lib.hid hc
 have HZ:=Lib.hid hz
 have HT:=Lib.hid ht
 clear hc hz ht
 go_enter func90,ntmps90
 go_upto_region 2 with (go_at_call 115;(with_reducible refine (ZfL g 0 k k _ xss hx hk HT.out hb HZ.out HC.out).mono ?_);rintro e w1 ⟨v',rfl,hv,hb1⟩;have HV:=Lib.hid hv;have HB1:=Lib.hid hb1;clear hv hb1)
 have hnb:=HV.out.bound
 rcases Wo HV.out with ⟨hnil,a,c,rfl⟩ | ⟨b,off,c,rfl,hbw,_⟩
 ·have E:=Lib.hid (show nmOk xss.flatten xss.flatten.length=true by rw [hnil];rfl)
  clear hnil
  go_wp2_with fail
  refine wp_loop_rounds 1 ?_
  rw [rounds_succ]
  go_wp2_with fail
  go_ret
  exact ⟨Zt E.out.symm,HB1.out⟩
 generalize hN:xss.flatten=all at HV hnb HZ ⊢
 generalize hn:all.length=n at hnb
 have HALL:=Lib.hid hN
 have HN:=Lib.hid hn
 rw [hn] at HV
 have hcap:n<=c:=(sl_cap HV.out).1
 clear hN hn HC
 go_wp2_with fail
 go_loopw [10] (λu wr=>∃ i:Nat,i<=n/\u = .int .i64 i/\nmOk all i=true/\Below w1.heap.size w1 wr) (λu _=>n-(intOf u).toNat)
 case atStart=>exact ⟨0,Nat.zero_le _,rfl,rfl,Below.refl _ _⟩
 case round =>
  obtain ⟨i,hi,rfl,hs,hB⟩:=hrel
  have HS:=Lib.hid hs
  have HB:=Lib.hid hB
  clear hs hB
  have hBW:=Lib.hid (Zq HB1.out HB.out)
  by_cases h1:i<n
  ·have hix:i<all.length:=by rw [HN.out];exact h1
   obtain ⟨g1,hsz⟩:=str_cell HV.out i hix
   have g2:=(HB.out.cell (p:=⟨b,off+i,none⟩) hbw).trans g1
   have HSZ:=Lib.hid hsz
   have HNO:=Lib.hid (λh=>Zfi (xs:=all) (n:=n) hix h1 h)
   have HYES:=Lib.hid (λh h'=>Zel (xs:=all) hix HS.out h h')
   generalize hX:all[i]=x at g2 HSZ HNO HYES
   clear g1 hsz hX
   cases n0:nameB x.toList with
   | false =>
     have N0:=Lib.hid n0
     clear n0
     go_wp2_with (go_at_call 50;(with_reducible refine (YI x _ HSZ.out).mono ?_);rw [N0.out];rintro e w2 ⟨rfl,hb2⟩;have HB2:=Lib.hid hb2;clear hb2)
     go_ret
     exact ⟨Zt (by rw [HALL.out,HN.out];exact (HNO.out (.inl N0.out)).symm),Zq hBW.out HB2.out⟩
   | true =>
     have N0:=Lib.hid n0
     clear n0
     cases d0:hasN (all.take i) x with
     | true =>
       have D0:=Lib.hid d0
       clear d0
       go_wp2_with (first | (go_at_call 50;(with_reducible refine (YI x _ HSZ.out).mono ?_);rw [N0.out];rintro e w2 ⟨rfl,hb2⟩;have HB2:=Lib.hid hb2;clear hb2) | (go_at_call 116;(with_reducible refine (Zbi x ((HV.out.below StrEl.stays (Zq HB.out HB2.out)).take' i (by omega))).mono ?_);rw [D0.out];rintro e w3 ⟨rfl,rfl⟩))
       go_ret
       exact ⟨Zt (by rw [HALL.out,HN.out];exact (HNO.out (.inr D0.out)).symm),Zq hBW.out HB2.out⟩
     | false =>
       have D0:=Lib.hid d0
       clear d0
       go_wp2_with (first | (go_at_call 50;(with_reducible refine (YI x _ HSZ.out).mono ?_);rw [N0.out];rintro e w2 ⟨rfl,hb2⟩;have HB2:=Lib.hid hb2;clear hb2) | (go_at_call 116;(with_reducible refine (Zbi x ((HV.out.below StrEl.stays (Zq HB.out HB2.out)).take' i (by omega))).mono ?_);rw [D0.out];rintro e w3 ⟨rfl,rfl⟩))
       go_roundw
       case rel=>exact ⟨i+1,by omega,by go_num,HYES.out N0.out D0.out,Zq HB.out HB2.out⟩
       case measure=>simp [intOf];omega
  obtain rfl:i=n:=by omega
  go_wp2_with fail
  go_ret
  exact ⟨Zt (by rw [HALL.out,HN.out];exact HS.out.symm),hBW.out⟩
end Go.Proofs.YtmpgnibfhjdfpaaGreat
