import Derived.Test.YtmpgnibfhjdfpaaGreatGrpekigmeek
import Derived.Test.YtmpgnibfhjdfpaaGreatGrpcjplndde
import Derived.Test.YtmpgnibfhjdfpaaGreatGrpfeghdkpi
import Derived.Test.YtmpgnibfhjdfpaaGreatGrpblkdaogj
import Derived.Test.YtmpgnibfhjdfpaaGreatGrpcpddaaie
import Derived.Test.YtmpgnibfhjdfpaaGreatGrphmlokojd
set_option linter.all false
namespace Go.Proofs.YtmpgnibfhjdfpaaGreat
open Go.RowKit Go.Deep Tryz
set_option maxRecDepth 100000
set_option maxHeartbeats 6400000
variable {J:World->Prop}
abbrev XEr1_h1 (x0:List Int) (x1:Nat) (x2:Nat):List (Nat × AV):=[(1,Zc x0),(3,iv x1),(8,iv 0),(9,iv 0),(10,iv 0),(14,iv (x1+1:Nat)),(15,iv ((trun x0 x0.length).se x1)),(16,iv x2),(17,iv (x2+1:Nat)),(73,bT),(94,bT)]
abbrev XEr1_h2 (x0:List Int) (x1:Nat) (x2:Nat):List (Nat × AV):=[(1,Zc x0),(3,iv x1),(8,iv 0),(9,iv 0),(10,iv 0),(14,iv (x1+1:Nat)),(15,iv ((trun x0 x0.length).se x1)),(16,iv (x2:Int)),(17,iv ((x2+1):Nat))]
abbrev XEr1_h3 (x0:List Int) (x1:Nat) (x2:Nat):List (Nat × AV):=[(1,Zc x0),(3,iv x1),(8,iv 0),(9,iv 0),(10,iv 0),(14,iv (-1)),(15,iv (-1)),(16,iv x2),(17,iv (x2+1:Nat)),(73,bT),(94,bT)]
abbrev XEr1_h4 (x0:List Int) (x1:Nat) (x2:Nat):List (Nat × AV):=[(1,Zc x0),(3,iv x1),(8,iv 0),(9,iv 0),(10,iv 0),(14,iv (-1)),(15,iv (-1)),(16,iv (x2:Int)),(17,iv ((x2+1):Nat))]
variable {sh:List Int}{i:Nat}
theorem nbTreeP_c (hI:InOk sh) (hs:shp sh=true) (lsh:sh.length<=100) (hi:i<sh.length):Ctr Tryz.prog J 48 [iv 4,Zc sh,iv sh.length,iv i] (.tup [iv (Jd.lkF 4 sh sh.length i),iv (Jd.lkS 4 sh sh.length i),iv (En.lkP 4 sh sh.length i)]):=by
 refine Zn func48 rfl (pN (.v _)<|pN (Zx _)<|pN (.v _)<|pN (.v _) pZ) (n:=99) rfl (by simp)<|λw0 => kW 99 [] [(0,iv 4),(1,Zc sh),(2,iv sh.length),(3,iv i)]<|jB<|oS (iv 0)<|oS (iv 0)<|oS (iv 0)<|jD<|jB<|oW<|oS (iv sh.length)<|oU ((sh.length:Int)-1)<|oK (Zo Kr<|Jd.in_w hi) [iv i,iv 0,iv ((sh.length:Int)-1)] rfl rfl<|oS bF<|jF<|jM<|Za<|oS (iv 4)<|oC (ZH (r:=false) rfl<|by decide) I0 I0<|jF<|jM<|Za<|oS (iv 4)<|oC (ZH (r:=false) rfl<|by decide) I0 I0<|jF<|jM<|Za<|oS (iv 4)<|oC (Yg (r:=false) rfl<|by decide) I0 I0<|oS bF<|oF (iv sh.length) ?_
 refine oS (iv sh.length)<|gC (Yg rfl<|dT' rfl) I0 I0<|oF bF<|oW<|oK (Zo (Rd.IsShape_c hI lsh) hs) [Zc sh] rfl rfl<|oW<|oS bF<|jF<|jB<|oS (iv<|-1)<|oS (iv<|-1)<|oS (iv<|-1)<|jD<|Zi ?_
 by_cases hs1:sh[i]=2
 refine Za<|oS (Zc sh)<|oS (iv i)<|oC (xS (i*1) 60 61 U24) I0 I0<|oL (iv sh[i]) (Zr sh<|by omega)<|oe (dT hs1)<|jG<|oS (iv i)<|oV ((i+1:Nat):Int)<|oS (iv (i+1:Nat))<|jA<|Za<|oW<|oS (iv i)<|oV ((i+1:Nat):Int)<|oK (Zab hs lsh (by omega) hs1) [Zc sh,iv (i+1:Nat)] rfl rfl<|oS (iv<|(trun sh sh.length).se i)<|kN 99 [] [(1,Zc sh),(3,iv i),(8,iv 0),(9,iv 0),(10,iv 0),(14,iv (i+1:Nat)),(15,iv ((trun sh sh.length).se i)),(16,iv (-1))]<|Zf ?_
 refine jM<|Za<|oS (iv 0)<|kN 99 [] [(1,Zc sh),(3,iv i),(8,iv 0),(9,iv 0),(10,iv 0),(14,iv (i+1:Nat)),(15,iv ((trun sh sh.length).se i)),(16,iv (-1)),(17,iv 0)]<|Zf<|Zh<|Zw (σ:={s:Nat × Int // s.1<=i/\En.parI sh i s.1 s.2}) (λs=>(ofL [],ofT 99 [(1,Zc sh),(3,iv i),(8,iv 0),(9,iv 0),(10,iv 0),(14,iv (i+1:Nat)),(15,iv ((trun sh sh.length).se i)),(16,iv s.1.2),(17,iv s.1.1)])) (λs=>i-s.1.1) ⟨(0,-1),Nat.zero_le _,En.par_zero⟩ (Zk [] _)<|λs => ?_
 obtain ⟨⟨k,q⟩,hk0,hpi⟩:=s
 show ETri J w0 (ofL []) (ofT 99 [(1,Zc sh),(3,iv i),(8,iv 0),(9,iv 0),(10,iv 0),(14,iv (i+1:Nat)),(15,iv ((trun sh sh.length).se i)),(16,iv q),(17,iv k)]) _
 dsimp only at hk0 hpi
 refine jM ?_
 by_cases hs2:(k:Int)<(i:Int)
 refine Za<|W2<|ol (dT hs2)<|jH<|Zj<|jC<|Zh<|Zi ?_
 by_cases hs3:sh[k]=2
 by_cases hs4:((k+1:Nat):Int)=(i:Int)
 refine Za<|oS (Zc sh)<|oS (iv k)<|oC (xS (k*1) 76 77 U24) I0 I0<|oL (iv sh[k]) (Zr sh<|by omega)<|oe (dT hs3)<|oS bT<|oS (iv k)<|oV ((k+1:Nat):Int)<|oW<|oe (dT hs4)<|oS bT<|V5<|qK<|oW<|oS bT<|jH<|Za<|oF (iv k)<|ZL<|Zs<|Zf<|Za<|oS (iv k)<|oV ((k+1:Nat):Int)<|oS (iv (k+1:Nat))<|kN 99 [] (XEr1_h1 sh i k)<|Zf ?_
 refine Zp ⟨(k+1,(k:Int)),by dsimp only;omega,(En.par_here hs (by omega) hs3<|.inl hs4)⟩ (show i-(k+1)<i-k by omega) ?_
 show Wk _ _ (ofL []) (ofT 99<|XEr1_h2 sh i k)
 exact Zk [] _
 by_cases hs5:((trun sh sh.length).se k)=(i:Int)
 refine Za<|oS (Zc sh)<|oS (iv k)<|oC (xS (k*1) 76 77 U24) I0 I0<|oL (iv sh[k]) (Zr sh<|by omega)<|oe (dT hs3)<|oS bT<|oS (iv k)<|oV ((k+1:Nat):Int)<|oW<|oe (dF hs4)<|oS bF<|oW<|oS (iv k)<|oV ((k+1:Nat):Int)<|oK (Zab hs lsh (by omega) hs3) [Zc sh,iv (k+1:Nat)] rfl rfl<|oW<|oe (dT hs5)<|oW<|oS bT<|jH<|Za<|oF (iv k)<|ZL<|Zs<|Zf<|Za<|oS (iv k)<|oV ((k+1:Nat):Int)<|oS (iv (k+1:Nat))<|kN 99 [] (XEr1_h1 sh i k)<|Zf ?_
 refine Zp ⟨(k+1,(k:Int)),by dsimp only;omega,(En.par_here hs (by omega) hs3<|.inr hs5)⟩ (show i-(k+1)<i-k by omega) ?_
 show Wk _ _ (ofL []) (ofT 99<|XEr1_h2 sh i k)
 exact Zk [] _
 refine Za<|oS (Zc sh)<|oS (iv k)<|oC (xS (k*1) 76 77 U24) I0 I0<|oL (iv sh[k]) (Zr sh<|by omega)<|oe (dT hs3)<|oS bT<|oS (iv k)<|oV ((k+1:Nat):Int)<|oW<|oe (dF hs4)<|oS bF<|oW<|oS (iv k)<|oV ((k+1:Nat):Int)<|oK (Zab hs lsh (by omega) hs3) [Zc sh,iv (k+1:Nat)] rfl rfl<|oW<|oe (dF hs5)<|oW<|oS bF<|jI<|Zj<|Zs<|Zf<|Za<|oS (iv k)<|oV ((k+1:Nat):Int)<|oS (iv (k+1:Nat))<|kN 99 [] [(1,Zc sh),(3,iv i),(8,iv 0),(9,iv 0),(10,iv 0),(14,iv (i+1:Nat)),(15,iv ((trun sh sh.length).se i)),(16,iv q),(17,iv (k+1:Nat)),(73,bT),(94,bF)]<|Zf ?_
 refine Zp ⟨(k+1,q),by dsimp only;omega,(En.par_skip hs (by omega) hpi<|.inr ⟨hs3,hs4,hs5⟩)⟩ (show i-(k+1)<i-k by omega) ?_
 show Wk _ _ (ofL []) (ofT 99 [(1,Zc sh),(3,iv i),(8,iv 0),(9,iv 0),(10,iv 0),(14,iv (i+1:Nat)),(15,iv ((trun sh sh.length).se i)),(16,iv q),(17,iv ((k+1):Nat))])
 exact Zk [] _
 refine Za<|oS (Zc sh)<|oS (iv k)<|oC (xS (k*1) 76 77 U24) I0 I0<|oL (iv sh[k]) (Zr sh<|by omega)<|oe (dF hs3)<|oS bF<|V5<|V5<|V2<|oS bF<|jI<|Zj<|Zs<|Zf<|Za<|oS (iv k)<|oV ((k+1:Nat):Int)<|oS (iv (k+1:Nat))<|kN 99 [] [(1,Zc sh),(3,iv i),(8,iv 0),(9,iv 0),(10,iv 0),(14,iv (i+1:Nat)),(15,iv ((trun sh sh.length).se i)),(16,iv q),(17,iv (k+1:Nat)),(73,bT),(94,bF)]<|Zf ?_
 refine Zp ⟨(k+1,q),by dsimp only;omega,(En.par_skip hs (by omega) hpi<|.inl hs3)⟩ (show i-(k+1)<i-k by omega) ?_
 show Wk _ _ (ofL []) (ofT 99 [(1,Zc sh),(3,iv i),(8,iv 0),(9,iv 0),(10,iv 0),(14,iv (i+1:Nat)),(15,iv ((trun sh sh.length).se i)),(16,iv q),(17,iv ((k+1):Nat))])
 exact Zk [] _
 refine Za<|W2<|ol (dF hs2)<|jI<|jO<|jC<|Za<|W3<|oS (iv (i+1:Nat))<|oS (iv<|(trun sh sh.length).se i)<|oS (iv q)<|jE<|Kz results48 (.tmp rfl) (.tmp rfl) (.tmp rfl) ?_
 rw [(Jd.t_2 hs hi hs1).1,(Jd.t_2 hs hi hs1).2,<- En.par_end hs hi (by omega) hk0 hpi]
 exact rfl
 refine Za<|oS (Zc sh)<|oS (iv i)<|oC (xS (i*1) 60 61 U24) I0 I0<|oL (iv sh[i]) (Zr sh<|by omega)<|oe (dF hs1)<|jF<|jM<|Za<|oS (iv 0)<|kN 99 [] [(1,Zc sh),(3,iv i),(8,iv 0),(9,iv 0),(10,iv 0),(14,iv (-1)),(15,iv (-1)),(16,iv (-1)),(17,iv 0)]<|Zf<|Zh<|Zw (σ:={s:Nat × Int // s.1<=i/\En.parI sh i s.1 s.2}) (λs=>(ofL [],ofT 99 [(1,Zc sh),(3,iv i),(8,iv 0),(9,iv 0),(10,iv 0),(14,iv (-1)),(15,iv (-1)),(16,iv s.1.2),(17,iv s.1.1)])) (λs=>i-s.1.1) ⟨(0,-1),Nat.zero_le _,En.par_zero⟩ (Zk [] _)<|λs => ?_
 obtain ⟨⟨k,q⟩,hk0,hpi⟩:=s
 show ETri J w0 (ofL []) (ofT 99 [(1,Zc sh),(3,iv i),(8,iv 0),(9,iv 0),(10,iv 0),(14,iv (-1)),(15,iv (-1)),(16,iv q),(17,iv k)]) _
 dsimp only at hk0 hpi
 refine jM ?_
 by_cases hs6:(k:Int)<(i:Int)
 refine Za<|W2<|ol (dT hs6)<|jH<|Zj<|jC<|Zh<|Zi ?_
 by_cases hs7:sh[k]=2
 by_cases hs8:((k+1:Nat):Int)=(i:Int)
 refine Za<|oS (Zc sh)<|oS (iv k)<|oC (xS (k*1) 76 77 U24) I0 I0<|oL (iv sh[k]) (Zr sh<|by omega)<|oe (dT hs7)<|oS bT<|oS (iv k)<|oV ((k+1:Nat):Int)<|oW<|oe (dT hs8)<|oS bT<|V5<|qK<|oW<|oS bT<|jH<|Za<|oF (iv k)<|ZL<|Zs<|Zf<|Za<|oS (iv k)<|oV ((k+1:Nat):Int)<|oS (iv (k+1:Nat))<|kN 99 [] (XEr1_h3 sh i k)<|Zf ?_
 refine Zp ⟨(k+1,(k:Int)),by dsimp only;omega,(En.par_here hs (by omega) hs7<|.inl hs8)⟩ (show i-(k+1)<i-k by omega) ?_
 show Wk _ _ (ofL []) (ofT 99<|XEr1_h4 sh i k)
 exact Zk [] _
 by_cases hs9:((trun sh sh.length).se k)=(i:Int)
 refine Za<|oS (Zc sh)<|oS (iv k)<|oC (xS (k*1) 76 77 U24) I0 I0<|oL (iv sh[k]) (Zr sh<|by omega)<|oe (dT hs7)<|oS bT<|oS (iv k)<|oV ((k+1:Nat):Int)<|oW<|oe (dF hs8)<|oS bF<|oW<|oS (iv k)<|oV ((k+1:Nat):Int)<|oK (Zab hs lsh (by omega) hs7) [Zc sh,iv (k+1:Nat)] rfl rfl<|oW<|oe (dT hs9)<|oW<|oS bT<|jH<|Za<|oF (iv k)<|ZL<|Zs<|Zf<|Za<|oS (iv k)<|oV ((k+1:Nat):Int)<|oS (iv (k+1:Nat))<|kN 99 [] (XEr1_h3 sh i k)<|Zf ?_
 refine Zp ⟨(k+1,(k:Int)),by dsimp only;omega,(En.par_here hs (by omega) hs7<|.inr hs9)⟩ (show i-(k+1)<i-k by omega) ?_
 show Wk _ _ (ofL []) (ofT 99<|XEr1_h4 sh i k)
 exact Zk [] _
 refine Za<|oS (Zc sh)<|oS (iv k)<|oC (xS (k*1) 76 77 U24) I0 I0<|oL (iv sh[k]) (Zr sh<|by omega)<|oe (dT hs7)<|oS bT<|oS (iv k)<|oV ((k+1:Nat):Int)<|oW<|oe (dF hs8)<|oS bF<|oW<|oS (iv k)<|oV ((k+1:Nat):Int)<|oK (Zab hs lsh (by omega) hs7) [Zc sh,iv (k+1:Nat)] rfl rfl<|oW<|oe (dF hs9)<|oW<|oS bF<|jI<|Zj<|Zs<|Zf<|Za<|oS (iv k)<|oV ((k+1:Nat):Int)<|oS (iv (k+1:Nat))<|kN 99 [] [(1,Zc sh),(3,iv i),(8,iv 0),(9,iv 0),(10,iv 0),(14,iv (-1)),(15,iv (-1)),(16,iv q),(17,iv (k+1:Nat)),(73,bT),(94,bF)]<|Zf ?_
 refine Zp ⟨(k+1,q),by dsimp only;omega,(En.par_skip hs (by omega) hpi<|.inr ⟨hs7,hs8,hs9⟩)⟩ (show i-(k+1)<i-k by omega) ?_
 show Wk _ _ (ofL []) (ofT 99 [(1,Zc sh),(3,iv i),(8,iv 0),(9,iv 0),(10,iv 0),(14,iv (-1)),(15,iv (-1)),(16,iv q),(17,iv ((k+1):Nat))])
 exact Zk [] _
 refine Za<|oS (Zc sh)<|oS (iv k)<|oC (xS (k*1) 76 77 U24) I0 I0<|oL (iv sh[k]) (Zr sh<|by omega)<|oe (dF hs7)<|oS bF<|V5<|V5<|V2<|oS bF<|jI<|Zj<|Zs<|Zf<|Za<|oS (iv k)<|oV ((k+1:Nat):Int)<|oS (iv (k+1:Nat))<|kN 99 [] [(1,Zc sh),(3,iv i),(8,iv 0),(9,iv 0),(10,iv 0),(14,iv (-1)),(15,iv (-1)),(16,iv q),(17,iv (k+1:Nat)),(73,bT),(94,bF)]<|Zf ?_
 refine Zp ⟨(k+1,q),by dsimp only;omega,(En.par_skip hs (by omega) hpi<|.inl hs7)⟩ (show i-(k+1)<i-k by omega) ?_
 show Wk _ _ (ofL []) (ofT 99 [(1,Zc sh),(3,iv i),(8,iv 0),(9,iv 0),(10,iv 0),(14,iv (-1)),(15,iv (-1)),(16,iv q),(17,iv ((k+1):Nat))])
 exact Zk [] _
 refine Za<|W2<|ol (dF hs6)<|jI<|jO<|jC<|Za<|W3<|oS (iv<|-1)<|oS (iv<|-1)<|oS (iv q)<|jE<|Kz results48 (.tmp rfl) (.tmp rfl) (.tmp rfl) ?_
 rw [(Jd.t_0 hs hi hs1).1,(Jd.t_0 hs hi hs1).2,<- En.par_end hs hi (by omega) hk0 hpi]
 exact rfl
theorem nbClq_c {n i:Nat} (hi:i<n) (hn:n<=100) :Ctr Tryz.prog J 48 [iv 1,Zc sh,iv n,iv i] (.tup [iv (-1),iv (-1),iv (-1)]):=by
 refine Zn func48 rfl (pN (.v _)<|pN (Zx _)<|pN (.v _)<|pN (.v _) pZ) (n:=99) rfl (by simp)<|λw0 => kW 99 [] [(0,iv 1),(1,Zc sh),(2,iv n),(3,iv i)]<|jB<|oS (iv 0)<|oS (iv 0)<|oS (iv 0)<|jD<|jB<|oW<|oS (iv n)<|oU ((n:Int)-1)<|oK (Zo Kr<|Jd.in_w hi) [iv i,iv 0,iv ((n:Int)-1)] rfl rfl<|oS bF<|jF<|jM<|Za<|oS (iv 1)<|oC (ZH (r:=false) rfl<|by decide) I0 I0<|jF<|jM<|Za<|oS (iv 1)<|oC (ZH (r:=false) rfl<|by decide) I0 I0<|jF<|jM<|Za<|oS (iv 1)<|oC (Yg (r:=true) rfl<|by decide) I0 I0<|oS bT<|qK<|qK<|V2<|oF bT<|V3<|oS bT<|jG<|oS (iv<|-1)<|oS (iv<|-1)<|oS (iv<|-1)<|jE<|Zb ?_
 exact Kz results48 (.tmp rfl) (.tmp rfl) (.tmp rfl)<|rfl
variable {p:Fm}{n f:Int}{c:Cf}
theorem nbP_c (HC:Rd.CgOk c) (hc:En.CfV p n f c) (hv:valE p=0) (hi:i<c.st.length):Ctr Tryz.prog J 48 [iv p.top,Zc c.sh,iv (c.st.length:Int),iv (i:Int)] (.tup [iv (En.nF p.top c.sh c.st.length i),iv (En.nS p.top c.sh c.st.length i),iv (En.nP p.top c.sh c.st.length i)]):=by
 have ht:=Jd.top_in hv
 by_cases h1:p.top=1
 ·rw [h1]
  exact nbClq_c hi HC.lst
 unfold En.nF En.nS En.nP
 rw [if_neg h1,if_neg h1,if_neg h1]
 by_cases h4:p.top=4
 ·have hs:=En.sh_tree hc h4
  unfold isShp at hs
  simp only [Bool.and_eq_true,decide_eq_true_eq] at hs
  have hl:c.sh.length=c.st.length:=by omega
  rw [h4,<- hl]
  exact nbTreeP_c HC.sh hs.2 HC.lsh (by omega)
 rw [En.lkP_row h4]
 obtain h | h:p.top=2\/p.top=3:=by omega
 ·rw [h];exact nbLine_c hi HC.lst
 rw [h];exact nbRing_c hi HC.lst
abbrev ZdC (x0:Fm) (x1:Int) (x2:Int) (x3:Int) (x4:Cf):List (Nat × ABlk):=[(1,.box 27 (cFm x0)),(2,.box 32 (cSz x1 x2 x3)),(3,.box 36 (Rd.cCg x4))]
variable {t x:Int}{fo:Bool}
theorem rheard_c (hc:En.CfV p n f c) (hf:0<=f/\f<=1048576) (h0:0<=x) (hm:x.toNat<p.msgs.length) :Ctr Tryz.prog J 128 [.agg (cFm p),.agg (cSz n t f),.agg (Rd.cCg c),iv x,bv fo] (iv<|En.hdG p f c fo x.toNat):=by
 have hse:x.toNat<c.se.length:=by rw [hc.ls];exact hm
 have hfa:x.toNat<c.fa.length:=by rw [hc.lf];exact hm
 have b1:=hc.se _<|List.getElem_mem hse
 have b2:=hc.fa _<|List.getElem_mem hfa
 refine Zn func128 rfl (pN (Zg<|Zy p)<|pN (Zg<|ZT n t f)<|pN (Zg<|Rd.plain_cg c)<|pN (.v _)<|pN (.v _) pZ) (n:=54) rfl (by simp)<|λw0 => kW 54 [] [(0,.agg (cFm p)),(1,.agg (cSz n t f)),(2,.agg (Rd.cCg c)),(3,iv x),(4,bv fo)]<|jB<|oX 1 (.agg (cFm p))<|oX 2 (.agg (cSz n t f))<|oX 3 (.agg (Rd.cCg c))<|oS (iv 0)<|jD<|Zi ?_
 by_cases hs1:p.fzz=1
 refine Za<|W2<|oe (dT hs1)<|oS bT<|V5<|V2<|oS bT<|jH<|Zi<|tD<|dW<|dS (Zc c.se)<|dS (iv x)<|dC (xS (x.toNat*1) 24 25 U24) I0 I0<|dL (iv c.se[x.toNat]) (Zr c.se<|by omega)<|dW<|dS (Zc c.fa)<|dS (iv x)<|dC (xS (x.toNat*1) 29 30 U24) I0 I0<|dL (iv c.fa[x.toNat]) (Zr c.fa<|by omega)<|dC (WH (c:=c.se[x.toNat]+c.fa[x.toNat]) rfl<|w64 (by omega) (by omega)<|by omega) I0 I0<|dS (iv<|c.se[x.toNat]+c.fa[x.toNat])<|eD<|Zf<|jN<|Zd results128 (.tmp rfl) ?_
 rw [En.g_1 hm hs1,Ct.getD_at hse,Ct.getD_at hfa]
 exact rfl
 by_cases hs2:p.fzz=2
 by_cases hs3:fo=true
 rw [hs3]
 refine kW 54 (ZdC p n t f c) [(3,iv x),(4,bT),(5,bx 1),(6,bx 2),(7,bx 3),(10,iv 0)]<|Za<|W2<|oe (dF hs1)<|oS bF<|W2<|oe (dT hs2)<|oS bT<|W3<|oS bF<|jF<|jM<|Za<|oF (iv p.fzz)<|oC (ZH rfl<|dF<|by omega) I0 I0<|oS bF<|V2<|oS bF<|jF<|jB<|oF (Zc c.se)<|oS (iv x)<|oC (xS (x.toNat*1) 50 51 U24) I0 I0<|oL (iv c.se[x.toNat]) (Zr c.se<|by omega)<|oS (iv c.se[x.toNat])<|jE<|Zd results128 (.tmp rfl) ?_
 rw [En.g_t hs1,Ct.getD_at hse]
 exact rfl
 have hs3f:fo=false:=by simpa using hs3
 rw [hs3f]
 refine kW 54 (ZdC p n t f c) [(3,iv x),(4,bF),(5,bx 1),(6,bx 2),(7,bx 3),(10,iv 0)]<|Za<|W2<|oe (dF hs1)<|oS bF<|W2<|oe (dT hs2)<|oS bT<|W3<|oS bT<|jH<|Zi<|tD<|dW<|dS (Zc c.se)<|dS (iv x)<|dC (xS (x.toNat*1) 24 25 U24) I0 I0<|dL (iv c.se[x.toNat]) (Zr c.se<|by omega)<|dW<|dS (Zc c.fa)<|dS (iv x)<|dC (xS (x.toNat*1) 29 30 U24) I0 I0<|dL (iv c.fa[x.toNat]) (Zr c.fa<|by omega)<|dC (WH (c:=c.se[x.toNat]+c.fa[x.toNat]) rfl<|w64 (by omega) (by omega)<|by omega) I0 I0<|dS (iv<|c.se[x.toNat]+c.fa[x.toNat])<|eD<|Zf<|jN<|Zd results128 (.tmp rfl) ?_
 rw [En.g_2 hm hs2 rfl,Ct.getD_at hse,Ct.getD_at hfa]
 exact rfl
 refine Za<|W2<|oe (dF hs1)<|oS bF<|W2<|oe (dF hs2)<|oS bF<|V2<|oW<|oS bF<|jF<|jM ?_
 by_cases hs4:p.fzz=3
 by_cases hs5:fo=true
 rw [hs5]
 refine kW 54 (ZdC p n t f c) [(3,iv x),(4,bT),(5,bx 1),(6,bx 2),(7,bx 3),(10,iv 0),(22,bF)]<|Za<|W2<|oe (dT hs4)<|oS bT<|W2<|oS bF<|jF<|jB<|oF (Zc c.se)<|oS (iv x)<|oC (xS (x.toNat*1) 50 51 U24) I0 I0<|oL (iv c.se[x.toNat]) (Zr c.se<|by omega)<|oS (iv c.se[x.toNat])<|jE<|Zd results128 (.tmp rfl) ?_
 rw [En.g_t hs1,Ct.getD_at hse]
 exact rfl
 have hs5f:fo=false:=by simpa using hs5
 rw [hs5f]
 refine kW 54 (ZdC p n t f c) [(3,iv x),(4,bF),(5,bx 1),(6,bx 2),(7,bx 3),(10,iv 0),(22,bF)]<|Za<|W2<|oe (dT hs4)<|oS bT<|W2<|oS bT<|jH<|Zi<|tD<|dW<|dS (Zc c.se)<|dS (iv x)<|dC (xS (x.toNat*1) 42 43 U24) I0 I0<|dL (iv c.se[x.toNat]) (Zr c.se<|by omega)<|dW<|dS (iv f)<|dC (WH (c:=c.se[x.toNat]+f) rfl<|w64 (by omega) (by omega)<|by omega) I0 I0<|dS (iv<|c.se[x.toNat]+f)<|eD<|Zf<|jN<|Zd results128 (.tmp rfl) ?_
 rw [En.g_3 hm hs1 hs2 hs4 rfl,Ct.getD_at hse]
 exact rfl
 refine Za<|W2<|oe (dF hs4)<|oS bF<|V2<|oS bF<|jF<|jB<|oF (Zc c.se)<|oS (iv x)<|oC (xS (x.toNat*1) 50 51 U24) I0 I0<|oL (iv c.se[x.toNat]) (Zr c.se<|by omega)<|oS (iv c.se[x.toNat])<|jE<|Zd results128 (.tmp rfl) ?_
 rw [En.g_0 hm hs1 hs2 hs4,Ct.getD_at hse]
 exact rfl
theorem Wg (HC:Rd.CgOk c) {l:List Int} (ll:l.length<=9223372036854775807) (hx:x<(c.st.length:Int)):Ctr Tryz.prog J 114 [.agg (Rd.cCg c),Zc l,iv x] (bv<|En.fitB c x l):=by
 have l100:=HC.lst
 refine Zn func114 rfl (pN (Zg<|Rd.plain_cg c)<|pN (Zx _)<|pN (.v _) pZ) (n:=23) rfl (by simp)<|λw0 => kW 23 [] [(0,.agg (Rd.cCg c)),(1,Zc l),(2,iv x)]<|jB<|oX 1 (.agg (Rd.cCg c))<|oS bF<|jD ?_
 by_cases hs1:(l.length:Int)=0
 refine Za<|W2<|oe (dT hs1)<|oS bT<|V5<|V5<|qK<|oF bT<|jE<|Zd results114 (.tmp rfl) ?_
 exact cB<|(by unfold En.fitB;simp only [dT hs1,decide_true,decide_false,Bool.and_true,Bool.true_and,Bool.false_and,Bool.and_false,Bool.true_or,Bool.false_or,Bool.or_true,Bool.or_false,Bool.not_true,Bool.not_false])
 by_cases hs2:0<=x
 refine Za<|W2<|oe (dF hs1)<|oS bF<|oW<|oh (dT hs2)<|oS bT<|oW<|oF (Zc c.st)<|oS (iv x)<|gC (xS (x.toNat*1) 16 17 U24) I0 I0<|oL (iv c.st[x.toNat]) (Zr c.st<|by omega)<|oK (ZaG l c.st[x.toNat] ll) [Zc l,iv c.st[x.toNat]] rfl rfl<|oW<|oF (bv<|decide<|c.st[x.toNat]∈l)<|jE<|Zd results114 (.tmp rfl) ?_
 exact cB<|(by unfold En.fitB;rw [Ct.getD_at (L:=c.st) (i:=x.toNat) (by omega)];simp only [dF hs1,dT hs2,decide_true,decide_false,Bool.and_true,Bool.true_and,Bool.false_and,Bool.and_false,Bool.true_or,Bool.false_or,Bool.or_true,Bool.or_false,Bool.not_true,Bool.not_false])
 refine Za<|W2<|oe (dF hs1)<|oS bF<|oW<|oh (dF hs2)<|oS bF<|V5<|V2<|oW<|oF bF<|jE<|Zd results114 (.tmp rfl) ?_
 exact cB<|(by unfold En.fitB;simp only [dF hs1,dF hs2,decide_true,decide_false,Bool.and_true,Bool.true_and,Bool.false_and,Bool.and_false,Bool.true_or,Bool.false_or,Bool.or_true,Bool.or_false,Bool.not_true,Bool.not_false])
theorem En.lo_gdr {r:Ru} {g:Nat->Int} {i k:Nat} (hk:k<r.gz.length) (h:r.gz[k].coef*g r.gz[k].msg.toNat<evN r.gz[k].bd.c r.gz[k].bd.n r.gz[k].bd.t r.gz[k].bd.f n t f):En.loB n t f c r g i=false:=by
 refine En.lo_gd hk ?_
 unfold En.gbV
 rw [List.getD_eq_getElem?_getD,List.getElem?_eq_getElem hk,Option.getD_some]
 exact h
abbrev ZfF (x0:Fm) (x1:Int) (x2:Int) (x3:Int) (x4:Cf) (x5:Ru):List (Nat × ABlk):=[(1,.box 27 (cFm x0)),(2,.box 32 (cSz x1 x2 x3)),(3,.box 36 (Rd.cCg x4)),(4,.box 79 (cRu x5))]
abbrev YV (x0:Cf) (x1:Ru):List (Nat × ABlk):=[(3,.box 36 (Rd.cCg x0)),(4,.box 79 (cRu x1))]
abbrev XEr3_h3 (x0:Nat) (x1:Nat):List (Nat × AV):=[(4,iv x0),(8,bx 3),(9,bx 4),(17,bT),(18,iv x1),(58,bT),(63,bF)]
abbrev XEr3_h4 (x0:Nat) (x1:Nat):List (Nat × AV):=[(4,iv x0),(8,bx 3),(9,bx 4),(17,bT),(18,iv x1),(58,bT),(63,bF),(89,bF)]
abbrev XEr3_h5 (x0:Nat) (x1:Nat):List (Nat × AV):=[(4,iv x0),(8,bx 3),(9,bx 4),(17,bT),(18,iv (x1+1:Nat)),(58,bT),(63,bF),(89,bF)]
variable {r:Nat}
set_option maxRecDepth 100000 in
set_option maxHeartbeats 6400000 in
theorem rlocal_c (HL:FamLen p) (HC:Rd.CgOk c) (hc:En.CfV p n f c) (hf:0<=f/\f<=1048576) (hr:r<p.rz.length) (R:En.RuV p p.rz[r]) (hrd:En.rdN c p.rz[r]=false):Ctr Tryz.prog J 113 [.agg (cFm p),.agg (cSz n t f),.agg (Rd.cCg c),.agg (cRu p.rz[r]),iv i,bv fo] (bv<|En.loB n t f c p.rz[r] (En.hdG p f c fo) i):=by
 have hle:_<=9223372036854775807:=Nat.le_trans (HL.rz _<|List.getElem_mem hr).ex (by decide)
 have hlf:_<=9223372036854775807:=Nat.le_trans (HL.rz _<|List.getElem_mem hr).fa (by decide)
 have hlst:=HC.lst
 have hgl:=R.gl
 refine Zn func113 rfl (pN (Zg<|Zy p)<|pN (Zg<|ZT n t f)<|pN (Zg<|Rd.plain_cg c)<|pN (Zg<|Yr _)<|pN (.v _)<|pN (.v _) pZ) (n:=91) rfl (by simp)<|λw0 => kW 91 [] [(0,.agg (cFm p)),(1,.agg (cSz n t f)),(2,.agg (Rd.cCg c)),(3,.agg (cRu p.rz[r])),(4,iv i),(5,bv fo)]<|jB<|oX 1 (.agg (cFm p))<|oX 2 (.agg (cSz n t f))<|oX 3 (.agg (Rd.cCg c))<|oX 4 (.agg (cRu p.rz[r]))<|oS bF<|jD<|jB<|oS (iv 0)<|kN 91 (ZfF p n t f c p.rz[r]) [(4,iv i),(5,bv fo),(6,bx 1),(7,bx 2),(8,bx 3),(9,bx 4),(12,bF),(13,iv 0)]<|Zf<|Zh ?_
 refine Zw (σ:={k:Nat // k<=p.rz[r].gz.length/\Rd.noP p.rz[r].gz (En.gdN n t f<|En.hdG p f c fo) k}) (λs=>(ofL (ZfF p n t f c p.rz[r]),ofT 91 [(4,iv i),(5,bv fo),(6,bx 1),(7,bx 2),(8,bx 3),(9,bx 4),(13,iv s.1)])) (λs=>p.rz[r].gz.length-s.1) ⟨0,Nat.zero_le _,Rd.noP_zero _ _⟩ (Zk _ _)<|λs => ?_
 obtain ⟨k,hk0,hs0⟩:=s
 show ETri J w0 (ofL<|ZfF p n t f c p.rz[r]) (ofT 91 [(4,iv i),(5,bv fo),(6,bx 1),(7,bx 2),(8,bx 3),(9,bx 4),(13,iv k)]) _
 refine jM ?_
 by_cases hs1:(k:Int)<((p.rz[r].gz.length:Nat):Int)
 have hk1:k<p.rz[r].gz.length:=by omega
 have hgk:=R.gd _<|List.getElem_mem hk1
 have hgb:=En.hdG_in hc hf fo p.rz[r].gz[k].msg.toNat
 refine Za<|W4<|ol (dT hs1)<|jH<|Zj<|jC<|Zh<|jB<|oF (slA 6 cTh p.rz[r].gz)<|oS (iv k)<|oC (xS (k*6) 27 28 U77) I0 I0<|oA (Zl (z:=6) (.tmp 29) rfl U118 rfl (by kernel_rfl) (ZJ lenTh p.rz[r].gz k (by omega)) rfl) I0<|oZ 5 Z118<|oY<|kN 91 [(1,.box 27 (cFm p)),(2,.box 32 (cSz n t f)),(3,.box 36 (Rd.cCg c)),(4,.box 79 (cRu p.rz[r])),(5,.box 118 (cTh p.rz[r].gz[k]))] [(4,iv i),(5,bv fo),(6,bx 1),(7,bx 2),(8,bx 3),(9,bx 4),(13,iv k),(14,bx 5),(23,bT)]<|jC ?_
 refine Za<|W3<|oK (rEv_c (l:=p.rz[r].gz[k].bd)) [.agg [iv p.rz[r].gz[k].bd.c,iv p.rz[r].gz[k].bd.n,iv p.rz[r].gz[k].bd.t,iv p.rz[r].gz[k].bd.f],.agg (cSz n t f)] rfl rfl<|oS (.tup [iv (evN p.rz[r].gz[k].bd.c p.rz[r].gz[k].bd.n p.rz[r].gz[k].bd.t p.rz[r].gz[k].bd.f n t f),iv (evE p.rz[r].gz[k].bd.c p.rz[r].gz[k].bd.n p.rz[r].gz[k].bd.t p.rz[r].gz[k].bd.f n t f)])<|W2<|oS (iv<|evN p.rz[r].gz[k].bd.c p.rz[r].gz[k].bd.n p.rz[r].gz[k].bd.t p.rz[r].gz[k].bd.f n t f)<|oS (iv<|evE p.rz[r].gz[k].bd.c p.rz[r].gz[k].bd.n p.rz[r].gz[k].bd.t p.rz[r].gz[k].bd.f n t f)<|jD ?_
 by_cases hs2:p.rz[r].gz[k].coef*(En.hdG p f c fo p.rz[r].gz[k].msg.toNat)<(evN p.rz[r].gz[k].bd.c p.rz[r].gz[k].bd.n p.rz[r].gz[k].bd.t p.rz[r].gz[k].bd.f n t f)
 refine tD<|dW<|dS (iv p.rz[r].gz[k].coef)<|dW<|dW<|dW<|dW<|dW<|dW<|dk (rheard_c hc hf hgk.1<|by omega) [.agg (cFm p),.agg (cSz n t f),.agg (Rd.cCg c),iv p.rz[r].gz[k].msg,bv fo] rfl rfl<|dC (sp_mul (c:=p.rz[r].gz[k].coef*(En.hdG p f c fo p.rz[r].gz[k].msg.toNat)) rfl<|En.mulW hgk.2.2.1 hgk.2.2.2 hgb.1 hgb.2) I0 I0<|dW<|dl (dT hs2)<|eD ?_
 exact kW 91 [(1,.box 27 (cFm p)),(2,.box 32 (cSz n t f)),(3,.box 36 (Rd.cCg c)),(4,.box 79 (cRu p.rz[r])),(5,.box 118 (cTh p.rz[r].gz[k]))] [(4,iv i),(5,bv fo),(6,bx 1),(7,bx 2),(8,bx 3),(9,bx 4),(13,iv k),(14,bx 5),(15,iv (evN p.rz[r].gz[k].bd.c p.rz[r].gz[k].bd.n p.rz[r].gz[k].bd.t p.rz[r].gz[k].bd.f n t f)),(23,bT),(49,bT)]<|Zf<|jK<|oS bF<|jE<|Ze<|Zb<|Zb<|Ze<|Zb<|Zd results113 (.tmp rfl)<|cB<|(En.lo_gdr hk1 hs2).symm
 refine tD<|dW<|dS (iv p.rz[r].gz[k].coef)<|dW<|dW<|dW<|dW<|dW<|dW<|dk (rheard_c hc hf hgk.1<|by omega) [.agg (cFm p),.agg (cSz n t f),.agg (Rd.cCg c),iv p.rz[r].gz[k].msg,bv fo] rfl rfl<|dC (sp_mul (c:=p.rz[r].gz[k].coef*(En.hdG p f c fo p.rz[r].gz[k].msg.toNat)) rfl<|En.mulW hgk.2.2.1 hgk.2.2.2 hgb.1 hgb.2) I0 I0<|dW<|dl (dF hs2)<|eD ?_
 refine kW 91 [(1,.box 27 (cFm p)),(2,.box 32 (cSz n t f)),(3,.box 36 (Rd.cCg c)),(4,.box 79 (cRu p.rz[r])),(5,.box 118 (cTh p.rz[r].gz[k]))] [(4,iv i),(5,bv fo),(6,bx 1),(7,bx 2),(8,bx 3),(9,bx 4),(13,iv k),(14,bx 5),(15,iv (evN p.rz[r].gz[k].bd.c p.rz[r].gz[k].bd.n p.rz[r].gz[k].bd.t p.rz[r].gz[k].bd.f n t f)),(23,bT),(49,bF)]<|Zf<|Zu rfl<|Zj<|Zs<|Zf<|Za<|oS (iv k)<|oV ((k+1:Nat):Int)<|oS (iv (k+1:Nat))<|kN 91 [(1,.box 27 (cFm p)),(2,.box 32 (cSz n t f)),(3,.box 36 (Rd.cCg c)),(4,.box 79 (cRu p.rz[r])),(5,.box 118 (cTh p.rz[r].gz[k]))] [(4,iv i),(5,bv fo),(6,bx 1),(7,bx 2),(8,bx 3),(9,bx 4),(13,iv (k+1:Nat)),(14,bx 5),(15,iv (evN p.rz[r].gz[k].bd.c p.rz[r].gz[k].bd.n p.rz[r].gz[k].bd.t p.rz[r].gz[k].bd.f n t f)),(23,bT),(49,bF)]<|Zf ?_
 exact Zp ⟨k+1,by omega,Rd.noP_succ hk1 hs0 (decide_eq_false hs2)⟩ (show p.rz[r].gz.length-(k+1)<p.rz[r].gz.length-k by omega)<|Zk _ _
 refine Za<|W4<|ol (dF hs1)<|jI<|jO<|jC<|Za<|oW<|oF (iv (p.rz[r].ex.length:Nat))<|oC (ZH rfl rfl) I0 I0<|oS (bv<|decide<|((p.rz[r].ex.length:Nat):Int)=0)<|jD<|Zi<|Za<|oS (iv 0)<|kN 91 [(3,.box 36 (Rd.cCg c)),(4,.box 79 (cRu p.rz[r]))] [(4,iv i),(8,bx 3),(9,bx 4),(17,bv (decide<|((p.rz[r].ex.length:Nat):Int)=0)),(18,iv 0)]<|Zf<|Zh ?_
 rw [<- En.exU_zero (c:=c) (i:=i)]
 refine Zw (σ:={j:Nat // j<=c.st.length/\En.noF c p.rz[r] i j}) (λs=>(ofL (YV c p.rz[r]),ofT 91 [(4,iv i),(8,bx 3),(9,bx 4),(17,bv (En.exU c p.rz[r] i s.1)),(18,iv s.1)])) (λs=>c.st.length-s.1) ⟨0,Nat.zero_le _,En.noF_zero⟩ (Zk _ _)<|λs => ?_
 obtain ⟨j,hj0,hnf⟩:=s
 show ETri J w0 (ofL<|YV c p.rz[r]) (ofT 91 [(4,iv i),(8,bx 3),(9,bx 4),(17,bv (En.exU c p.rz[r] i j)),(18,iv j)]) _
 refine jM ?_
 by_cases hs3:(j:Int)<(c.st.length:Int)
 have hj1:j<c.st.length:=by omega
 refine Za<|W4<|ol (dT hs3)<|jH<|Zj<|jC<|Zh<|jM ?_
 by_cases hs4:(j:Int)=(i:Int)
 refine Za<|W2<|oe (dT hs4)<|jH<|KR<|ZS<|ZdP<|Zf<|Za<|oS (iv j)<|oV ((j+1:Nat):Int)<|oS (iv (j+1:Nat))<|kN 91 (YV c p.rz[r]) [(4,iv i),(8,bx 3),(9,bx 4),(17,bv (En.exU c p.rz[r] i j)),(18,iv (j+1:Nat)),(58,bT),(63,bT)]<|Zf<|Zp ⟨j+1,by omega,En.noF_succ hnf (En.fa_same<|by omega)⟩ (show c.st.length-(j+1)<c.st.length-j by omega) ?_
 show Wk _ _ (ofL [(3,.box 36 (Rd.cCg c)),(4,.box 79 (cRu p.rz[r]))]) (ofT 91 [(4,iv i),(8,bx 3),(9,bx 4),(17,bv (En.exU c p.rz[r] i (j+1))),(18,iv ((j+1):Nat))])
 rw [En.exU_same (by omega)]
 exact Zk _ _
 refine Za<|W2<|oe (dF hs4)<|jF<|Zi ?_
 by_cases hs5:(En.exU c p.rz[r] i j)=true
 rw [hs5]
 refine kW 91 (YV c p.rz[r]) (XEr3_h3 i j)<|tD<|dW<|dS bT<|dK<|dK<|dK<|dK<|dK<|dK<|dK<|dK<|dW<|dS bT<|eD<|kW 91 (YV c p.rz[r]) (XEr3_h3 i j)<|jC ?_
 by_cases hs6:0<((p.rz[r].fa.length:Nat):Int)
 by_cases hs7:(decide<|c.st[j]∈p.rz[r].fa)=true
 refine tD<|dW<|dW<|dW<|dg (dT hs6)<|dS bT<|dW<|dW<|dW<|dS (Zc c.st)<|dS (iv j)<|dC (xS (j*1) 83 84 U24) I0 I0<|dL (iv c.st[j]) (Zr c.st<|by omega)<|dk (Zo (ZaG p.rz[r].fa c.st[j] hlf) hs7) [Zc p.rz[r].fa,iv c.st[j]] rfl rfl<|dW<|dS bF<|eD<|kW 91 (YV c p.rz[r]) (XEr3_h4 i j)<|Zf<|Zu rfl<|Zj<|Zs<|Zf<|Za<|oS (iv j)<|oV ((j+1:Nat):Int)<|oS (iv (j+1:Nat))<|kN 91 (YV c p.rz[r]) (XEr3_h5 i j)<|Zf<|Zp ⟨j+1,by omega,En.noF_succ hnf (En.fa_in hj1 hs7)⟩ (show c.st.length-(j+1)<c.st.length-j by omega) ?_
 show Wk _ _ (ofL [(3,.box 36 (Rd.cCg c)),(4,.box 79 (cRu p.rz[r]))]) (ofT 91 [(4,iv i),(8,bx 3),(9,bx 4),(17,bv (En.exU c p.rz[r] i (j+1))),(18,iv ((j+1):Nat))])
 rw [En.exU_t hs5]
 exact Zk _ _
 have hs7f:(decide<|c.st[j]∈p.rz[r].fa)=false:=by simpa using hs7
 exact tD<|dW<|dW<|dW<|dg (dT hs6)<|dS bT<|dW<|dW<|dW<|dS (Zc c.st)<|dS (iv j)<|dC (xS (j*1) 83 84 U24) I0 I0<|dL (iv c.st[j]) (Zr c.st<|by omega)<|dk (Zo (ZaG p.rz[r].fa c.st[j] hlf) hs7f) [Zc p.rz[r].fa,iv c.st[j]] rfl rfl<|dW<|dS bT<|eD<|kW 91 (YV c p.rz[r]) [(4,iv i),(8,bx 3),(9,bx 4),(17,bT),(18,iv j),(58,bT),(63,bF),(89,bT)]<|Zf<|jK<|oS bF<|jE<|Ze<|Zb<|Zb<|Ze<|Zb<|Zd results113 (.tmp rfl)<|cB<|(En.lo_fa hj1<|En.fa_out hj1 (by omega) hs6 hs7f).symm
 refine tD<|dW<|dW<|dW<|dg (dF hs6)<|dS bF<|dK<|dK<|dK<|dK<|dK<|dK<|dK<|dK<|dK<|dS bF<|eD<|kW 91 (YV c p.rz[r]) (XEr3_h4 i j)<|Zf<|Zu rfl<|Zj<|Zs<|Zf<|Za<|oS (iv j)<|oV ((j+1:Nat):Int)<|oS (iv (j+1:Nat))<|kN 91 (YV c p.rz[r]) (XEr3_h5 i j)<|Zf<|Zp ⟨j+1,by omega,En.noF_succ hnf (En.fa_none hs6)⟩ (show c.st.length-(j+1)<c.st.length-j by omega) ?_
 show Wk _ _ (ofL [(3,.box 36 (Rd.cCg c)),(4,.box 79 (cRu p.rz[r]))]) (ofT 91 [(4,iv i),(8,bx 3),(9,bx 4),(17,bv (En.exU c p.rz[r] i (j+1))),(18,iv ((j+1):Nat))])
 rw [En.exU_t hs5]
 exact Zk _ _
 have hs5f:(En.exU c p.rz[r] i j)=false:=by simpa using hs5
 rw [hs5f]
 refine kW 91 (YV c p.rz[r]) [(4,iv i),(8,bx 3),(9,bx 4),(17,bF),(18,iv j),(58,bT),(63,bF)]<|tD<|dW<|dS bF<|dW<|dW<|dW<|dS (Zc c.st)<|dS (iv j)<|dC (xS (j*1) 69 70 U24) I0 I0<|dL (iv c.st[j]) (Zr c.st<|by omega)<|dk (ZaG p.rz[r].ex c.st[j] hle) [Zc p.rz[r].ex,iv c.st[j]] rfl rfl<|dW<|dS (bv<|decide<|c.st[j]∈p.rz[r].ex)<|eD<|kW 91 (YV c p.rz[r]) [(4,iv i),(8,bx 3),(9,bx 4),(17,bv (decide<|c.st[j]∈p.rz[r].ex)),(18,iv j),(58,bT),(63,bF)]<|jC ?_
 by_cases hs8:0<((p.rz[r].fa.length:Nat):Int)
 by_cases hs9:(decide<|c.st[j]∈p.rz[r].fa)=true
 refine tD<|dW<|dW<|dW<|dg (dT hs8)<|dS bT<|dW<|dW<|dW<|dS (Zc c.st)<|dS (iv j)<|dC (xS (j*1) 83 84 U24) I0 I0<|dL (iv c.st[j]) (Zr c.st<|by omega)<|dk (Zo (ZaG p.rz[r].fa c.st[j] hlf) hs9) [Zc p.rz[r].fa,iv c.st[j]] rfl rfl<|dW<|dS bF<|eD<|kW 91 (YV c p.rz[r]) [(4,iv i),(8,bx 3),(9,bx 4),(17,bv (decide<|c.st[j]∈p.rz[r].ex)),(18,iv j),(58,bT),(63,bF),(89,bF)]<|Zf<|Zu rfl<|Zj<|Zs<|Zf<|Za<|oS (iv j)<|oV ((j+1:Nat):Int)<|oS (iv (j+1:Nat))<|kN 91 (YV c p.rz[r]) [(4,iv i),(8,bx 3),(9,bx 4),(17,bv (decide<|c.st[j]∈p.rz[r].ex)),(18,iv (j+1:Nat)),(58,bT),(63,bF),(89,bF)]<|Zf ?_
 refine Zp ⟨j+1,by omega,En.noF_succ hnf (En.fa_in hj1 hs9)⟩ (show c.st.length-(j+1)<c.st.length-j by omega) ?_
 show Wk _ _ (ofL [(3,.box 36 (Rd.cCg c)),(4,.box 79 (cRu p.rz[r]))]) (ofT 91 [(4,iv i),(8,bx 3),(9,bx 4),(17,bv (En.exU c p.rz[r] i (j+1))),(18,iv ((j+1):Nat))])
 rw [En.exU_f hj1 hs5f (by omega)]
 exact Zk _ _
 have hs9f:(decide<|c.st[j]∈p.rz[r].fa)=false:=by simpa using hs9
 exact tD<|dW<|dW<|dW<|dg (dT hs8)<|dS bT<|dW<|dW<|dW<|dS (Zc c.st)<|dS (iv j)<|dC (xS (j*1) 83 84 U24) I0 I0<|dL (iv c.st[j]) (Zr c.st<|by omega)<|dk (Zo (ZaG p.rz[r].fa c.st[j] hlf) hs9f) [Zc p.rz[r].fa,iv c.st[j]] rfl rfl<|dW<|dS bT<|eD<|kW 91 (YV c p.rz[r]) [(4,iv i),(8,bx 3),(9,bx 4),(17,bv (decide<|c.st[j]∈p.rz[r].ex)),(18,iv j),(58,bT),(63,bF),(89,bT)]<|Zf<|jK<|oS bF<|jE<|Ze<|Zb<|Zb<|Ze<|Zb<|Zd results113 (.tmp rfl)<|cB<|(En.lo_fa hj1<|En.fa_out hj1 (by omega) hs8 hs9f).symm
 refine tD<|dW<|dW<|dW<|dg (dF hs8)<|dS bF<|dK<|dK<|dK<|dK<|dK<|dK<|dK<|dK<|dK<|dS bF<|eD<|kW 91 (YV c p.rz[r]) [(4,iv i),(8,bx 3),(9,bx 4),(17,bv (decide<|c.st[j]∈p.rz[r].ex)),(18,iv j),(58,bT),(63,bF),(89,bF)]<|Zf<|Zu rfl<|Zj<|Zs<|Zf<|Za<|oS (iv j)<|oV ((j+1:Nat):Int)<|oS (iv (j+1:Nat))<|kN 91 (YV c p.rz[r]) [(4,iv i),(8,bx 3),(9,bx 4),(17,bv (decide<|c.st[j]∈p.rz[r].ex)),(18,iv (j+1:Nat)),(58,bT),(63,bF),(89,bF)]<|Zf<|Zp ⟨j+1,by omega,En.noF_succ hnf (En.fa_none hs8)⟩ (show c.st.length-(j+1)<c.st.length-j by omega) ?_
 show Wk _ _ (ofL [(3,.box 36 (Rd.cCg c)),(4,.box 79 (cRu p.rz[r]))]) (ofT 91 [(4,iv i),(8,bx 3),(9,bx 4),(17,bv (En.exU c p.rz[r] i (j+1))),(18,iv ((j+1):Nat))])
 rw [En.exU_f hj1 hs5f (by omega)]
 exact Zk _ _
 exact Za<|W4<|ol (dF hs3)<|jI<|jO<|jC<|Za<|oF (bv<|En.exU c p.rz[r] i j)<|jE<|Zd results113 (.tmp rfl)<|cB<|(En.lo_ex hrd (by omega) hs0 (by omega) hj0 hnf).symm
namespace En
section
variable {p:Fm} {top n t f:Int} {c:Cf} {g:Nat->Int} {r:Ru} {i:Nat} {k:Int}
theorem en_st (hi:i<c.st.length) (h:¬ c.st[i]=r.frm):enR top n t f c g r i k=false:=by unfold enR;rw [Ct.getD_at hi,decide_eq_false h];rfl
theorem en_pt (h:ptB c r i k=false):enR top n t f c g r i k=false:=by unfold enR;rw [h];simp
theorem rd_val (R:RuV p r):(decide (r.rd<0)||decide (c.val=r.rd)) = !rdN c r:=by
 unfold rdN
 by_cases h:0<=r.rd
 ·rw [decide_eq_true h,decide_eq_false (by omega:¬ r.rd<0)];simp
 rw [decide_eq_false h,decide_eq_true (by omega:r.rd<0)];rfl
theorem rdN_t (R:RuV p r) (h:¬ r.rd = -1) (h2:¬ c.val=r.rd):rdN c r=true:=by
 have:=R.rd
 unfold rdN;rw [decide_eq_true (by omega),decide_eq_false h2];rfl
theorem rdN_f (h:r.rd = -1\/c.val=r.rd):rdN c r=false:=by
 unfold rdN
 rcases h with h | h
 ·rw [decide_eq_false (by omega)];rfl
 rw [decide_eq_true h];simp
theorem en_1 (hi:i<c.st.length) (h:c.st[i]=r.frm) (hp:ptB c r i k=true) (k1:r.kind=1):enR top n t f c g r i k=loB n t f c r g i:=by unfold enR;rw [Ct.getD_at hi,decide_eq_true h,hp,if_pos k1];rfl
theorem en_23 (R:RuV p r) (hi:i<c.st.length) (h:c.st[i]=r.frm) (hp:ptB c r i k=true) (k1:r.kind=2\/r.kind=3) (hr:rdN c r=false):enR top n t f c g r i k=true:=by
 unfold enR;rw [Ct.getD_at hi,decide_eq_true h,hp,if_neg (by omega),if_neg (by omega),if_neg (by omega),rd_val R,hr];rfl
theorem en_4 (hi:i<c.st.length) (h:c.st[i]=r.frm) (hp:ptB c r i k=true) (k4:r.kind=4):enR top n t f c g r i k=nbB top c r i:=by unfold enR;rw [Ct.getD_at hi,decide_eq_true h,hp,if_neg (by omega),if_pos k4];rfl
theorem en_5 (hi:i<c.st.length) (h:c.st[i]=r.frm) (hp:ptB c r i k=true) (k5:r.kind=5):enR top n t f c g r i k=psB top c r i k:=by unfold enR;rw [Ct.getD_at hi,decide_eq_true h,hp,if_neg (by omega),if_neg (by omega),if_pos k5];rfl
theorem en_a (R:RuV p r) (hi:i<c.st.length) (h:(!decide (c.st[i]=r.frm)||rdN c r)=true):enR top n t f c g r i k=false:=by
 by_cases h1:c.st[i]=r.frm
 ·rw [decide_eq_true h1] at h
  have h2:rdN c r=true:=h
  have hk:=R.kd
  have:=R.em
  have h3:0<=r.rd:=by
   unfold rdN at h2
   rw [Bool.and_eq_true,decide_eq_true_iff] at h2
   exact h2.1
  unfold enR
  by_cases k1:r.kind=1
  ·rw [if_pos k1,lo_rd h2];simp
  rw [if_neg k1,if_neg (λe=>by have:=(this k1 (by omega) (by omega)).1;omega),if_neg (λe=>by have:=(this k1 (by omega) (by omega)).1;omega),rd_val R,h2];simp
 exact en_st hi h1
theorem en_b (hi:i<c.st.length) (h:(!decide (c.st[i]=r.frm)||rdN c r)=false):c.st[i]=r.frm/\rdN c r=false:=by
 rw [Bool.or_eq_false_iff,Bool.not_eq_false',decide_eq_true_iff] at h
 exact h
theorem pt_y (h:r.kind=2\/r.kind=5) (h1:0<=k/\k.toNat<c.st.length) (h2:¬ k=(i:Int)) (h3:c.st[k.toNat]'h1.2=r.pf):ptB c r i k=true:=by
 unfold ptB isP;rw [if_pos h,Ct.getD_at h1.2,decide_eq_true h3,decide_eq_false h2,decide_eq_true h1.1,decide_eq_true (by omega)];rfl
theorem pt_n (h:r.kind=2\/r.kind=5) (h1:¬ (0<=k/\k.toNat<c.st.length)):ptB c r i k=false:=by
 unfold ptB;rw [if_pos h,isP_no (by omega)];rfl
theorem pt_i (h:r.kind=2\/r.kind=5) (h1:k=(i:Int)):ptB c r i k=false:=by
 unfold ptB;rw [if_pos h,decide_eq_true h1];simp
theorem pt_p (h:r.kind=2\/r.kind=5) (h1:0<=k/\k.toNat<c.st.length) (h3:¬ c.st[k.toNat]'h1.2=r.pf):ptB c r i k=false:=by
 unfold ptB;rw [if_pos h,Ct.getD_at h1.2,decide_eq_false h3];simp
theorem pt_o (h:¬ (r.kind=2\/r.kind=5)) (h1:¬ k = -1):ptB c r i k=false:=by unfold ptB;rw [if_neg h,decide_eq_false h1]
theorem pt_1 (h:¬ (r.kind=2\/r.kind=5)) (h1:k = -1):ptB c r i k=true:=by unfold ptB;rw [if_neg h,decide_eq_true h1]
variable {m:Nat}
theorem inW_y (h:Rd.inW 0 ((m:Int)-1) x=true):0<=x/\x.toNat<m:=by
 unfold Rd.inW at h
 simp only [Bool.and_eq_true,decide_eq_true_eq] at h
 omega
theorem inW_n (h:Rd.inW 0 ((m:Int)-1) x=false):¬ (0<=x/\x.toNat<m):=by
 unfold Rd.inW at h
 simp only [Bool.and_eq_false_iff,decide_eq_false_iff_not] at h
 omega
end
end En
theorem En.bothC (hc:En.CfV p n f c) (hi:i<c.st.length) (h4:p.top=4):(0<=Jd.lkS p.top c.sh c.st.length i↔¬ Jd.lkF p.top c.sh c.st.length i = -1):=by
 have hs:=En.sh_tree hc h4
 unfold isShp at hs
 simp only [Bool.and_eq_true,decide_eq_true_eq] at hs
 have hl:c.sh.length=c.st.length:=by omega
 rw [h4,<- hl]
 exact En.both hs.2 (by omega)
theorem nbClqP_c (HC:Rd.CgOk c) (hc:En.CfV p n f c) (hv:valE p=0) (hi:i<c.st.length) (h1:p.top=1):Ctr Tryz.prog J 48 [iv p.top,Zc c.sh,iv (c.st.length:Int),iv (i:Int)] (.tup [iv (-1),iv (-1),iv (-1)]):=by
 have:=nbP_c (J:=J) HC hc hv hi
 unfold En.nF En.nS En.nP at this
 rw [if_pos h1,if_pos h1,if_pos h1] at this
 exact this
theorem nbNo_c (HC:Rd.CgOk c) (hc:En.CfV p n f c) (hv:valE p=0) (hi:i<c.st.length) (h1:¬ p.top=1):Ctr Tryz.prog J 48 [iv p.top,Zc c.sh,iv (c.st.length:Int),iv (i:Int)] (.tup [iv (Jd.lkF p.top c.sh c.st.length i),iv (Jd.lkS p.top c.sh c.st.length i),iv (En.lkP p.top c.sh c.st.length i)]):=by
 have:=nbP_c (J:=J) HC hc hv hi
 unfold En.nF En.nS En.nP at this
 rw [if_neg h1,if_neg h1,if_neg h1] at this
 exact this
abbrev XEr4_h1 (x0:Fm) (x1:Int) (x2:Int) (x3:Int) (x4:Cf) (x5:Nat) (x6:Nat) (x7:Int) (x8:Bool):List (Nat × AV):=[(0,.agg (cFm x0)),(1,.agg (cSz x1 x2 x3)),(2,.agg (Rd.cCg x4)),(3,.agg [iv x5,iv x6,iv x7]),(4,bv x8)]
abbrev Y0 (x0:Fm) (x1:Int) (x2:Int) (x3:Int) (x4:Cf) (x5:Ru):List (Nat × ABlk):=[(1,.box 27 (cFm x0)),(2,.box 32 (cSz x1 x2 x3)),(3,.box 36 (Rd.cCg x4)),(5,.box 79 (cRu x5))]
abbrev XEr4_h3 (x0:Bool) (x1:Nat) (x2:Int):List (Nat × AV):=[(4,bv x0),(5,bx 1),(6,bx 2),(7,bx 3),(10,bF),(11,bx 5),(12,iv x1),(13,iv x2)]
abbrev XEr4_h4 (x0:Bool) (x1:Nat) (x2:Int):List (Nat × AV):=[(4,bv x0),(5,bx 1),(6,bx 2),(7,bx 3),(10,bF),(11,bx 5),(12,iv x1),(13,iv x2),(64,bT)]
abbrev XEr4_h5 (x0:Bool) (x1:Nat) (x2:Int):List (Nat × AV):=[(4,bv x0),(5,bx 1),(6,bx 2),(7,bx 3),(10,bF),(11,bx 5),(12,iv x1),(13,iv x2),(64,bF)]
variable {kp:Int}
theorem Zea (HL:FamLen p) (HC:Rd.CgOk c) (hc:En.CfV p n f c) (hv:valE p=0) (hf:0<=f/\f<=1048576) (hr:r<p.rz.length) (hi:i<c.st.length) (h1:p.top=1):Ctr Tryz.prog J 85 [.agg (cFm p),.agg (cSz n t f),.agg (Rd.cCg c),.agg [iv r,iv i,iv kp],bv fo] (bv<|En.enR p.top n t f c (En.hdG p f c fo) p.rz[r] i kp):=by
 have R:=En.val_in hv<|List.getElem_mem hr
 have hz:=En.val_sizes hv
 have hlst:=HC.lst
 have hkd:=R.kd
 have hkt:=R.kt
 have htop:=Jd.top_in hv
 refine Zn func85 rfl (pN (Zg<|Zy p)<|pN (Zg<|ZT n t f)<|pN (Zg<|Rd.plain_cg c)<|pN (Zg<|pN (.v _)<|pN (.v _)<|pN (.v _) pZ)<|pN (.v _) pZ) (n:=199) rfl (by simp)<|λw0 => kW 199 [] (XEr4_h1 p n t f c r i kp fo)<|jB<|oX 1 (.agg (cFm p))<|oX 2 (.agg (cSz n t f))<|oX 3 (.agg (Rd.cCg c))<|oX 4 (.agg [iv r,iv i,iv kp])<|oS bF<|jD<|jB<|W3<|oF (iv p.rz.length)<|oU ((p.rz.length:Int)-1)<|oK (Zo Kr<|Jd.in_w hr) [iv r,iv 0,iv ((p.rz.length:Int)-1)] rfl rfl<|oF bF<|W3<|oF (iv c.st.length) ?_
 refine oU ((c.st.length:Int)-1)<|oK (Zo Kr<|Jd.in_w hi) [iv i,iv 0,iv ((c.st.length:Int)-1)] rfl rfl<|oW<|oS bF<|jF<|Zi<|tD<|dW<|dS (slA 18 cRu p.rz)<|dW<|dS (iv r)<|dC (xS (r*18) 36 38 U25) I0 I0<|dA (Zl (z:=18) (.tmp 39) rfl U79 rfl (by kernel_rfl) (ZJ lenRu p.rz r<|by omega) rfl) I0<|dW<|dW<|dW<|dW<|dz 5 Z79<|dY<|dS (iv i)<|dS (iv kp)<|eD<|kW 199 (Y0 p n t f c p.rz[r]) (XEr4_h3 fo i kp)<|jC<|Zi ?_
 refine Ye (True) (ofL [(1,.box 27 (cFm p)),(2,.box 32 (cSz n t f)),(3,.box 36 (Rd.cCg c)),(5,.box 79 (cRu p.rz[r]))]) (ofT 199 [(4,bv fo),(5,bx 1),(6,bx 2),(7,bx 3),(10,bF),(11,bx 5),(12,iv i),(13,iv kp),(64,bv (!decide (c.st[i]=p.rz[r].frm)||En.rdN c p.rz[r]))]) ?_<|λ_ => ?_
 by_cases hs1:c.st[i]=p.rz[r].frm
 by_cases hs2:p.rz[r].rd=(-1)
 refine tD<|dW<|dS (Zc c.st)<|dS (iv i)<|dC (xS (i*1) 46 47 U24) I0 I0<|dL (iv c.st[i]) (Zr c.st<|by omega)<|dW<|dW<|dn (dT' hs1)<|dS bF<|dW<|dW<|dn (dT' hs2)<|dS bF<|dK<|dK<|dK<|dK<|dK<|dW<|dS bF<|eD<|kW 199 [(1,.box 27 (cFm p)),(2,.box 32 (cSz n t f)),(3,.box 36 (Rd.cCg c)),(5,.box 79 (cRu p.rz[r]))] [(4,bv fo),(5,bx 1),(6,bx 2),(7,bx 3),(10,bF),(11,bx 5),(12,iv i),(13,iv kp),(64,bF)] ?_
 rw [show (!decide (c.st[i]=p.rz[r].frm)||En.rdN c p.rz[r])=false from by rw [decide_eq_true hs1,En.rdN_f (.inl hs2)];rfl]
 exact tM T0
 by_cases hs3:c.val=p.rz[r].rd
 refine tD<|dW<|dS (Zc c.st)<|dS (iv i)<|dC (xS (i*1) 46 47 U24) I0 I0<|dL (iv c.st[i]) (Zr c.st<|by omega)<|dW<|dW<|dn (dT' hs1)<|dS bF<|dW<|dW<|dn (dF' hs2)<|dS bT<|dW<|dW<|dW<|dW<|dn (dT' hs3)<|dW<|dS bF<|eD<|kW 199 [(1,.box 27 (cFm p)),(2,.box 32 (cSz n t f)),(3,.box 36 (Rd.cCg c)),(5,.box 79 (cRu p.rz[r]))] [(4,bv fo),(5,bx 1),(6,bx 2),(7,bx 3),(10,bF),(11,bx 5),(12,iv i),(13,iv kp),(64,bF)] ?_
 rw [show (!decide (c.st[i]=p.rz[r].frm)||En.rdN c p.rz[r])=false from by rw [decide_eq_true hs1,En.rdN_f (.inr hs3)];rfl]
 exact tM T0
 refine tD<|dW<|dS (Zc c.st)<|dS (iv i)<|dC (xS (i*1) 46 47 U24) I0 I0<|dL (iv c.st[i]) (Zr c.st<|by omega)<|dW<|dW<|dn (dT' hs1)<|dS bF<|dW<|dW<|dn (dF' hs2)<|dS bT<|dW<|dW<|dW<|dW<|dn (dF' hs3)<|dW<|dS bT<|eD<|kW 199 [(1,.box 27 (cFm p)),(2,.box 32 (cSz n t f)),(3,.box 36 (Rd.cCg c)),(5,.box 79 (cRu p.rz[r]))] [(4,bv fo),(5,bx 1),(6,bx 2),(7,bx 3),(10,bF),(11,bx 5),(12,iv i),(13,iv kp),(64,bT)] ?_
 rw [show (!decide (c.st[i]=p.rz[r].frm)||En.rdN c p.rz[r])=true from by rw [decide_eq_true hs1,En.rdN_t R hs2 hs3];rfl]
 exact tM T0
 refine tD<|dW<|dS (Zc c.st)<|dS (iv i)<|dC (xS (i*1) 46 47 U24) I0 I0<|dL (iv c.st[i]) (Zr c.st<|by omega)<|dW<|dW<|dn (dF' hs1)<|dS bT<|dK<|dK<|dK<|dK<|dK<|dK<|dK<|dK<|dK<|dK<|dS bT<|eD<|kW 199 [(1,.box 27 (cFm p)),(2,.box 32 (cSz n t f)),(3,.box 36 (Rd.cCg c)),(5,.box 79 (cRu p.rz[r]))] [(4,bv fo),(5,bx 1),(6,bx 2),(7,bx 3),(10,bF),(11,bx 5),(12,iv i),(13,iv kp),(64,bT)] ?_
 rw [show (!decide (c.st[i]=p.rz[r].frm)||En.rdN c p.rz[r])=true from by rw [decide_eq_false hs1];rfl]
 exact tM T0
 refine Zf ?_
 by_cases hs4:(!decide (c.st[i]=p.rz[r].frm)||En.rdN c p.rz[r])=true
 rw [hs4]
 exact kW 199 (Y0 p n t f c p.rz[r]) (XEr4_h4 fo i kp)<|jK<|oS bF<|jE<|Zb<|Zd results85 (.tmp rfl)<|cB<|(En.en_a R hi hs4).symm
 have hs4f:(!decide (c.st[i]=p.rz[r].frm)||En.rdN c p.rz[r])=false:=by simpa using hs4
 rw [hs4f]
 refine kW 199 (Y0 p n t f c p.rz[r]) (XEr4_h5 fo i kp)<|jL<|jB<|W4<|W4<|oK (nbClqP_c HC hc hv hi h1) [iv p.top,Zc c.sh,iv c.st.length,iv i] rfl rfl<|oS (.tup [iv (-1),iv (-1),iv (-1)])<|W3<|oS (iv<|-1)<|oS (iv<|-1)<|oS (iv<|-1)<|kN 199 (Y0 p n t f c p.rz[r]) [(4,bv fo),(5,bx 1),(6,bx 2),(7,bx 3),(10,bF),(11,bx 5),(12,iv i),(13,iv kp),(14,iv (-1)),(15,iv (-1)),(16,iv (-1))]<|Zf<|jM ?_
 refine Ye (True) (ofL [(1,.box 27 (cFm p)),(2,.box 32 (cSz n t f)),(3,.box 36 (Rd.cCg c)),(5,.box 79 (cRu p.rz[r]))]) (ofT 199 [(4,bv fo),(5,bx 1),(6,bx 2),(7,bx 3),(10,bF),(11,bx 5),(12,iv i),(13,iv kp),(14,iv (-1)),(15,iv (-1)),(16,iv (-1)),(85,bv (decide (p.rz[r].kind=2)||decide (p.rz[r].kind=5)))]) ?_<|λ_ => ?_
 by_cases hs5:p.rz[r].kind=2
 refine Za<|W2<|oe (dT hs5)<|oS bT<|V3<|oS bT<|kN 199 [(1,.box 27 (cFm p)),(2,.box 32 (cSz n t f)),(3,.box 36 (Rd.cCg c)),(5,.box 79 (cRu p.rz[r]))] [(4,bv fo),(5,bx 1),(6,bx 2),(7,bx 3),(10,bF),(11,bx 5),(12,iv i),(13,iv kp),(14,iv (-1)),(15,iv (-1)),(16,iv (-1)),(85,bT)] ?_
 rw [show (decide (p.rz[r].kind=2)||decide (p.rz[r].kind=5))=true from (by simp only [Bool.or_eq_true,decide_eq_true_eq];omega)]
 exact tM T0
 refine Za<|W2<|oe (dF hs5)<|oS bF<|oF (iv p.rz[r].kind)<|gC (ZH rfl<|dF<|by omega) I0 I0<|oS bF<|kN 199 [(1,.box 27 (cFm p)),(2,.box 32 (cSz n t f)),(3,.box 36 (Rd.cCg c)),(5,.box 79 (cRu p.rz[r]))] [(4,bv fo),(5,bx 1),(6,bx 2),(7,bx 3),(10,bF),(11,bx 5),(12,iv i),(13,iv kp),(14,iv (-1)),(15,iv (-1)),(16,iv (-1)),(85,bF)] ?_
 rw [show (decide (p.rz[r].kind=2)||decide (p.rz[r].kind=5))=false from (by simp only [Bool.or_eq_false_iff,decide_eq_false_iff_not];omega)]
 exact tM T0
 refine Zf ?_
 by_cases hs6:(decide (p.rz[r].kind=2)||decide (p.rz[r].kind=5))=true
 have hty:=En.or_t hs6
 rw [hs6]
 refine kW 199 (Y0 p n t f c p.rz[r]) [(4,bv fo),(5,bx 1),(6,bx 2),(7,bx 3),(10,bF),(11,bx 5),(12,iv i),(13,iv kp),(14,iv (-1)),(15,iv (-1)),(16,iv (-1)),(85,bT)]<|ZM rfl<|jM<|Ye (True) (ofL [(1,.box 27 (cFm p)),(2,.box 32 (cSz n t f)),(3,.box 36 (Rd.cCg c)),(5,.box 79 (cRu p.rz[r]))]) (ofT 199 [(4,bv fo),(5,bx 1),(6,bx 2),(7,bx 3),(10,bF),(11,bx 5),(12,iv i),(13,iv kp),(14,iv (-1)),(15,iv (-1)),(16,iv (-1)),(107,bv (!En.ptB c p.rz[r] i kp))]) ?_<|λ_ => ?_
 by_cases hs7:(Rd.inW 0 ((c.st.length:Int)-1) kp)=true
 have hwk:=En.inW_y hs7
 by_cases hs8:kp=(i:Int)
 refine tD<|dW<|dW<|dW<|dS (iv c.st.length)<|dC (Kh (c:=(c.st.length:Int)-1) rfl<|w64 (by omega) (by omega)<|by omega) I0 I0<|dk (Zo Kr hs7) [iv kp,iv 0,iv ((c.st.length:Int)-1)] rfl rfl<|dW<|dS bF<|dW<|dW<|de (dT hs8)<|dW<|dS bT<|dK<|dK<|dK<|dK<|dK<|dK<|dK<|dK<|dS bT<|eD<|kW 199 [(1,.box 27 (cFm p)),(2,.box 32 (cSz n t f)),(3,.box 36 (Rd.cCg c)),(5,.box 79 (cRu p.rz[r]))] [(4,bv fo),(5,bx 1),(6,bx 2),(7,bx 3),(10,bF),(11,bx 5),(12,iv i),(13,iv kp),(14,iv (-1)),(15,iv (-1)),(16,iv (-1)),(107,bT)] ?_
 rw [show (!En.ptB c p.rz[r] i kp)=true from by rw [En.pt_i (En.or_t hs6) hs8];rfl]
 exact tM T0
 by_cases hs9:c.st[kp.toNat]=p.rz[r].pf
 refine tD<|dW<|dW<|dW<|dS (iv c.st.length)<|dC (Kh (c:=(c.st.length:Int)-1) rfl<|w64 (by omega) (by omega)<|by omega) I0 I0<|dk (Zo Kr hs7) [iv kp,iv 0,iv ((c.st.length:Int)-1)] rfl rfl<|dW<|dS bF<|dW<|dW<|de (dF hs8)<|dW<|dS bF<|dW<|dS (Zc c.st)<|dS (iv kp)<|dC (xS (kp.toNat*1) 100 101 U24) I0 I0<|dL (iv c.st[kp.toNat]) (Zr c.st<|by omega)<|dW<|dW<|dn (dT' hs9)<|dS bF<|eD ?_
 refine kW 199 [(1,.box 27 (cFm p)),(2,.box 32 (cSz n t f)),(3,.box 36 (Rd.cCg c)),(5,.box 79 (cRu p.rz[r]))] [(4,bv fo),(5,bx 1),(6,bx 2),(7,bx 3),(10,bF),(11,bx 5),(12,iv i),(13,iv kp),(14,iv (-1)),(15,iv (-1)),(16,iv (-1)),(107,bF)] ?_
 rw [show (!En.ptB c p.rz[r] i kp)=false from by rw [En.pt_y (En.or_t hs6) (En.inW_y hs7) hs8 hs9];rfl]
 exact tM T0
 refine tD<|dW<|dW<|dW<|dS (iv c.st.length)<|dC (Kh (c:=(c.st.length:Int)-1) rfl<|w64 (by omega) (by omega)<|by omega) I0 I0<|dk (Zo Kr hs7) [iv kp,iv 0,iv ((c.st.length:Int)-1)] rfl rfl<|dW<|dS bF<|dW<|dW<|de (dF hs8)<|dW<|dS bF<|dW<|dS (Zc c.st)<|dS (iv kp)<|dC (xS (kp.toNat*1) 100 101 U24) I0 I0<|dL (iv c.st[kp.toNat]) (Zr c.st<|by omega)<|dW<|dW<|dn (dF' hs9)<|dS bT<|eD ?_
 refine kW 199 [(1,.box 27 (cFm p)),(2,.box 32 (cSz n t f)),(3,.box 36 (Rd.cCg c)),(5,.box 79 (cRu p.rz[r]))] [(4,bv fo),(5,bx 1),(6,bx 2),(7,bx 3),(10,bF),(11,bx 5),(12,iv i),(13,iv kp),(14,iv (-1)),(15,iv (-1)),(16,iv (-1)),(107,bT)] ?_
 rw [show (!En.ptB c p.rz[r] i kp)=true from by rw [En.pt_p (En.or_t hs6) (En.inW_y hs7) hs9];rfl]
 exact tM T0
 have hs7f:(Rd.inW 0 ((c.st.length:Int)-1) kp)=false:=by simpa using hs7
 refine tD<|dW<|dW<|dW<|dS (iv c.st.length)<|dC (Kh (c:=(c.st.length:Int)-1) rfl<|w64 (by omega) (by omega)<|by omega) I0 I0<|dk (Zo Kr hs7f) [iv kp,iv 0,iv ((c.st.length:Int)-1)] rfl rfl<|dW<|dS bT<|dK<|dK<|dK<|dW<|dS bT<|dK<|dK<|dK<|dK<|dK<|dK<|dK<|dK<|dS bT<|eD<|kW 199 [(1,.box 27 (cFm p)),(2,.box 32 (cSz n t f)),(3,.box 36 (Rd.cCg c)),(5,.box 79 (cRu p.rz[r]))] [(4,bv fo),(5,bx 1),(6,bx 2),(7,bx 3),(10,bF),(11,bx 5),(12,iv i),(13,iv kp),(14,iv (-1)),(15,iv (-1)),(16,iv (-1)),(107,bT)] ?_
 rw [show (!En.ptB c p.rz[r] i kp)=true from by rw [En.pt_n (En.or_t hs6) (En.inW_n hs7f)];rfl]
 exact tM T0
 refine Zf ?_
 by_cases hs10:(!En.ptB c p.rz[r] i kp)=true
 rw [hs10]
 exact kW 199 (Y0 p n t f c p.rz[r]) [(4,bv fo),(5,bx 1),(6,bx 2),(7,bx 3),(10,bF),(11,bx 5),(12,iv i),(13,iv kp),(14,iv (-1)),(15,iv (-1)),(16,iv (-1)),(107,bT)]<|jK<|oS bF<|jE<|Zb<|Zb<|Zd results85 (.tmp rfl)<|cB<|(En.en_pt<|by simpa using hs10).symm
 have hs10f:(!En.ptB c p.rz[r] i kp)=false:=by simpa using hs10
 rw [hs10f]
 refine kW 199 (Y0 p n t f c p.rz[r]) [(4,bv fo),(5,bx 1),(6,bx 2),(7,bx 3),(10,bF),(11,bx 5),(12,iv i),(13,iv kp),(14,iv (-1)),(15,iv (-1)),(16,iv (-1)),(107,bF)]<|jL<|jM<|Za<|oF (iv p.rz[r].kind)<|oC (ZH rfl<|dT<|by have:=En.or_t hs6;omega) I0 I0<|jG<|oS bT<|jE<|Zb<|Zb ?_
 refine Zd results85 (.tmp rfl) ?_
 exact cB<|(En.en_23 R hi (En.en_b hi hs4f).1 (by simpa using hs10f) (.inl (by have:=(En.or_t hs6);omega)) (En.en_b hi hs4f).2).symm
 have hs6f:(decide (p.rz[r].kind=2)||decide (p.rz[r].kind=5))=false:=by simpa using hs6
 have hty:=En.or_f hs6f
 rw [hs6f]
 refine kW 199 (Y0 p n t f c p.rz[r]) [(4,bv fo),(5,bx 1),(6,bx 2),(7,bx 3),(10,bF),(11,bx 5),(12,iv i),(13,iv kp),(14,iv (-1)),(15,iv (-1)),(16,iv (-1)),(85,bF)]<|jL<|jM ?_
 by_cases hs11:kp=(-1)
 refine Za<|oW<|on (dT' hs11)<|jF<|jM ?_
 by_cases hs12:p.rz[r].kind=1
 exact Za<|W2<|oe (dT hs12)<|jG<|W4<|W2<|oK (rlocal_c HL HC hc hf hr R (En.en_b hi hs4f).2) [.agg (cFm p),.agg (cSz n t f),.agg (Rd.cCg c),.agg (cRu p.rz[r]),iv i,bv fo] rfl rfl<|oS (bv<|En.loB n t f c p.rz[r] (En.hdG p f c fo) i)<|jE<|Zb<|Zd results85 (.tmp rfl)<|cB<|(En.en_1 hi (En.en_b hi hs4f).1 (En.pt_1 (En.or_f hs6f) hs11) hs12).symm
 refine Za<|W2<|oe (dF hs12)<|jF<|jM<|Za<|oF (iv p.rz[r].kind)<|oC (ZH rfl<|dT<|by have:=En.or_f hs6f;omega) I0 I0<|jG<|oS bT<|jE<|Zb ?_
 refine Zd results85 (.tmp rfl) ?_
 exact cB<|(En.en_23 R hi (En.en_b hi hs4f).1 (En.pt_1 (En.or_f hs6f) hs11) (.inr (by have:=(En.or_f hs6f);omega)) (En.en_b hi hs4f).2).symm
 exact Za<|oW<|on (dF' hs11)<|jG<|oS bF<|jE<|Zb<|Zd results85 (.tmp rfl)<|cB<|(En.en_pt<|En.pt_o (En.or_f hs6f) hs11).symm
abbrev ZfE (x0:Fm) (x1:Cf) (x2:Ru):List (Nat × ABlk):=[(1,.box 27 (cFm x0)),(3,.box 36 (Rd.cCg x1)),(5,.box 79 (cRu x2))]
abbrev Za2 (x0:Cf) (x1:Ru):List (Nat × ABlk):=[(3,.box 36 (Rd.cCg x0)),(5,.box 79 (cRu x1))]
abbrev ZfD (x0:Fm) (x1:Cf) (x2:Nat):List (Nat × AV):=[(7,bx 3),(10,bF),(11,bx 5),(14,iv (Jd.lkF x0.top x1.sh x1.st.length x2)),(15,iv (Jd.lkS x0.top x1.sh x1.st.length x2)),(16,iv (En.lkP x0.top x1.sh x1.st.length x2)),(179,bF)]
abbrev ZfC (x0:Fm) (x1:Cf) (x2:Nat):List (Nat × AV):=[(7,bx 3),(10,bF),(11,bx 5),(14,iv (Jd.lkF x0.top x1.sh x1.st.length x2)),(15,iv (Jd.lkS x0.top x1.sh x1.st.length x2)),(16,iv (En.lkP x0.top x1.sh x1.st.length x2)),(179,bT)]
theorem Zd9 (HL:FamLen p) (HC:Rd.CgOk c) (hc:En.CfV p n f c) (hv:valE p=0) (hf:0<=f/\f<=1048576) (hr:r<p.rz.length) (hi:i<c.st.length) (h1:¬ p.top=1):Ctr Tryz.prog J 85 [.agg (cFm p),.agg (cSz n t f),.agg (Rd.cCg c),.agg [iv r,iv i,iv kp],bv fo] (bv<|En.enR p.top n t f c (En.hdG p f c fo) p.rz[r] i kp):=by
 have R:=En.val_in hv<|List.getElem_mem hr
 have hz:=En.val_sizes hv
 have hlst:=HC.lst
 have hkd:=R.kd
 have hkt:=R.kt
 have htop:=Jd.top_in hv
 have hlk:=En.lk_ok hc h1 htop hi
 refine Zn func85 rfl (pN (Zg<|Zy p)<|pN (Zg<|ZT n t f)<|pN (Zg<|Rd.plain_cg c)<|pN (Zg<|pN (.v _)<|pN (.v _)<|pN (.v _) pZ)<|pN (.v _) pZ) (n:=199) rfl (by simp)<|λw0 => kW 199 [] (XEr4_h1 p n t f c r i kp fo)<|jB<|oX 1 (.agg (cFm p))<|oX 2 (.agg (cSz n t f))<|oX 3 (.agg (Rd.cCg c))<|oX 4 (.agg [iv r,iv i,iv kp])<|oS bF<|jD<|jB<|W3<|oF (iv p.rz.length)<|oU ((p.rz.length:Int)-1)<|oK (Zo Kr<|Jd.in_w hr) [iv r,iv 0,iv ((p.rz.length:Int)-1)] rfl rfl<|oF bF<|W3<|oF (iv c.st.length) ?_
 refine oU ((c.st.length:Int)-1)<|oK (Zo Kr<|Jd.in_w hi) [iv i,iv 0,iv ((c.st.length:Int)-1)] rfl rfl<|oW<|oS bF<|jF<|Zi<|tD<|dW<|dS (slA 18 cRu p.rz)<|dW<|dS (iv r)<|dC (xS (r*18) 36 38 U25) I0 I0<|dA (Zl (z:=18) (.tmp 39) rfl U79 rfl (by kernel_rfl) (ZJ lenRu p.rz r<|by omega) rfl) I0<|dW<|dW<|dW<|dW<|dz 5 Z79<|dY<|dS (iv i)<|dS (iv kp)<|eD<|kW 199 (Y0 p n t f c p.rz[r]) (XEr4_h3 fo i kp)<|jC<|Zi ?_
 refine Ye (True) (ofL [(1,.box 27 (cFm p)),(2,.box 32 (cSz n t f)),(3,.box 36 (Rd.cCg c)),(5,.box 79 (cRu p.rz[r]))]) (ofT 199 [(4,bv fo),(5,bx 1),(6,bx 2),(7,bx 3),(10,bF),(11,bx 5),(12,iv i),(13,iv kp),(64,bv (!decide (c.st[i]=p.rz[r].frm)||En.rdN c p.rz[r]))]) ?_<|λ_ => ?_
 by_cases hs1:c.st[i]=p.rz[r].frm
 by_cases hs2:p.rz[r].rd=(-1)
 refine tD<|dW<|dS (Zc c.st)<|dS (iv i)<|dC (xS (i*1) 46 47 U24) I0 I0<|dL (iv c.st[i]) (Zr c.st<|by omega)<|dW<|dW<|dn (dT' hs1)<|dS bF<|dW<|dW<|dn (dT' hs2)<|dS bF<|dK<|dK<|dK<|dK<|dK<|dW<|dS bF<|eD<|kW 199 [(1,.box 27 (cFm p)),(2,.box 32 (cSz n t f)),(3,.box 36 (Rd.cCg c)),(5,.box 79 (cRu p.rz[r]))] [(4,bv fo),(5,bx 1),(6,bx 2),(7,bx 3),(10,bF),(11,bx 5),(12,iv i),(13,iv kp),(64,bF)] ?_
 rw [show (!decide (c.st[i]=p.rz[r].frm)||En.rdN c p.rz[r])=false from by rw [decide_eq_true hs1,En.rdN_f (.inl hs2)];rfl]
 exact tM T0
 by_cases hs3:c.val=p.rz[r].rd
 refine tD<|dW<|dS (Zc c.st)<|dS (iv i)<|dC (xS (i*1) 46 47 U24) I0 I0<|dL (iv c.st[i]) (Zr c.st<|by omega)<|dW<|dW<|dn (dT' hs1)<|dS bF<|dW<|dW<|dn (dF' hs2)<|dS bT<|dW<|dW<|dW<|dW<|dn (dT' hs3)<|dW<|dS bF<|eD<|kW 199 [(1,.box 27 (cFm p)),(2,.box 32 (cSz n t f)),(3,.box 36 (Rd.cCg c)),(5,.box 79 (cRu p.rz[r]))] [(4,bv fo),(5,bx 1),(6,bx 2),(7,bx 3),(10,bF),(11,bx 5),(12,iv i),(13,iv kp),(64,bF)] ?_
 rw [show (!decide (c.st[i]=p.rz[r].frm)||En.rdN c p.rz[r])=false from by rw [decide_eq_true hs1,En.rdN_f (.inr hs3)];rfl]
 exact tM T0
 refine tD<|dW<|dS (Zc c.st)<|dS (iv i)<|dC (xS (i*1) 46 47 U24) I0 I0<|dL (iv c.st[i]) (Zr c.st<|by omega)<|dW<|dW<|dn (dT' hs1)<|dS bF<|dW<|dW<|dn (dF' hs2)<|dS bT<|dW<|dW<|dW<|dW<|dn (dF' hs3)<|dW<|dS bT<|eD<|kW 199 [(1,.box 27 (cFm p)),(2,.box 32 (cSz n t f)),(3,.box 36 (Rd.cCg c)),(5,.box 79 (cRu p.rz[r]))] [(4,bv fo),(5,bx 1),(6,bx 2),(7,bx 3),(10,bF),(11,bx 5),(12,iv i),(13,iv kp),(64,bT)] ?_
 rw [show (!decide (c.st[i]=p.rz[r].frm)||En.rdN c p.rz[r])=true from by rw [decide_eq_true hs1,En.rdN_t R hs2 hs3];rfl]
 exact tM T0
 refine tD<|dW<|dS (Zc c.st)<|dS (iv i)<|dC (xS (i*1) 46 47 U24) I0 I0<|dL (iv c.st[i]) (Zr c.st<|by omega)<|dW<|dW<|dn (dF' hs1)<|dS bT<|dK<|dK<|dK<|dK<|dK<|dK<|dK<|dK<|dK<|dK<|dS bT<|eD<|kW 199 [(1,.box 27 (cFm p)),(2,.box 32 (cSz n t f)),(3,.box 36 (Rd.cCg c)),(5,.box 79 (cRu p.rz[r]))] [(4,bv fo),(5,bx 1),(6,bx 2),(7,bx 3),(10,bF),(11,bx 5),(12,iv i),(13,iv kp),(64,bT)] ?_
 rw [show (!decide (c.st[i]=p.rz[r].frm)||En.rdN c p.rz[r])=true from by rw [decide_eq_false hs1];rfl]
 exact tM T0
 refine Zf ?_
 by_cases hs4:(!decide (c.st[i]=p.rz[r].frm)||En.rdN c p.rz[r])=true
 rw [hs4]
 exact kW 199 (Y0 p n t f c p.rz[r]) (XEr4_h4 fo i kp)<|jK<|oS bF<|jE<|Zb<|Zd results85 (.tmp rfl)<|cB<|(En.en_a R hi hs4).symm
 have hs4f:(!decide (c.st[i]=p.rz[r].frm)||En.rdN c p.rz[r])=false:=by simpa using hs4
 rw [hs4f]
 refine kW 199 (Y0 p n t f c p.rz[r]) (XEr4_h5 fo i kp)<|jL<|jB<|W4<|W4<|oK (nbNo_c HC hc hv hi h1) [iv p.top,Zc c.sh,iv c.st.length,iv i] rfl rfl<|oS (.tup [iv (Jd.lkF p.top c.sh c.st.length i),iv (Jd.lkS p.top c.sh c.st.length i),iv (En.lkP p.top c.sh c.st.length i)])<|W3<|oS (iv<|Jd.lkF p.top c.sh c.st.length i)<|oS (iv<|Jd.lkS p.top c.sh c.st.length i)<|oS (iv<|En.lkP p.top c.sh c.st.length i)<|kN 199 (Y0 p n t f c p.rz[r]) [(4,bv fo),(5,bx 1),(6,bx 2),(7,bx 3),(10,bF),(11,bx 5),(12,iv i),(13,iv kp),(14,iv (Jd.lkF p.top c.sh c.st.length i)),(15,iv (Jd.lkS p.top c.sh c.st.length i)),(16,iv (En.lkP p.top c.sh c.st.length i))]<|Zf ?_
 refine jM<|Ye (True) (ofL [(1,.box 27 (cFm p)),(2,.box 32 (cSz n t f)),(3,.box 36 (Rd.cCg c)),(5,.box 79 (cRu p.rz[r]))]) (ofT 199 [(4,bv fo),(5,bx 1),(6,bx 2),(7,bx 3),(10,bF),(11,bx 5),(12,iv i),(13,iv kp),(14,iv (Jd.lkF p.top c.sh c.st.length i)),(15,iv (Jd.lkS p.top c.sh c.st.length i)),(16,iv (En.lkP p.top c.sh c.st.length i)),(85,bv (decide (p.rz[r].kind=2)||decide (p.rz[r].kind=5)))]) ?_<|λ_ => ?_
 by_cases hs5:p.rz[r].kind=5
 refine Za<|oF (iv p.rz[r].kind)<|oC (ZH rfl<|dF<|by omega) I0 I0<|oS bF<|W2<|oe (dT hs5)<|oS bT<|kN 199 [(1,.box 27 (cFm p)),(2,.box 32 (cSz n t f)),(3,.box 36 (Rd.cCg c)),(5,.box 79 (cRu p.rz[r]))] [(4,bv fo),(5,bx 1),(6,bx 2),(7,bx 3),(10,bF),(11,bx 5),(12,iv i),(13,iv kp),(14,iv (Jd.lkF p.top c.sh c.st.length i)),(15,iv (Jd.lkS p.top c.sh c.st.length i)),(16,iv (En.lkP p.top c.sh c.st.length i)),(85,bT)] ?_
 rw [show (decide (p.rz[r].kind=2)||decide (p.rz[r].kind=5))=true from (by simp only [Bool.or_eq_true,decide_eq_true_eq];omega)]
 exact tM T0
 refine Za<|oF (iv p.rz[r].kind)<|oC (ZH rfl<|dF<|by omega) I0 I0<|oS bF<|W2<|oe (dF hs5)<|oS bF<|kN 199 [(1,.box 27 (cFm p)),(2,.box 32 (cSz n t f)),(3,.box 36 (Rd.cCg c)),(5,.box 79 (cRu p.rz[r]))] [(4,bv fo),(5,bx 1),(6,bx 2),(7,bx 3),(10,bF),(11,bx 5),(12,iv i),(13,iv kp),(14,iv (Jd.lkF p.top c.sh c.st.length i)),(15,iv (Jd.lkS p.top c.sh c.st.length i)),(16,iv (En.lkP p.top c.sh c.st.length i)),(85,bF)] ?_
 rw [show (decide (p.rz[r].kind=2)||decide (p.rz[r].kind=5))=false from (by simp only [Bool.or_eq_false_iff,decide_eq_false_iff_not];omega)]
 exact tM T0
 refine Zf ?_
 by_cases hs6:(decide (p.rz[r].kind=2)||decide (p.rz[r].kind=5))=true
 have hty:=En.or_t hs6
 rw [hs6]
 refine kW 199 (Y0 p n t f c p.rz[r]) [(4,bv fo),(5,bx 1),(6,bx 2),(7,bx 3),(10,bF),(11,bx 5),(12,iv i),(13,iv kp),(14,iv (Jd.lkF p.top c.sh c.st.length i)),(15,iv (Jd.lkS p.top c.sh c.st.length i)),(16,iv (En.lkP p.top c.sh c.st.length i)),(85,bT)]<|ZM rfl<|jM ?_
 refine Ye (True) (ofL [(1,.box 27 (cFm p)),(2,.box 32 (cSz n t f)),(3,.box 36 (Rd.cCg c)),(5,.box 79 (cRu p.rz[r]))]) (ofT 199 [(4,bv fo),(5,bx 1),(6,bx 2),(7,bx 3),(10,bF),(11,bx 5),(12,iv i),(13,iv kp),(14,iv (Jd.lkF p.top c.sh c.st.length i)),(15,iv (Jd.lkS p.top c.sh c.st.length i)),(16,iv (En.lkP p.top c.sh c.st.length i)),(107,bv (!En.ptB c p.rz[r] i kp))]) ?_<|λ_ => ?_
 by_cases hs7:(Rd.inW 0 ((c.st.length:Int)-1) kp)=true
 have hwk:=En.inW_y hs7
 by_cases hs8:kp=(i:Int)
 refine tD<|dW<|dW<|dW<|dS (iv c.st.length)<|dC (Kh (c:=(c.st.length:Int)-1) rfl<|w64 (by omega) (by omega)<|by omega) I0 I0<|dk (Zo Kr hs7) [iv kp,iv 0,iv ((c.st.length:Int)-1)] rfl rfl<|dW<|dS bF<|dW<|dW<|de (dT hs8)<|dW<|dS bT<|dK<|dK<|dK<|dK<|dK<|dK<|dK<|dK<|dS bT<|eD ?_
 refine kW 199 [(1,.box 27 (cFm p)),(2,.box 32 (cSz n t f)),(3,.box 36 (Rd.cCg c)),(5,.box 79 (cRu p.rz[r]))] [(4,bv fo),(5,bx 1),(6,bx 2),(7,bx 3),(10,bF),(11,bx 5),(12,iv i),(13,iv kp),(14,iv (Jd.lkF p.top c.sh c.st.length i)),(15,iv (Jd.lkS p.top c.sh c.st.length i)),(16,iv (En.lkP p.top c.sh c.st.length i)),(107,bT)] ?_
 rw [show (!En.ptB c p.rz[r] i kp)=true from by rw [En.pt_i (En.or_t hs6) hs8];rfl]
 exact tM T0
 by_cases hs9:c.st[kp.toNat]=p.rz[r].pf
 refine tD<|dW<|dW<|dW<|dS (iv c.st.length)<|dC (Kh (c:=(c.st.length:Int)-1) rfl<|w64 (by omega) (by omega)<|by omega) I0 I0<|dk (Zo Kr hs7) [iv kp,iv 0,iv ((c.st.length:Int)-1)] rfl rfl<|dW<|dS bF<|dW<|dW<|de (dF hs8)<|dW<|dS bF<|dW<|dS (Zc c.st)<|dS (iv kp)<|dC (xS (kp.toNat*1) 100 101 U24) I0 I0<|dL (iv c.st[kp.toNat]) (Zr c.st<|by omega)<|dW<|dW<|dn (dT' hs9)<|dS bF<|eD ?_
 refine kW 199 [(1,.box 27 (cFm p)),(2,.box 32 (cSz n t f)),(3,.box 36 (Rd.cCg c)),(5,.box 79 (cRu p.rz[r]))] [(4,bv fo),(5,bx 1),(6,bx 2),(7,bx 3),(10,bF),(11,bx 5),(12,iv i),(13,iv kp),(14,iv (Jd.lkF p.top c.sh c.st.length i)),(15,iv (Jd.lkS p.top c.sh c.st.length i)),(16,iv (En.lkP p.top c.sh c.st.length i)),(107,bF)] ?_
 rw [show (!En.ptB c p.rz[r] i kp)=false from by rw [En.pt_y (En.or_t hs6) (En.inW_y hs7) hs8 hs9];rfl]
 exact tM T0
 refine tD<|dW<|dW<|dW<|dS (iv c.st.length)<|dC (Kh (c:=(c.st.length:Int)-1) rfl<|w64 (by omega) (by omega)<|by omega) I0 I0<|dk (Zo Kr hs7) [iv kp,iv 0,iv ((c.st.length:Int)-1)] rfl rfl<|dW<|dS bF<|dW<|dW<|de (dF hs8)<|dW<|dS bF<|dW<|dS (Zc c.st)<|dS (iv kp)<|dC (xS (kp.toNat*1) 100 101 U24) I0 I0<|dL (iv c.st[kp.toNat]) (Zr c.st<|by omega)<|dW<|dW<|dn (dF' hs9)<|dS bT<|eD ?_
 refine kW 199 [(1,.box 27 (cFm p)),(2,.box 32 (cSz n t f)),(3,.box 36 (Rd.cCg c)),(5,.box 79 (cRu p.rz[r]))] [(4,bv fo),(5,bx 1),(6,bx 2),(7,bx 3),(10,bF),(11,bx 5),(12,iv i),(13,iv kp),(14,iv (Jd.lkF p.top c.sh c.st.length i)),(15,iv (Jd.lkS p.top c.sh c.st.length i)),(16,iv (En.lkP p.top c.sh c.st.length i)),(107,bT)] ?_
 rw [show (!En.ptB c p.rz[r] i kp)=true from by rw [En.pt_p (En.or_t hs6) (En.inW_y hs7) hs9];rfl]
 exact tM T0
 have hs7f:(Rd.inW 0 ((c.st.length:Int)-1) kp)=false:=by simpa using hs7
 refine tD<|dW<|dW<|dW<|dS (iv c.st.length)<|dC (Kh (c:=(c.st.length:Int)-1) rfl<|w64 (by omega) (by omega)<|by omega) I0 I0<|dk (Zo Kr hs7f) [iv kp,iv 0,iv ((c.st.length:Int)-1)] rfl rfl<|dW<|dS bT<|dK<|dK<|dK<|dW<|dS bT<|dK<|dK<|dK<|dK<|dK<|dK<|dK<|dK<|dS bT<|eD<|kW 199 [(1,.box 27 (cFm p)),(2,.box 32 (cSz n t f)),(3,.box 36 (Rd.cCg c)),(5,.box 79 (cRu p.rz[r]))] [(4,bv fo),(5,bx 1),(6,bx 2),(7,bx 3),(10,bF),(11,bx 5),(12,iv i),(13,iv kp),(14,iv (Jd.lkF p.top c.sh c.st.length i)),(15,iv (Jd.lkS p.top c.sh c.st.length i)),(16,iv (En.lkP p.top c.sh c.st.length i)),(107,bT)] ?_
 rw [show (!En.ptB c p.rz[r] i kp)=true from by rw [En.pt_n (En.or_t hs6) (En.inW_n hs7f)];rfl]
 exact tM T0
 refine Zf ?_
 by_cases hs10:(!En.ptB c p.rz[r] i kp)=true
 rw [hs10]
 exact kW 199 (Y0 p n t f c p.rz[r]) [(4,bv fo),(5,bx 1),(6,bx 2),(7,bx 3),(10,bF),(11,bx 5),(12,iv i),(13,iv kp),(14,iv (Jd.lkF p.top c.sh c.st.length i)),(15,iv (Jd.lkS p.top c.sh c.st.length i)),(16,iv (En.lkP p.top c.sh c.st.length i)),(107,bT)]<|jK<|oS bF<|jE<|Zb<|Zb<|Zd results85 (.tmp rfl)<|cB<|(En.en_pt<|by simpa using hs10).symm
 have hs10f:(!En.ptB c p.rz[r] i kp)=false:=by simpa using hs10
 rw [hs10f]
 refine kW 199 (Y0 p n t f c p.rz[r]) [(4,bv fo),(5,bx 1),(6,bx 2),(7,bx 3),(10,bF),(11,bx 5),(12,iv i),(13,iv kp),(14,iv (Jd.lkF p.top c.sh c.st.length i)),(15,iv (Jd.lkS p.top c.sh c.st.length i)),(16,iv (En.lkP p.top c.sh c.st.length i)),(107,bF)]<|jL<|jM<|Za<|oF (iv p.rz[r].kind)<|oC (ZH rfl<|dF<|by omega) I0 I0<|jF<|jM ?_
 by_cases hs11:p.rz[r].dir=1
 refine Za<|W2<|oe (dT hs11)<|jG<|oS (iv kp)<|oS (iv<|Jd.lkS p.top c.sh c.st.length i)<|oC (ZH rfl rfl) I0 I0<|oS (bv<|decide<|kp=(Jd.lkS p.top c.sh c.st.length i))<|jE<|Zb<|Zb<|Zd results85 (.tmp rfl) ?_
 exact cB<|(by rw [En.en_5 hi (En.en_b hi hs4f).1 (by simpa using hs10f) (by have:=(En.or_t hs6);omega)];unfold En.psB;rw [if_pos hs11])
 refine Za<|W2<|oe (dF hs11)<|jF<|jM ?_
 by_cases hs12:p.rz[r].dir=2
 refine Za<|W2<|oe (dT hs12)<|jG<|oS (iv kp)<|oS (iv<|Jd.lkF p.top c.sh c.st.length i)<|oC (ZH rfl rfl) I0 I0<|oS (bv<|decide<|kp=(Jd.lkF p.top c.sh c.st.length i))<|jE<|Zb<|Zb<|Zd results85 (.tmp rfl) ?_
 exact cB<|(by rw [En.en_5 hi (En.en_b hi hs4f).1 (by simpa using hs10f) (by have:=(En.or_t hs6);omega)];unfold En.psB;rw [if_neg hs11,if_pos hs12])
 refine Za<|W2<|oe (dF hs12)<|jF<|jM ?_
 by_cases hs13:p.rz[r].dir=3
 refine Za<|W2<|oe (dT hs13)<|jH<|Zi ?_
 by_cases hs14:kp=(Jd.lkF p.top c.sh c.st.length i)
 refine Za<|W2<|oe (dT hs14)<|oS bT<|V3<|oF bT<|jE<|Zb<|Zb<|Zd results85 (.tmp rfl) ?_
 exact cB<|(by rw [En.en_5 hi (En.en_b hi hs4f).1 (by simpa using hs10f) (by have:=(En.or_t hs6);omega)];unfold En.psB;rw [if_neg hs11,if_neg hs12,if_pos hs13];simp only [dT hs14,decide_true,decide_false,Bool.and_true,Bool.true_and,Bool.false_and,Bool.and_false,Bool.true_or,Bool.false_or,Bool.or_true,Bool.or_false,Bool.not_true,Bool.not_false])
 refine Za<|W2<|oe (dF hs14)<|oS bF<|oS (iv kp)<|oS (iv<|Jd.lkS p.top c.sh c.st.length i)<|gC (ZH rfl rfl) I0 I0<|oF (bv<|decide<|kp=(Jd.lkS p.top c.sh c.st.length i))<|jE<|Zb<|Zb<|Zd results85 (.tmp rfl) ?_
 exact cB<|(by rw [En.en_5 hi (En.en_b hi hs4f).1 (by simpa using hs10f) (by have:=(En.or_t hs6);omega)];unfold En.psB;rw [if_neg hs11,if_neg hs12,if_pos hs13];simp only [dF hs14,decide_true,decide_false,Bool.and_true,Bool.true_and,Bool.false_and,Bool.and_false,Bool.true_or,Bool.false_or,Bool.or_true,Bool.or_false,Bool.not_true,Bool.not_false])
 refine Za<|W2<|oe (dF hs13)<|jF<|jB<|oS (iv kp)<|oS (iv<|En.lkP p.top c.sh c.st.length i)<|oC (ZH rfl rfl) I0 I0<|oS (bv<|decide<|kp=(En.lkP p.top c.sh c.st.length i))<|jE<|Zb<|Zd results85 (.tmp rfl) ?_
 exact cB<|(by rw [En.en_5 hi (En.en_b hi hs4f).1 (by simpa using hs10f) (by have:=(En.or_t hs6);omega)];unfold En.psB;rw [if_neg hs11,if_neg hs12,if_neg hs13])
 have hs6f:(decide (p.rz[r].kind=2)||decide (p.rz[r].kind=5))=false:=by simpa using hs6
 have hty:=En.or_f hs6f
 rw [hs6f]
 refine kW 199 (Y0 p n t f c p.rz[r]) [(4,bv fo),(5,bx 1),(6,bx 2),(7,bx 3),(10,bF),(11,bx 5),(12,iv i),(13,iv kp),(14,iv (Jd.lkF p.top c.sh c.st.length i)),(15,iv (Jd.lkS p.top c.sh c.st.length i)),(16,iv (En.lkP p.top c.sh c.st.length i)),(85,bF)]<|jL<|jM ?_
 by_cases hs15:kp=(-1)
 refine Za<|oW<|on (dT' hs15)<|jF<|jM<|Za<|oF (iv p.rz[r].kind)<|oC (ZH rfl<|dF<|by omega) I0 I0<|jF<|jM<|Za<|oF (iv p.rz[r].kind)<|oC (ZH rfl<|dF<|by omega) I0 I0<|kN 199 (ZfE p c p.rz[r]) [(5,bx 1),(7,bx 3),(10,bF),(11,bx 5),(12,iv i),(14,iv (Jd.lkF p.top c.sh c.st.length i)),(15,iv (Jd.lkS p.top c.sh c.st.length i)),(16,iv (En.lkP p.top c.sh c.st.length i)),(151,bF)]<|jJ<|jM ?_
 refine Ye (True) (ofL [(1,.box 27 (cFm p)),(3,.box 36 (Rd.cCg c)),(5,.box 79 (cRu p.rz[r]))]) (ofT 199 [(5,bx 1),(7,bx 3),(10,bF),(11,bx 5),(14,iv (Jd.lkF p.top c.sh c.st.length i)),(15,iv (Jd.lkS p.top c.sh c.st.length i)),(16,iv (En.lkP p.top c.sh c.st.length i)),(158,bv (decide (p.rz[r].pos=1) && !decide ((i:Int)=0)))]) ?_<|λ_ => ?_
 by_cases hs16:p.rz[r].pos=1
 by_cases hs17:(i:Int)=0
 refine Za<|W2<|oe (dT hs16)<|oS bT<|oW<|on (dT' hs17)<|oS bF<|kN 199 [(1,.box 27 (cFm p)),(3,.box 36 (Rd.cCg c)),(5,.box 79 (cRu p.rz[r]))] [(5,bx 1),(7,bx 3),(10,bF),(11,bx 5),(14,iv (Jd.lkF p.top c.sh c.st.length i)),(15,iv (Jd.lkS p.top c.sh c.st.length i)),(16,iv (En.lkP p.top c.sh c.st.length i)),(158,bF)] ?_
 rw [show (decide (p.rz[r].pos=1) && !decide ((i:Int)=0))=false by simp only [hs4f,hs6f,dT hs15,dT hs16,dT hs17,decide_true,decide_false,Bool.and_true,Bool.true_and,Bool.false_and,Bool.and_false,Bool.true_or,Bool.false_or,Bool.or_true,Bool.or_false,Bool.not_true,Bool.not_false]]
 exact tM T0
 refine Za<|W2<|oe (dT hs16)<|oS bT<|oW<|on (dF' hs17)<|oS bT<|kN 199 [(1,.box 27 (cFm p)),(3,.box 36 (Rd.cCg c)),(5,.box 79 (cRu p.rz[r]))] [(5,bx 1),(7,bx 3),(10,bF),(11,bx 5),(14,iv (Jd.lkF p.top c.sh c.st.length i)),(15,iv (Jd.lkS p.top c.sh c.st.length i)),(16,iv (En.lkP p.top c.sh c.st.length i)),(158,bT)] ?_
 rw [show (decide (p.rz[r].pos=1) && !decide ((i:Int)=0))=true by simp only [hs4f,hs6f,dT hs15,dT hs16,dF hs17,decide_true,decide_false,Bool.and_true,Bool.true_and,Bool.false_and,Bool.and_false,Bool.true_or,Bool.false_or,Bool.or_true,Bool.or_false,Bool.not_true,Bool.not_false]]
 exact tM T0
 refine Za<|W2<|oe (dF hs16)<|oS bF<|V2<|oS bF<|kN 199 [(1,.box 27 (cFm p)),(3,.box 36 (Rd.cCg c)),(5,.box 79 (cRu p.rz[r]))] [(5,bx 1),(7,bx 3),(10,bF),(11,bx 5),(14,iv (Jd.lkF p.top c.sh c.st.length i)),(15,iv (Jd.lkS p.top c.sh c.st.length i)),(16,iv (En.lkP p.top c.sh c.st.length i)),(158,bF)] ?_
 rw [show (decide (p.rz[r].pos=1) && !decide ((i:Int)=0))=false by simp only [hs4f,hs6f,dT hs15,dF hs16,decide_true,decide_false,Bool.and_true,Bool.true_and,Bool.false_and,Bool.and_false,Bool.true_or,Bool.false_or,Bool.or_true,Bool.or_false,Bool.not_true,Bool.not_false]]
 exact tM T0
 refine Zf ?_
 by_cases hs18:(decide (p.rz[r].pos=1) && !decide ((i:Int)=0))=true
 rw [hs18]
 refine kW 199 (ZfE p c p.rz[r]) [(5,bx 1),(7,bx 3),(10,bF),(11,bx 5),(14,iv (Jd.lkF p.top c.sh c.st.length i)),(15,iv (Jd.lkS p.top c.sh c.st.length i)),(16,iv (En.lkP p.top c.sh c.st.length i)),(158,bT)]<|jK<|oS bF<|jE<|Zb<|Zd results85 (.tmp rfl) ?_
 exact cB<|(by rw [En.en_4 hi (En.en_b hi hs4f).1 (En.pt_1 (En.or_f hs6f) hs15) (by have:=(En.or_f hs6f);have:=R.kd;omega)];unfold En.nbB;simp only [hs18,decide_true,decide_false,Bool.and_true,Bool.true_and,Bool.false_and,Bool.and_false,Bool.true_or,Bool.false_or,Bool.or_true,Bool.or_false,Bool.not_true,Bool.not_false])
 have hs18f:(decide (p.rz[r].pos=1) && !decide ((i:Int)=0))=false:=by simpa using hs18
 rw [hs18f]
 refine kW 199 (ZfE p c p.rz[r]) [(5,bx 1),(7,bx 3),(10,bF),(11,bx 5),(14,iv (Jd.lkF p.top c.sh c.st.length i)),(15,iv (Jd.lkS p.top c.sh c.st.length i)),(16,iv (En.lkP p.top c.sh c.st.length i)),(158,bF)]<|jL<|jM<|Ye (True) (ofL [(3,.box 36 (Rd.cCg c)),(5,.box 79 (cRu p.rz[r]))]) (ofT 199 [(7,bx 3),(10,bF),(11,bx 5),(14,iv (Jd.lkF p.top c.sh c.st.length i)),(15,iv (Jd.lkS p.top c.sh c.st.length i)),(16,iv (En.lkP p.top c.sh c.st.length i)),(179,bv (decide (p.rz[r].pos=2)&&decide (0<=(Jd.lkS p.top c.sh c.st.length i))))]) ?_<|λ_ => ?_
 by_cases hs19:p.rz[r].pos=2
 by_cases hs20:p.top=2
 by_cases hs21:(Jd.lkS p.top c.sh c.st.length i)=(-1)
 refine Za<|W2<|oe (dT hs19)<|oS bT<|W2<|oe (dT hs20)<|oS bT<|oW<|on (dT' hs21)<|oF bF<|oF (iv p.top)<|gC (ZH rfl<|dF<|by omega) I0 I0<|oS bF<|V2<|W2<|oS bF<|kN 199 (Za2 c p.rz[r]) (ZfD p c i) ?_
 have hS:decide (0<=(Jd.lkS p.top c.sh c.st.length i))=false:=by have:=En.lineS (sh:=c.sh) hi;rw [hs20] at *;exact decide_eq_false (by omega)
 rw [show (decide (p.rz[r].pos=2)&&decide (0<=(Jd.lkS p.top c.sh c.st.length i)))=false from by rw [hS,decide_eq_true hs19];rfl]
 exact tM T0
 refine Za<|W2<|oe (dT hs19)<|oS bT<|W2<|oe (dT hs20)<|oS bT<|oW<|on (dF' hs21)<|oF bT<|V5<|V2<|oW<|oS bT<|kN 199 (Za2 c p.rz[r]) (ZfC p c i) ?_
 have hS:decide (0<=(Jd.lkS p.top c.sh c.st.length i))=true:=by have:=En.lineS (sh:=c.sh) hi;rw [hs20] at *;exact decide_eq_true (by omega)
 rw [show (decide (p.rz[r].pos=2)&&decide (0<=(Jd.lkS p.top c.sh c.st.length i)))=true from by rw [hS,decide_eq_true hs19];rfl]
 exact tM T0
 by_cases hs22:(Jd.lkF p.top c.sh c.st.length i)=(-1)
 refine Za<|W2<|oe (dT hs19)<|oS bT<|W2<|oe (dF hs20)<|oS bF<|V2<|oF bF<|oF (iv p.top)<|gC (ZH rfl<|dT (by have h4:p.rz[r].kind=4:=(by omega);have:=R.po h4 (by omega);omega)) I0 I0<|oS bT<|oW<|on (dT' hs22)<|W2<|oS bF<|kN 199 (Za2 c p.rz[r]) (ZfD p c i) ?_
 have hS:decide (0<=(Jd.lkS p.top c.sh c.st.length i))=false:=by have hb:=En.bothC hc hi (by have h4:p.rz[r].kind=4:=(by omega);have:=R.po h4 (by omega);omega);exact decide_eq_false (by omega)
 rw [show (decide (p.rz[r].pos=2)&&decide (0<=(Jd.lkS p.top c.sh c.st.length i)))=false from by rw [hS,decide_eq_true hs19];rfl]
 exact tM T0
 refine Za<|W2<|oe (dT hs19)<|oS bT<|W2<|oe (dF hs20)<|oS bF<|V2<|oF bF<|oF (iv p.top)<|gC (ZH rfl<|dT (by have h4:p.rz[r].kind=4:=(by omega);have:=R.po h4 (by omega);omega)) I0 I0<|oS bT<|oW<|on (dF' hs22)<|W2<|oS bT<|kN 199 (Za2 c p.rz[r]) (ZfC p c i) ?_
 have hS:decide (0<=(Jd.lkS p.top c.sh c.st.length i))=true:=by have hb:=En.bothC hc hi (by have h4:p.rz[r].kind=4:=(by omega);have:=R.po h4 (by omega);omega);exact decide_eq_true (by omega)
 rw [show (decide (p.rz[r].pos=2)&&decide (0<=(Jd.lkS p.top c.sh c.st.length i)))=true from by rw [hS,decide_eq_true hs19];rfl]
 exact tM T0
 refine Za<|W2<|oe (dF hs19)<|oS bF<|V5<|V5<|V5<|qK<|oS bF<|kN 199 [(3,.box 36 (Rd.cCg c)),(5,.box 79 (cRu p.rz[r]))] [(7,bx 3),(10,bF),(11,bx 5),(14,iv (Jd.lkF p.top c.sh c.st.length i)),(15,iv (Jd.lkS p.top c.sh c.st.length i)),(16,iv (En.lkP p.top c.sh c.st.length i)),(179,bF)] ?_
 rw [show (decide (p.rz[r].pos=2)&&decide (0<=(Jd.lkS p.top c.sh c.st.length i)))=false from by rw [decide_eq_false hs19];rfl]
 exact tM T0
 refine Zf ?_
 by_cases hs23:(decide (p.rz[r].pos=2)&&decide (0<=(Jd.lkS p.top c.sh c.st.length i)))=true
 rw [hs23]
 refine kW 199 (Za2 c p.rz[r]) (ZfC p c i)<|jK<|oS bF<|jE<|Zb<|Zd results85 (.tmp rfl) ?_
 exact cB<|(by rw [En.en_4 hi (En.en_b hi hs4f).1 (En.pt_1 (En.or_f hs6f) hs15) (by have:=(En.or_f hs6f);have:=R.kd;omega)];unfold En.nbB;simp only [hs18f,hs23,decide_true,decide_false,Bool.and_true,Bool.true_and,Bool.false_and,Bool.and_false,Bool.true_or,Bool.false_or,Bool.or_true,Bool.or_false,Bool.not_true,Bool.not_false])
 have hs23f:(decide (p.rz[r].pos=2)&&decide (0<=(Jd.lkS p.top c.sh c.st.length i)))=false:=by simpa using hs23
 rw [hs23f]
 refine kW 199 (Za2 c p.rz[r]) (ZfD p c i)<|jL<|Zi ?_
 by_cases hs24:(En.fitB c (Jd.lkF p.top c.sh c.st.length i) p.rz[r].left)=true
 by_cases hs25:(En.fitB c (Jd.lkS p.top c.sh c.st.length i) p.rz[r].right)=true
 refine Za<|W4<|oK (Zo (Wg HC (Nat.le_trans (HL.rz _<|List.getElem_mem hr).left (by decide)) hlk.1) hs24) [.agg (Rd.cCg c),Zc p.rz[r].left,iv (Jd.lkF p.top c.sh c.st.length i)] rfl rfl<|oS bT<|W4<|oK (Zo (Wg HC (Nat.le_trans (HL.rz _<|List.getElem_mem hr).right (by decide)) hlk.2.1) hs25) [.agg (Rd.cCg c),Zc p.rz[r].right,iv (Jd.lkS p.top c.sh c.st.length i)] rfl rfl<|oF bT<|W4<|oK (Wg HC (Nat.le_trans (HL.rz _<|List.getElem_mem hr).pz (by decide)) hlk.2.2) [.agg (Rd.cCg c),Zc p.rz[r].pz,iv (En.lkP p.top c.sh c.st.length i)] rfl rfl<|oF (bv<|En.fitB c (En.lkP p.top c.sh c.st.length i) p.rz[r].pz)<|jE ?_
 refine Zd results85 (.tmp rfl) ?_
 exact cB<|(by rw [En.en_4 hi (En.en_b hi hs4f).1 (En.pt_1 (En.or_f hs6f) hs15) (by have:=(En.or_f hs6f);have:=R.kd;omega)];unfold En.nbB;simp only [hs18f,hs23f,hs24,hs25,decide_true,decide_false,Bool.and_true,Bool.true_and,Bool.false_and,Bool.and_false,Bool.true_or,Bool.false_or,Bool.or_true,Bool.or_false,Bool.not_true,Bool.not_false])
 have hs25f:(En.fitB c (Jd.lkS p.top c.sh c.st.length i) p.rz[r].right)=false:=by simpa using hs25
 refine Za<|W4<|oK (Zo (Wg HC (Nat.le_trans (HL.rz _<|List.getElem_mem hr).left (by decide)) hlk.1) hs24) [.agg (Rd.cCg c),Zc p.rz[r].left,iv (Jd.lkF p.top c.sh c.st.length i)] rfl rfl<|oS bT<|W4<|oK (Zo (Wg HC (Nat.le_trans (HL.rz _<|List.getElem_mem hr).right (by decide)) hlk.2.1) hs25f) [.agg (Rd.cCg c),Zc p.rz[r].right,iv (Jd.lkS p.top c.sh c.st.length i)] rfl rfl<|oF bF<|V5<|oF bF<|jE<|Zd results85 (.tmp rfl) ?_
 exact cB<|(by rw [En.en_4 hi (En.en_b hi hs4f).1 (En.pt_1 (En.or_f hs6f) hs15) (by have:=(En.or_f hs6f);have:=R.kd;omega)];unfold En.nbB;simp only [hs18f,hs23f,hs24,hs25f,decide_true,decide_false,Bool.and_true,Bool.true_and,Bool.false_and,Bool.and_false,Bool.true_or,Bool.false_or,Bool.or_true,Bool.or_false,Bool.not_true,Bool.not_false])
 have hs24f:(En.fitB c (Jd.lkF p.top c.sh c.st.length i) p.rz[r].left)=false:=by simpa using hs24
 refine Za<|W4<|oK (Zo (Wg HC (Nat.le_trans (HL.rz _<|List.getElem_mem hr).left (by decide)) hlk.1) hs24f) [.agg (Rd.cCg c),Zc p.rz[r].left,iv (Jd.lkF p.top c.sh c.st.length i)] rfl rfl<|oS bF<|V5<|oF bF<|V5<|oF bF<|jE<|Zd results85 (.tmp rfl) ?_
 exact cB<|(by rw [En.en_4 hi (En.en_b hi hs4f).1 (En.pt_1 (En.or_f hs6f) hs15) (by have:=(En.or_f hs6f);have:=R.kd;omega)];unfold En.nbB;simp only [hs18f,hs23f,hs24f,decide_true,decide_false,Bool.and_true,Bool.true_and,Bool.false_and,Bool.and_false,Bool.true_or,Bool.false_or,Bool.or_true,Bool.or_false,Bool.not_true,Bool.not_false])
 exact Za<|oW<|on (dF' hs15)<|jG<|oS bF<|jE<|Zb<|Zd results85 (.tmp rfl)<|cB<|(En.en_pt<|En.pt_o (En.or_f hs6f) hs15).symm
variable {y:Int}
set_option maxRecDepth 100000 in
set_option maxHeartbeats 6400000 in
theorem ZbQ (HL:FamLen p) (HC:Rd.CgOk c) (hc:En.CfV p n f c) (hv:valE p=0) (hf:0<=f/\f<=1048576) (hno:Rd.inW 0 ((p.rz.length:Int)-1) x=true->Rd.inW 0 ((c.st.length:Int)-1) y=false):Ctr Tryz.prog J 85 [.agg (cFm p),.agg (cSz n t f),.agg (Rd.cCg c),.agg [iv x,iv y,iv kp],bv fo] bF:=by
 have hz:=En.val_sizes hv
 have hlst:=HC.lst
 refine Zn func85 rfl (pN (Zg<|Zy p)<|pN (Zg<|ZT n t f)<|pN (Zg<|Rd.plain_cg c)<|pN (Zg<|pN (.v _)<|pN (.v _)<|pN (.v _) pZ)<|pN (.v _) pZ) (n:=199) rfl (by simp)<|λw0 => kW 199 [] [(0,.agg (cFm p)),(1,.agg (cSz n t f)),(2,.agg (Rd.cCg c)),(3,.agg [iv x,iv y,iv kp]),(4,bv fo)]<|jB<|oX 1 (.agg (cFm p))<|oX 2 (.agg (cSz n t f))<|oX 3 (.agg (Rd.cCg c))<|oX 4 (.agg [iv x,iv y,iv kp])<|oS bF<|jD<|Zi ?_
 by_cases hs1:(Rd.inW 0 ((p.rz.length:Int)-1) x)=true
 exact Za<|W3<|oF (iv p.rz.length)<|oU ((p.rz.length:Int)-1)<|oK (Zo Kr hs1) [iv x,iv 0,iv ((p.rz.length:Int)-1)] rfl rfl<|oF bF<|W3<|oF (iv c.st.length)<|oU ((c.st.length:Int)-1)<|oK (Zo Kr<|hno hs1) [iv y,iv 0,iv ((c.st.length:Int)-1)] rfl rfl<|oW<|oS bT<|jG<|oS bF<|jA<|jN<|Zd results85 (.tmp rfl)<|rfl
 have hs1f:(Rd.inW 0 ((p.rz.length:Int)-1) x)=false:=by simpa using hs1
 exact Za<|W3<|oF (iv p.rz.length)<|oU ((p.rz.length:Int)-1)<|oK (Zo Kr hs1f) [iv x,iv 0,iv ((p.rz.length:Int)-1)] rfl rfl<|oF bT<|V5<|V3<|oS bT<|jG<|oS bF<|ZL<|Zf<|jN<|Zd results85 (.tmp rfl)<|rfl
variable {m:Nat}
theorem En.inW_isP :Rd.inW 0 ((m:Int)-1) x=En.isP m x:=by
 unfold Rd.inW En.isP
 congr 1
 exact decide_eq_decide.2 (by omega)
theorem ZcC (HL:FamLen p) (HC:Rd.CgOk c) (hc:En.CfV p n f c) (hv:valE p=0) (hf:0<=f/\f<=1048576)  :Ctr Tryz.prog J 85 [.agg (cFm p),.agg (cSz n t f),.agg (Rd.cCg c),.agg [iv x,iv y,iv kp],bv fo] (bv (En.enB p n t f c (En.hdG p f c fo) x y kp)):=by
 by_cases h1:0<=x/\x<(p.rz.length:Int)
 ·by_cases h2:0<=y/\y<(c.st.length:Int)
  ·obtain ⟨r,rfl⟩:=Int.eq_ofNat_of_zero_le h1.1
   obtain ⟨i,rfl⟩:=Int.eq_ofNat_of_zero_le h2.1
   have hr:r<p.rz.length:=by omega
   have hi:i<c.st.length:=by omega
   have e:En.enB p n t f c (En.hdG p f c fo) (r:Int) (i:Int) kp=En.enR p.top n t f c (En.hdG p f c fo) p.rz[r] i kp:=by
    unfold En.enB
    rw [En.isP_nat hr,En.isP_nat hi,Int.toNat_natCast,Int.toNat_natCast,List.getD_eq_getElem?_getD,List.getElem?_eq_getElem hr]
    rfl
   rw [e]
   by_cases h3:p.top=1
   ·exact Zea HL HC hc hv hf hr hi h3
   exact Zd9 HL HC hc hv hf hr hi h3
  have e:En.enB p n t f c (En.hdG p f c fo) x y kp=false:=by
   unfold En.enB
   rw [En.isP_no h2];simp
  rw [e]
  exact ZbQ HL HC hc hv hf λ_=>by rw [En.inW_isP];exact En.isP_no h2
 have e:En.enB p n t f c (En.hdG p f c fo) x y kp=false:=by
  unfold En.enB
  rw [En.isP_no h1];rfl
 rw [e]
 exact ZbQ HL HC hc hv hf λh=>by rw [En.inW_isP,En.isP_no h1] at h;cases h
end Go.Proofs.YtmpgnibfhjdfpaaGreat
