import Derived.Test.YtmpgnibfhjdfpaaGreatGrpfeghdkpi
import Derived.Test.YtmpgnibfhjdfpaaGreatGrpcjplndde
import Derived.Test.YtmpgnibfhjdfpaaGreatGrpekedlffa
import Derived.Test.YtmpgnibfhjdfpaaGreatGrpeojcophi
import Derived.Test.YtmpgnibfhjdfpaaGreatGrpblkdaogj
set_option linter.all false
namespace Go.Proofs.YtmpgnibfhjdfpaaGreat
open Go.RowKit Go.Deep Tryz
variable {J:World->Prop}
abbrev YH (x0:Fm) (x1:Pq):List (Nat × ABlk):=[(1,.box 27 (cFm x0)),(2,.box 30 (cPq x1))]
abbrev ZdB (x0:Fm):List (Nat × AV):=[(2,bx 1),(3,bx 2),(6,iv x0.sz.length)]
abbrev ZaY (x0:Pq):List (Nat × ABlk):=[(2,.box 30 (cPq x0))]
abbrev ZfA (x0:Fm) (x1:Nat):List (Nat × AV):=[(3,bx 2),(6,iv x0.sz.length),(12,iv x1)]
variable {p:Fm}{q:Pq}
set_option maxRecDepth 100000 in
set_option maxHeartbeats 6400000 in
theorem Zal (HP:FmOk p) (HQ:PqOk q):Ctr Tryz.prog J 41 [.agg (cFm p),.agg (cPq q)] (iv<|vpE p q):=by
 have l1:=HQ.lstart
 have l2:=HQ.lbad
 have l3:=HQ.ladj
 have l4:=HP.lstates
 refine Zn func41 rfl (pN (Zg<|Zy p)<|pN (Zg<|Yd q) pZ) (n:=181) rfl (by simp)<|λw0 => jB<|oX 1 (.agg (cFm p))<|oX 2 (.agg (cPq q))<|oS (iv 0)<|jD<|jB<|oW<|oK (ZbS HP) [.agg (cFm p)] rfl rfl<|oS (iv<|valE p)<|jD ?_
 by_cases hs1:valE p=0
 refine Za<|oW<|on (dT' hs1)<|jF<|jB<|W2<|oF (iv p.sz.length)<|jD<|Zi ?_
 by_cases hs2:(nameB q.nm.toList)=true
 refine Za<|W2<|oK (Zo (Yq q.nm HQ.nm) hs2) [sv q.nm] rfl rfl<|oS bF<|jF<|jM ?_
 by_cases hs3:q.kind=1
 refine Za<|W2<|on (dT' hs3)<|oS bF<|V3<|oS bF<|jF<|jM ?_
 by_cases hs4:0<(q.goal.length:Int)
 exact Za<|W2<|oe (dT hs3)<|oS bT<|W3<|og (dT hs4)<|oF bT<|V5<|V5<|V4<|qK<|oS bT<|jG<|oS (iv 1)<|jE<|Zb<|Zd results41 (.tmp rfl)<|congrArg (λx:Int=>AV.v (.int .i64 x))<|((WA hs1 hs2).trans (v2_g hs3 hs4)).symm
 refine Za<|W2<|oe (dT hs3)<|oS bT<|W3<|og (dF hs4)<|oF bF<|oF (iv q.kind)<|gC (ZH rfl<|dF (show ¬ q.kind=2 by omega)) I0 I0<|oS bF<|V5<|V5<|oW<|oS bF<|jF<|jM<|Za<|W3<|oK (K5 p.sz.length HP.lstates q.start HQ.start) [Zc q.start,iv p.sz.length] rfl rfl<|oS (iv<|setE p.sz.length q.start)<|kN 181 (YH p q) [(2,bx 1),(3,bx 2),(4,iv 0),(6,iv p.sz.length),(7,iv (setE p.sz.length q.start))]<|jC ?_
 by_cases hs5:setE p.sz.length q.start=0
 refine Za<|oW<|on (dT' hs5)<|jF<|jM<|Za<|oS (iv 0)<|jA<|Ye (subB p.init q.start q.start.length=true) (ofL<|YH p q) (ofT 181<|ZdB p) ?_<|λSUB => ?_
 refine Zh<|Zw (σ:={k:Nat // k<=q.start.length/\subB p.init q.start k=true}) (λs=>(ofL (YH p q),ofT 181 [(2,bx 1),(3,bx 2),(6,iv p.sz.length),(8,iv s.1)])) (λs=>q.start.length-s.1) ⟨0,Nat.zero_le _,rfl⟩ (Zk _ _)<|λs => ?_
 obtain ⟨k,hk0,hs0⟩:=s
 show ETri J w0 (ofL<|YH p q) (ofT 181 [(2,bx 1),(3,bx 2),(6,iv p.sz.length),(8,iv k)]) _
 refine jM ?_
 by_cases hs6:(k:Int)<(q.start.length:Int)
 refine Za<|W4<|ol (dT hs6)<|jH<|Zj<|jC<|Zh<|Zi ?_
 by_cases hs7:(decide<|q.start[k]∈p.init)=true
 exact tD<|dW<|dW<|dW<|dS (Zc q.start)<|dS (iv k)<|dC (xS (k*1) 76 77 U24) I0 I0<|dL (iv q.start[k]) (Zr q.start<|by omega)<|dk (Zo (ZaG p.init q.start[k] HP.linit) hs7) [Zc p.init,iv q.start[k]] rfl rfl<|dS bF<|eD<|Zf<|Zu rfl<|Zj<|Zs<|Zf<|Za<|oS (iv k)<|oV ((k+1:Nat):Int)<|oS (iv (k+1:Nat))<|jA<|Zp ⟨k+1,by omega,Zau (by omega) hs0 hs7⟩ (show q.start.length-(k+1)<q.start.length-k by omega)<|Zk _ _
 have hs7f:(decide<|q.start[k]∈p.init)=false:=by simpa using hs7
 exact tD<|dW<|dW<|dW<|dS (Zc q.start)<|dS (iv k)<|dC (xS (k*1) 76 77 U24) I0 I0<|dL (iv q.start[k]) (Zr q.start<|by omega)<|dk (Zo (ZaG p.init q.start[k] HP.linit) hs7f) [Zc p.init,iv q.start[k]] rfl rfl<|dS bT<|eD<|Zf<|jK<|oS (iv 5)<|jE<|Ze<|Zb<|Zb<|Ze<|ZW<|Zb<|Zd results41 (.tmp rfl)<|congrArg (λx:Int=>AV.v (.int .i64 x))<|((WA hs1 hs2).trans ((Zcf hs3 hs4).trans (v3_i hs5 (k:=k) (by omega) hs7f))).symm
 refine Za<|W4<|ol (dF hs6)<|kN 181 (YH p q) [(2,bx 1),(3,bx 2),(6,iv p.sz.length),(8,iv k),(70,bF)]<|Zf<|Zu rfl<|jO ?_
 exact YN (by have:k=q.start.length:=(by omega);subst this;exact hs0)<|Zk _ _
 refine jC<|jB<|oF (iv q.kind)<|oC (ZH rfl<|dF (show ¬ q.kind=2 by omega)) I0 I0<|jF<|jM ?_
 by_cases hs8:(q.bad.length:Int)=0
 by_cases hs9:(q.adj.length:Int)=0
 exact Za<|W3<|oe (dT hs8)<|oS bT<|W3<|oe (dT hs9)<|oS bT<|jG<|oS (iv 1)<|jE<|Zb<|Zd results41 (.tmp rfl)<|congrArg (λx:Int=>AV.v (.int .i64 x))<|(((WA hs1 hs2).trans ((Zcf hs3 hs4).trans (Zce hs5 SUB))).trans (bad_0 hs8 hs9)).symm
 refine Za<|W3<|oe (dT hs8)<|oS bT<|W3<|oe (dF hs9)<|oS bF<|jF<|jM<|Za<|oW<|oF (iv q.bad.length)<|oC (WC rfl<|dF (show ¬ 3<(q.bad.length:Int) by omega)) I0 I0<|jA<|jL<|jM<|Za<|oS (iv 0)<|jA<|Ye (cntOk p.sz.length q.bad q.bad.length) (ofL<|YH p q) (ofT 181<|ZdB p) ?_<|λCNT => ?_
 refine Zh<|Zw (σ:={k:Nat // k<=q.bad.length/\cntOk p.sz.length q.bad k}) (λs=>(ofL (YH p q),ofT 181 [(2,bx 1),(3,bx 2),(6,iv p.sz.length),(10,iv s.1)])) (λs=>q.bad.length-s.1) ⟨0,Nat.zero_le _,WX _ _⟩ (Zk _ _)<|λs => ?_
 obtain ⟨k,hk0,hs0⟩:=s
 show ETri J w0 (ofL<|YH p q) (ofT 181 [(2,bx 1),(3,bx 2),(6,iv p.sz.length),(10,iv k)]) _
 refine jM ?_
 by_cases hs10:(k:Int)<(q.bad.length:Int)
 refine Za<|W4<|ol (dT hs10)<|jH<|Zj<|jC<|Zh<|jM<|Za<|oF (slA 2 cRw q.bad)<|oS (iv k)<|oC (xS (k*2) 118 119 U28) I0 I0<|oW<|oL (Zc q.bad[k].1) (fT lenRw q.bad k 0)<|oW<|oK (K5 p.sz.length HP.lstates q.bad[k].1 (HQ.bad q.bad[k] (List.getElem_mem<|by omega)).1) [Zc q.bad[k].1,iv p.sz.length] rfl rfl<|oS (iv<|setE p.sz.length q.bad[k].1)<|jD ?_
 by_cases hs11:setE p.sz.length q.bad[k].1=0
 refine Za<|oW<|on (dT' hs11)<|jF<|Zi ?_
 by_cases hs12:((q.bad[k].1.length:Nat):Int)=0
 exact Za<|oF (slA 2 cRw q.bad)<|oS (iv k)<|oC (xS (k*2) 129 130 U28) I0 I0<|oW<|oL (Zc q.bad[k].1) (fT lenRw q.bad k 0)<|oW<|oe (dT hs12)<|oS bT<|V5<|V3<|oS bT<|jG<|oS (iv 1)<|jE<|Ze<|Zb<|Zb<|Ze<|ZW<|Zb<|Zd results41 (.tmp rfl)<|congrArg (λx:Int=>AV.v (.int .i64 x))<|(((WA hs1 hs2).trans ((Zcf hs3 hs4).trans (Zce hs5 SUB))).trans (Zcm ⟨(λh=>hs9 h.2),(show ¬ 3<(q.bad.length:Int) by omega)⟩ (k:=k) (by omega) hs0 (cnt_l hs11 hs12)<|by decide)).symm
 by_cases hs13:(inB 1 3 q.bad[k].2)=true
 exact Za<|oF (slA 2 cRw q.bad)<|oS (iv k)<|oC (xS (k*2) 129 130 U28) I0 I0<|oW<|oL (Zc q.bad[k].1) (fT lenRw q.bad k 0)<|oW<|oe (dF hs12)<|oS bF<|oF (slA 2 cRw q.bad)<|oS (iv k)<|gC (xS (k*2) 138 139 U28) I0 I0<|oW<|oL (iv q.bad[k].2) (fT lenRw q.bad k 1)<|oK (Zo (Zv q.bad[k].2 1 3) hs13) [iv q.bad[k].2,iv 1,iv 3] rfl rfl<|oW<|oS bF<|jI<|Zj<|Zs<|Zf<|Za<|oS (iv k)<|oV ((k+1:Nat):Int)<|oS (iv (k+1:Nat))<|jA<|Zp ⟨k+1,by omega,WY (by omega) hs0 (cnt_0 hs11 hs12 hs13)⟩ (show q.bad.length-(k+1)<q.bad.length-k by omega)<|Zk _ _
 have hs13f:(inB 1 3 q.bad[k].2)=false:=by simpa using hs13
 refine Za<|oF (slA 2 cRw q.bad)<|oS (iv k)<|oC (xS (k*2) 129 130 U28) I0 I0<|oW<|oL (Zc q.bad[k].1) (fT lenRw q.bad k 0)<|oW<|oe (dF hs12)<|oS bF<|oF (slA 2 cRw q.bad)<|oS (iv k)<|gC (xS (k*2) 138 139 U28) I0 I0<|oW<|oL (iv q.bad[k].2) (fT lenRw q.bad k 1)<|oK (Zo (Zv q.bad[k].2 1 3) hs13f) [iv q.bad[k].2,iv 1,iv 3] rfl rfl<|oW<|oS bT<|jG<|oS (iv 1)<|ZL<|Zf<|ZQ<|Ze<|Zb<|Zb<|Ze<|ZW<|Zb<|Zd results41 (.tmp rfl) ?_
 exact congrArg (λx:Int=>AV.v (.int .i64 x))<|(((WA hs1 hs2).trans ((Zcf hs3 hs4).trans (Zce hs5 SUB))).trans (Zcm ⟨(λh=>hs9 h.2),(show ¬ 3<(q.bad.length:Int) by omega)⟩ (k:=k) (by omega) hs0 (cnt_b hs11 hs12 hs13f)<|by decide)).symm
 exact Za<|oW<|on (dF' hs11)<|jG<|oF (iv<|setE p.sz.length q.bad[k].1)<|jE<|Zb<|Ze<|Zb<|Zb<|Ze<|ZW<|Zb<|Zd results41 (.tmp rfl)<|congrArg (λx:Int=>AV.v (.int .i64 x))<|(((WA hs1 hs2).trans ((Zcf hs3 hs4).trans (Zce hs5 SUB))).trans (Zcm ⟨(λh=>hs9 h.2),(show ¬ 3<(q.bad.length:Int) by omega)⟩ (k:=k) (by omega) hs0 (cnt_s hs11) hs11)).symm
 refine Za<|W4<|ol (dF hs10)<|kN 181 (YH p q) [(2,bx 1),(3,bx 2),(6,iv p.sz.length),(10,iv k),(114,bF)]<|Zf<|Zu rfl<|jO ?_
 exact YN (by have:k=q.bad.length:=(by omega);subst this;exact hs0)<|Zk _ _
 refine jC<|Zi ?_
 by_cases hs14:p.top=1
 exact Za<|oW<|oF (iv q.adj.length)<|oC (WC rfl<|dT (show 0<(q.adj.length:Int) by omega)) I0 I0<|oS bT<|W2<|oe (dT hs14)<|oS bT<|jG<|oS (iv 6)<|jE<|Zb<|Zd results41 (.tmp rfl)<|congrArg (λx:Int=>AV.v (.int .i64 x))<|(((WA hs1 hs2).trans ((Zcf hs3 hs4).trans (Zce hs5 SUB))).trans ((Zb4 ⟨(λh=>hs9 h.2),(show ¬ 3<(q.bad.length:Int) by omega)⟩ CNT).trans (adj_6 (by omega) hs14))).symm
 refine Za<|oW<|oF (iv q.adj.length)<|oC (WC rfl<|dT (show 0<(q.adj.length:Int) by omega)) I0 I0<|oS bT<|W2<|oe (dF hs14)<|oS bF<|jF<|jM ?_
 by_cases hs15:(q.adj.length:Int)=2
 refine Za<|W3<|on (dF' hs9)<|oS bT<|W3<|on (dT' hs15)<|oS bF<|jF<|jM<|Za<|oS (iv 0)<|jA<|Zh<|Zw (σ:={k:Nat // k<=q.adj.length/\adjB p.sz.length q.adj k=true}) (λs=>(ofL (ZaY q),ofT 181 [(3,bx 2),(6,iv p.sz.length),(12,iv s.1)])) (λs=>q.adj.length-s.1) ⟨0,Nat.zero_le _,rfl⟩ (Zk _ _)<|λs => ?_
 obtain ⟨k,hk0,hs0⟩:=s
 show ETri J w0 (ofL<|ZaY q) (ofT 181<|ZfA p k) _
 refine jM ?_
 by_cases hs16:(k:Int)<(q.adj.length:Int)
 refine Za<|W4<|ol (dT hs16)<|jH<|Zj<|jC<|Zh<|Zi ?_
 by_cases hs17:(inB 0 ((p.sz.length:Int)-1) q.adj[k])=true
 exact Za<|oF (Zc q.adj)<|oS (iv k)<|oC (xS (k*1) 173 174 U24) I0 I0<|oL (iv q.adj[k]) (Zr q.adj<|by omega)<|oS (iv p.sz.length)<|oU ((p.sz.length:Int)-1)<|oK (Zo (Zv q.adj[k] 0 ((p.sz.length:Int)-1)) hs17) [iv q.adj[k],iv 0,iv ((p.sz.length:Int)-1)] rfl rfl<|oS bF<|jI<|Zj<|Zs<|Zf<|Za<|oS (iv k)<|oV ((k+1:Nat):Int)<|oS (iv (k+1:Nat))<|jA<|Zp ⟨k+1,by omega,Zb8 (by omega) hs0 hs17⟩ (show q.adj.length-(k+1)<q.adj.length-k by omega)<|Zk _ _
 have hs17f:(inB 0 ((p.sz.length:Int)-1) q.adj[k])=false:=by simpa using hs17
 exact Za<|oF (Zc q.adj)<|oS (iv k)<|oC (xS (k*1) 173 174 U24) I0 I0<|oL (iv q.adj[k]) (Zr q.adj<|by omega)<|oS (iv p.sz.length)<|oU ((p.sz.length:Int)-1)<|oK (Zo (Zv q.adj[k] 0 ((p.sz.length:Int)-1)) hs17f) [iv q.adj[k],iv 0,iv ((p.sz.length:Int)-1)] rfl rfl<|oS bT<|jG<|oS (iv 5)<|jE<|Ze<|Zb<|Zb<|Ze<|Zb<|Zd results41 (.tmp rfl)<|congrArg (λx:Int=>AV.v (.int .i64 x))<|(((WA hs1 hs2).trans ((Zcf hs3 hs4).trans (Zce hs5 SUB))).trans ((Zb4 ⟨(λh=>hs9 h.2),(show ¬ 3<(q.bad.length:Int) by omega)⟩ CNT).trans (adj_5 (by omega) hs14 hs15 (k:=k) (by omega) hs17f))).symm
 refine Za<|W4<|ol (dF hs16)<|jI<|jO<|jC<|Za<|oS (iv 0)<|jE<|Zd results41 (.tmp rfl) ?_
 exact congrArg (λx:Int=>AV.v (.int .i64 x))<|(((WA hs1 hs2).trans ((Zcf hs3 hs4).trans (Zce hs5 SUB))).trans ((Zb4 ⟨(λh=>hs9 h.2),(show ¬ 3<(q.bad.length:Int) by omega)⟩ CNT).trans (adj_k (by omega) hs14 hs15 (by have:k=q.adj.length:=(by omega);subst this;exact hs0)))).symm
 exact Za<|W3<|on (dF' hs9)<|oS bT<|W3<|on (dF' hs15)<|oS bT<|jG<|oS (iv 1)<|jE<|Zb<|Zd results41 (.tmp rfl)<|congrArg (λx:Int=>AV.v (.int .i64 x))<|(((WA hs1 hs2).trans ((Zcf hs3 hs4).trans (Zce hs5 SUB))).trans ((Zb4 ⟨(λh=>hs9 h.2),(show ¬ 3<(q.bad.length:Int) by omega)⟩ CNT).trans (adj_1 (by omega) hs14 hs15))).symm
 refine Za<|W3<|oe (dF hs8)<|oS bF<|V4<|oS bF<|jF<|jM ?_
 by_cases hs18:3<(q.bad.length:Int)
 exact Za<|W3<|og (dT hs18)<|jG<|oS (iv 4)<|jE<|Zb<|Zd results41 (.tmp rfl)<|congrArg (λx:Int=>AV.v (.int .i64 x))<|(((WA hs1 hs2).trans ((Zcf hs3 hs4).trans (Zce hs5 SUB))).trans (bad_4 (λh=>hs8 h.1) hs18)).symm
 refine Za<|W3<|og (dF hs18)<|jF<|jM<|Za<|oS (iv 0)<|jA<|Ye (cntOk p.sz.length q.bad q.bad.length) (ofL<|YH p q) (ofT 181<|ZdB p) ?_<|λCNT => ?_
 refine Zh<|Zw (σ:={k:Nat // k<=q.bad.length/\cntOk p.sz.length q.bad k}) (λs=>(ofL (YH p q),ofT 181 [(2,bx 1),(3,bx 2),(6,iv p.sz.length),(10,iv s.1)])) (λs=>q.bad.length-s.1) ⟨0,Nat.zero_le _,WX _ _⟩ (Zk _ _)<|λs => ?_
 obtain ⟨k,hk0,hs0⟩:=s
 show ETri J w0 (ofL<|YH p q) (ofT 181 [(2,bx 1),(3,bx 2),(6,iv p.sz.length),(10,iv k)]) _
 refine jM ?_
 by_cases hs19:(k:Int)<(q.bad.length:Int)
 refine Za<|W4<|ol (dT hs19)<|jH<|Zj<|jC<|Zh<|jM<|Za<|oF (slA 2 cRw q.bad)<|oS (iv k)<|oC (xS (k*2) 118 119 U28) I0 I0<|oW<|oL (Zc q.bad[k].1) (fT lenRw q.bad k 0)<|oW<|oK (K5 p.sz.length HP.lstates q.bad[k].1 (HQ.bad q.bad[k] (List.getElem_mem<|by omega)).1) [Zc q.bad[k].1,iv p.sz.length] rfl rfl<|oS (iv<|setE p.sz.length q.bad[k].1)<|jD ?_
 by_cases hs20:setE p.sz.length q.bad[k].1=0
 refine Za<|oW<|on (dT' hs20)<|jF<|Zi ?_
 by_cases hs21:((q.bad[k].1.length:Nat):Int)=0
 exact Za<|oF (slA 2 cRw q.bad)<|oS (iv k)<|oC (xS (k*2) 129 130 U28) I0 I0<|oW<|oL (Zc q.bad[k].1) (fT lenRw q.bad k 0)<|oW<|oe (dT hs21)<|oS bT<|V5<|V3<|oS bT<|jG<|oS (iv 1)<|jE<|Ze<|Zb<|Zb<|Ze<|ZW<|Zb<|Zd results41 (.tmp rfl)<|congrArg (λx:Int=>AV.v (.int .i64 x))<|(((WA hs1 hs2).trans ((Zcf hs3 hs4).trans (Zce hs5 SUB))).trans (Zcm ⟨(λh=>hs8 h.1),hs18⟩ (k:=k) (by omega) hs0 (cnt_l hs20 hs21)<|by decide)).symm
 by_cases hs22:(inB 1 3 q.bad[k].2)=true
 exact Za<|oF (slA 2 cRw q.bad)<|oS (iv k)<|oC (xS (k*2) 129 130 U28) I0 I0<|oW<|oL (Zc q.bad[k].1) (fT lenRw q.bad k 0)<|oW<|oe (dF hs21)<|oS bF<|oF (slA 2 cRw q.bad)<|oS (iv k)<|gC (xS (k*2) 138 139 U28) I0 I0<|oW<|oL (iv q.bad[k].2) (fT lenRw q.bad k 1)<|oK (Zo (Zv q.bad[k].2 1 3) hs22) [iv q.bad[k].2,iv 1,iv 3] rfl rfl<|oW<|oS bF<|jI<|Zj<|Zs<|Zf<|Za<|oS (iv k)<|oV ((k+1:Nat):Int)<|oS (iv (k+1:Nat))<|jA<|Zp ⟨k+1,by omega,WY (by omega) hs0 (cnt_0 hs20 hs21 hs22)⟩ (show q.bad.length-(k+1)<q.bad.length-k by omega)<|Zk _ _
 have hs22f:(inB 1 3 q.bad[k].2)=false:=by simpa using hs22
 refine Za<|oF (slA 2 cRw q.bad)<|oS (iv k)<|oC (xS (k*2) 129 130 U28) I0 I0<|oW<|oL (Zc q.bad[k].1) (fT lenRw q.bad k 0)<|oW<|oe (dF hs21)<|oS bF<|oF (slA 2 cRw q.bad)<|oS (iv k)<|gC (xS (k*2) 138 139 U28) I0 I0<|oW<|oL (iv q.bad[k].2) (fT lenRw q.bad k 1)<|oK (Zo (Zv q.bad[k].2 1 3) hs22f) [iv q.bad[k].2,iv 1,iv 3] rfl rfl<|oW<|oS bT<|jG<|oS (iv 1)<|ZL<|Zf<|ZQ<|Ze<|Zb<|Zb<|Ze<|ZW<|Zb<|Zd results41 (.tmp rfl) ?_
 exact congrArg (λx:Int=>AV.v (.int .i64 x))<|(((WA hs1 hs2).trans ((Zcf hs3 hs4).trans (Zce hs5 SUB))).trans (Zcm ⟨(λh=>hs8 h.1),hs18⟩ (k:=k) (by omega) hs0 (cnt_b hs20 hs21 hs22f)<|by decide)).symm
 exact Za<|oW<|on (dF' hs20)<|jG<|oF (iv<|setE p.sz.length q.bad[k].1)<|jE<|Zb<|Ze<|Zb<|Zb<|Ze<|ZW<|Zb<|Zd results41 (.tmp rfl)<|congrArg (λx:Int=>AV.v (.int .i64 x))<|(((WA hs1 hs2).trans ((Zcf hs3 hs4).trans (Zce hs5 SUB))).trans (Zcm ⟨(λh=>hs8 h.1),hs18⟩ (k:=k) (by omega) hs0 (cnt_s hs20) hs20)).symm
 refine Za<|W4<|ol (dF hs19)<|kN 181 (YH p q) [(2,bx 1),(3,bx 2),(6,iv p.sz.length),(10,iv k),(114,bF)]<|Zf<|Zu rfl<|jO ?_
 exact YN (by have:k=q.bad.length:=(by omega);subst this;exact hs0)<|Zk _ _
 refine jC<|Zi ?_
 by_cases hs23:0<(q.adj.length:Int)
 by_cases hs24:p.top=1
 exact Za<|W3<|og (dT hs23)<|oS bT<|W2<|oe (dT hs24)<|oS bT<|jG<|oS (iv 6)<|jE<|Zb<|Zd results41 (.tmp rfl)<|congrArg (λx:Int=>AV.v (.int .i64 x))<|(((WA hs1 hs2).trans ((Zcf hs3 hs4).trans (Zce hs5 SUB))).trans ((Zb4 ⟨(λh=>hs8 h.1),hs18⟩ CNT).trans (adj_6 (by omega) hs24))).symm
 refine Za<|W3<|og (dT hs23)<|oS bT<|W2<|oe (dF hs24)<|oS bF<|jF<|jM ?_
 by_cases hs25:(q.adj.length:Int)=2
 refine Za<|oW<|oF (iv q.adj.length)<|oC (Yg rfl<|dF' (show ¬ (q.adj.length:Int)=0 by omega)) I0 I0<|oS bT<|W3<|on (dT' hs25)<|oS bF<|jF<|jM<|Za<|oS (iv 0)<|jA<|Zh<|Zw (σ:={k:Nat // k<=q.adj.length/\adjB p.sz.length q.adj k=true}) (λs=>(ofL (ZaY q),ofT 181 [(3,bx 2),(6,iv p.sz.length),(12,iv s.1)])) (λs=>q.adj.length-s.1) ⟨0,Nat.zero_le _,rfl⟩ (Zk _ _)<|λs => ?_
 obtain ⟨k,hk0,hs0⟩:=s
 show ETri J w0 (ofL<|ZaY q) (ofT 181<|ZfA p k) _
 refine jM ?_
 by_cases hs26:(k:Int)<(q.adj.length:Int)
 refine Za<|W4<|ol (dT hs26)<|jH<|Zj<|jC<|Zh<|Zi ?_
 by_cases hs27:(inB 0 ((p.sz.length:Int)-1) q.adj[k])=true
 exact Za<|oF (Zc q.adj)<|oS (iv k)<|oC (xS (k*1) 173 174 U24) I0 I0<|oL (iv q.adj[k]) (Zr q.adj<|by omega)<|oS (iv p.sz.length)<|oU ((p.sz.length:Int)-1)<|oK (Zo (Zv q.adj[k] 0 ((p.sz.length:Int)-1)) hs27) [iv q.adj[k],iv 0,iv ((p.sz.length:Int)-1)] rfl rfl<|oS bF<|jI<|Zj<|Zs<|Zf<|Za<|oS (iv k)<|oV ((k+1:Nat):Int)<|oS (iv (k+1:Nat))<|jA<|Zp ⟨k+1,by omega,Zb8 (by omega) hs0 hs27⟩ (show q.adj.length-(k+1)<q.adj.length-k by omega)<|Zk _ _
 have hs27f:(inB 0 ((p.sz.length:Int)-1) q.adj[k])=false:=by simpa using hs27
 exact Za<|oF (Zc q.adj)<|oS (iv k)<|oC (xS (k*1) 173 174 U24) I0 I0<|oL (iv q.adj[k]) (Zr q.adj<|by omega)<|oS (iv p.sz.length)<|oU ((p.sz.length:Int)-1)<|oK (Zo (Zv q.adj[k] 0 ((p.sz.length:Int)-1)) hs27f) [iv q.adj[k],iv 0,iv ((p.sz.length:Int)-1)] rfl rfl<|oS bT<|jG<|oS (iv 5)<|jE<|Ze<|Zb<|Zb<|Ze<|Zb<|Zd results41 (.tmp rfl)<|congrArg (λx:Int=>AV.v (.int .i64 x))<|(((WA hs1 hs2).trans ((Zcf hs3 hs4).trans (Zce hs5 SUB))).trans ((Zb4 ⟨(λh=>hs8 h.1),hs18⟩ CNT).trans (adj_5 (by omega) hs24 hs25 (k:=k) (by omega) hs27f))).symm
 refine Za<|W4<|ol (dF hs26)<|jI<|jO<|jC<|Za<|oS (iv 0)<|jE<|Zd results41 (.tmp rfl) ?_
 exact congrArg (λx:Int=>AV.v (.int .i64 x))<|(((WA hs1 hs2).trans ((Zcf hs3 hs4).trans (Zce hs5 SUB))).trans ((Zb4 ⟨(λh=>hs8 h.1),hs18⟩ CNT).trans (adj_k (by omega) hs24 hs25 (by have:k=q.adj.length:=(by omega);subst this;exact hs0)))).symm
 exact Za<|oW<|oF (iv q.adj.length)<|oC (Yg rfl<|dF' (show ¬ (q.adj.length:Int)=0 by omega)) I0 I0<|oS bT<|W3<|on (dF' hs25)<|oS bT<|jG<|oS (iv 1)<|jE<|Zb<|Zd results41 (.tmp rfl)<|congrArg (λx:Int=>AV.v (.int .i64 x))<|(((WA hs1 hs2).trans ((Zcf hs3 hs4).trans (Zce hs5 SUB))).trans ((Zb4 ⟨(λh=>hs8 h.1),hs18⟩ CNT).trans (adj_1 (by omega) hs24 hs25))).symm
 refine Za<|W3<|og (dF hs23)<|oS bF<|V3<|oS bF<|jF<|jM<|Za<|oW<|oF (iv q.adj.length)<|oC (Yg rfl<|dT' (show (q.adj.length:Int)=0 by omega)) I0 I0<|oS bF<|V2<|qK<|qK<|oS bF<|jF<|jM<|Za<|oS (iv 0)<|jA<|Zh<|Zw (σ:={k:Nat // k<=q.adj.length/\adjB p.sz.length q.adj k=true}) (λs=>(ofL (ZaY q),ofT 181 [(3,bx 2),(6,iv p.sz.length),(12,iv s.1)])) (λs=>q.adj.length-s.1) ⟨0,Nat.zero_le _,rfl⟩ (Zk _ _)<|λs => ?_
 obtain ⟨k,hk0,hs0⟩:=s
 show ETri J w0 (ofL<|ZaY q) (ofT 181<|ZfA p k) _
 refine jM ?_
 by_cases hs28:(k:Int)<(q.adj.length:Int)
 refine Za<|W4<|ol (dT hs28)<|jH<|Zj<|jC<|Zh<|Zi ?_
 by_cases hs29:(inB 0 ((p.sz.length:Int)-1) q.adj[k])=true
 exact Za<|oF (Zc q.adj)<|oS (iv k)<|oC (xS (k*1) 173 174 U24) I0 I0<|oL (iv q.adj[k]) (Zr q.adj<|by omega)<|oS (iv p.sz.length)<|oU ((p.sz.length:Int)-1)<|oK (Zo (Zv q.adj[k] 0 ((p.sz.length:Int)-1)) hs29) [iv q.adj[k],iv 0,iv ((p.sz.length:Int)-1)] rfl rfl<|oS bF<|jI<|Zj<|Zs<|Zf<|Za<|oS (iv k)<|oV ((k+1:Nat):Int)<|oS (iv (k+1:Nat))<|jA<|Zp ⟨k+1,by omega,Zb8 (by omega) hs0 hs29⟩ (show q.adj.length-(k+1)<q.adj.length-k by omega)<|Zk _ _
 have hs29f:(inB 0 ((p.sz.length:Int)-1) q.adj[k])=false:=by simpa using hs29
 exact Za<|oF (Zc q.adj)<|oS (iv k)<|oC (xS (k*1) 173 174 U24) I0 I0<|oL (iv q.adj[k]) (Zr q.adj<|by omega)<|oS (iv p.sz.length)<|oU ((p.sz.length:Int)-1)<|oK (Zo (Zv q.adj[k] 0 ((p.sz.length:Int)-1)) hs29f) [iv q.adj[k],iv 0,iv ((p.sz.length:Int)-1)] rfl rfl<|oS bT<|jG<|oS (iv 5)<|jE<|Ze<|Zb<|Zb<|Ze<|Zb<|Zd results41 (.tmp rfl)<|False.elim<|by omega
 exact Za<|W4<|ol (dF hs28)<|jI<|jO<|jC<|Za<|oS (iv 0)<|jE<|Zd results41 (.tmp rfl)<|congrArg (λx:Int=>AV.v (.int .i64 x))<|(((WA hs1 hs2).trans ((Zcf hs3 hs4).trans (Zce hs5 SUB))).trans ((Zb4 ⟨(λh=>hs8 h.1),hs18⟩ CNT).trans (adj_0<|by omega))).symm
 exact Za<|oW<|on (dF' hs5)<|jG<|oF (iv<|setE p.sz.length q.start)<|jE<|Zb<|Zd results41 (.tmp rfl)<|congrArg (λx:Int=>AV.v (.int .i64 x))<|((WA hs1 hs2).trans ((Zcf hs3 hs4).trans (v3_s hs5))).symm
 by_cases hs30:q.kind=2
 refine Za<|W2<|on (dF' hs3)<|oS bT<|W2<|on (dT' hs30)<|oS bF<|jF<|jM ?_
 by_cases hs31:0<(q.bad.length:Int)
 exact Za<|W2<|oe (dF hs3)<|oS bF<|V4<|oF bF<|W2<|oe (dT hs30)<|oS bT<|W3<|og (dT hs31)<|oS bT<|V4<|oW<|oW<|oS bT<|jG<|oS (iv 1)<|jE<|Zb<|Zd results41 (.tmp rfl)<|congrArg (λx:Int=>AV.v (.int .i64 x))<|((WA hs1 hs2).trans (v2_b hs3 hs30 hs31)).symm
 by_cases hs32:0<(q.adj.length:Int)
 exact Za<|W2<|oe (dF hs3)<|oS bF<|V4<|oF bF<|W2<|oe (dT hs30)<|oS bT<|W3<|og (dF hs31)<|oS bF<|W3<|og (dT hs32)<|oW<|oW<|oS bT<|jG<|oS (iv 1)<|jE<|Zb<|Zd results41 (.tmp rfl)<|congrArg (λx:Int=>AV.v (.int .i64 x))<|((WA hs1 hs2).trans (v2_a hs3 hs30 hs31 hs32)).symm
 refine Za<|W2<|oe (dF hs3)<|oS bF<|V4<|oF bF<|W2<|oe (dT hs30)<|oS bT<|W3<|og (dF hs31)<|oS bF<|W3<|og (dF hs32)<|oW<|oW<|oS bF<|kN 181 (YH p q) [(2,bx 1),(3,bx 2),(4,iv 0),(6,iv p.sz.length),(58,bF)]<|jJ<|jM<|Za<|W3<|oK (K5 p.sz.length HP.lstates q.start HQ.start) [Zc q.start,iv p.sz.length] rfl rfl<|oS (iv<|setE p.sz.length q.start)<|jD ?_
 by_cases hs33:setE p.sz.length q.start=0
 refine Za<|oW<|on (dT' hs33)<|jF<|jM<|Za<|oS (iv 0)<|jA<|Ye (subB p.init q.start q.start.length=true) (ofL<|YH p q) (ofT 181<|ZdB p) ?_<|λSUB => ?_
 refine Zh<|Zw (σ:={k:Nat // k<=q.start.length/\subB p.init q.start k=true}) (λs=>(ofL (YH p q),ofT 181 [(2,bx 1),(3,bx 2),(6,iv p.sz.length),(8,iv s.1)])) (λs=>q.start.length-s.1) ⟨0,Nat.zero_le _,rfl⟩ (Zk _ _)<|λs => ?_
 obtain ⟨k,hk0,hs0⟩:=s
 show ETri J w0 (ofL<|YH p q) (ofT 181 [(2,bx 1),(3,bx 2),(6,iv p.sz.length),(8,iv k)]) _
 refine jM ?_
 by_cases hs34:(k:Int)<(q.start.length:Int)
 refine Za<|W4<|ol (dT hs34)<|jH<|Zj<|jC<|Zh<|Zi ?_
 by_cases hs35:(decide<|q.start[k]∈p.init)=true
 exact tD<|dW<|dW<|dW<|dS (Zc q.start)<|dS (iv k)<|dC (xS (k*1) 76 77 U24) I0 I0<|dL (iv q.start[k]) (Zr q.start<|by omega)<|dk (Zo (ZaG p.init q.start[k] HP.linit) hs35) [Zc p.init,iv q.start[k]] rfl rfl<|dS bF<|eD<|Zf<|Zu rfl<|Zj<|Zs<|Zf<|Za<|oS (iv k)<|oV ((k+1:Nat):Int)<|oS (iv (k+1:Nat))<|jA<|Zp ⟨k+1,by omega,Zau (by omega) hs0 hs35⟩ (show q.start.length-(k+1)<q.start.length-k by omega)<|Zk _ _
 have hs35f:(decide<|q.start[k]∈p.init)=false:=by simpa using hs35
 exact tD<|dW<|dW<|dW<|dS (Zc q.start)<|dS (iv k)<|dC (xS (k*1) 76 77 U24) I0 I0<|dL (iv q.start[k]) (Zr q.start<|by omega)<|dk (Zo (ZaG p.init q.start[k] HP.linit) hs35f) [Zc p.init,iv q.start[k]] rfl rfl<|dS bT<|eD<|Zf<|jK<|oS (iv 5)<|jE<|Ze<|Zb<|Zb<|Ze<|ZW<|Zb<|Zd results41 (.tmp rfl)<|congrArg (λx:Int=>AV.v (.int .i64 x))<|((WA hs1 hs2).trans ((v2_2 hs3 hs30 hs31 hs32).trans (v3_i hs33 (k:=k) (by omega) hs35f))).symm
 refine Za<|W4<|ol (dF hs34)<|kN 181 (YH p q) [(2,bx 1),(3,bx 2),(6,iv p.sz.length),(8,iv k),(70,bF)]<|Zf<|Zu rfl<|jO ?_
 exact YN (by have:k=q.start.length:=(by omega);subst this;exact hs0)<|Zk _ _
 refine jC<|jB<|W2<|oe (dT hs30)<|jH<|jM<|Za<|W3<|oK (K5 p.sz.length HP.lstates q.goal HQ.goal) [Zc q.goal,iv p.sz.length] rfl rfl<|oS (iv<|setE p.sz.length q.goal)<|jD ?_
 by_cases hs36:setE p.sz.length q.goal=0
 refine Za<|oW<|on (dT' hs36)<|jF<|jM ?_
 by_cases hs37:(q.goal.length:Int)=0
 exact Za<|W3<|oe (dT hs37)<|jG<|oS (iv 1)<|jE<|Zb<|Zb<|Zd results41 (.tmp rfl)<|congrArg (λx:Int=>AV.v (.int .i64 x))<|(((WA hs1 hs2).trans ((v2_2 hs3 hs30 hs31 hs32).trans (Zce hs33 SUB))).trans (some_l hs37)).symm
 exact Za<|W3<|oe (dF hs37)<|jF<|jB<|oS (iv 0)<|jE<|Zb<|Zd results41 (.tmp rfl)<|congrArg (λx:Int=>AV.v (.int .i64 x))<|(((WA hs1 hs2).trans ((v2_2 hs3 hs30 hs31 hs32).trans (Zce hs33 SUB))).trans (some_0 hs36 hs37)).symm
 exact Za<|oW<|on (dF' hs36)<|jG<|oF (iv<|setE p.sz.length q.goal)<|jE<|Zb<|Zb<|Zd results41 (.tmp rfl)<|congrArg (λx:Int=>AV.v (.int .i64 x))<|(((WA hs1 hs2).trans ((v2_2 hs3 hs30 hs31 hs32).trans (Zce hs33 SUB))).trans (some_e hs36)).symm
 exact Za<|oW<|on (dF' hs33)<|jG<|oF (iv<|setE p.sz.length q.start)<|jE<|Zb<|Zd results41 (.tmp rfl)<|congrArg (λx:Int=>AV.v (.int .i64 x))<|((WA hs1 hs2).trans ((v2_2 hs3 hs30 hs31 hs32).trans (v3_s hs33))).symm
 exact Za<|W2<|on (dF' hs3)<|oS bT<|W2<|on (dF' hs30)<|oS bT<|jG<|oS (iv 1)<|jE<|Zb<|Zd results41 (.tmp rfl)<|congrArg (λx:Int=>AV.v (.int .i64 x))<|((WA hs1 hs2).trans (v2_k hs3 hs30)).symm
 have hs2f:(nameB q.nm.toList)=false:=by simpa using hs2
 exact Za<|W2<|oK (Zo (Yq q.nm HQ.nm) hs2f) [sv q.nm] rfl rfl<|oS bT<|kN 181 (YH p q) [(2,bx 1),(3,bx 2),(4,iv 0),(6,iv p.sz.length),(24,bT)]<|Zf<|jK<|oS (iv 2)<|jE<|Zb<|Zd results41 (.tmp rfl)<|congrArg (λx:Int=>AV.v (.int .i64 x))<|(vp_n hs1 hs2f).symm
 exact Za<|oW<|on (dF' hs1)<|jG<|oF (iv<|valE p)<|jE<|Zb<|Zd results41 (.tmp rfl)<|congrArg (λx:Int=>AV.v (.int .i64 x))<|(vp_v hs1).symm
set_option maxRecDepth 100000
set_option maxHeartbeats 6400000
theorem qStarts_c (HP:FmOk p) (LP:FamLen p) (HQ:PqOk q) (LQ:PqLen q):Ctr Tryz.prog J 62 [.agg (cFm p),.agg (cPq q)] (.tup [Zc (stL p q),iv (vpE p q)]):=by
 have l1:=LQ.start
 refine Zn func62 rfl (pN (Zg<|Zy p)<|pN (Zg<|Yd q) pZ) (n:=23) rfl (by simp)<|λw0 => jB<|oX 1 (.agg (cFm p))<|oX 2 (.agg (cPq q))<|oS (nz)<|oS (iv 0)<|jD<|jB<|W2<|oK (YD HP HQ) [.agg (cFm p),.agg (cPq q)] rfl rfl<|oS (iv<|vpE p q)<|jD ?_
 by_cases hs1:vpE p q=0
 refine Za<|oW<|on (dT' hs1)<|jF<|jM ?_
 by_cases hs2:0<(q.start.length:Int)
 exact Za<|W3<|og (dT hs2)<|jG<|W2<|oK (Clone_c q.start HQ.start<|Nat.le_trans LQ.start<|by decide) [Zc q.start] rfl rfl<|oS (.fr (Zc q.start))<|oS (iv 0)<|jE<|Zb<|ZY results62 (.tmp rfl) (.tmp rfl)<|st_s hs1 hs2
 exact Za<|W3<|og (dF hs2)<|jF<|jB<|W2<|oK (Clone_c p.init HP.init<|Nat.le_trans LP.init<|by decide) [Zc p.init] rfl rfl<|oS (.fr (Zc p.init))<|oS (iv 0)<|jE<|ZY results62 (.tmp rfl) (.tmp rfl)<|st_i hs1 hs2
 exact Za<|oW<|on (dF' hs1)<|jG<|oW<|oS (nz)<|oS (iv<|vpE p q)<|jE<|Zb<|Yp (wk_adopt 4 3 true 3 1 rfl rfl rfl)<|ZY results62 (.tmp rfl) (.tmp rfl)<|st_err hs1
theorem W9 (HP:FmOk p) (LP:FamLen p) (HQ:PqOk q) (LQ:PqLen q):Ctr Tryz.prog J 82 [.agg (cFm p),.agg (cPq q)] (Zc<|if q.start=[] then p.init else q.start):=by
 have l1:=LQ.start
 refine Zn func82 rfl (pN (Zg<|Zy p)<|pN (Zg<|Yd q) pZ) (n:=15) rfl (by simp)<|λw0 => jB<|oX 1 (.agg (cFm p))<|oX 2 (.agg (cPq q))<|oS (nz)<|jD<|Zi ?_
 by_cases hs1:0<(q.start.length:Int)
 refine Za<|W3<|og (dT hs1)<|jG<|W2<|oK (ZcX q.start<|Nat.le_trans LQ.start<|by decide) [Zc q.start] rfl rfl<|oS (.fr (Zc q.start))<|jE<|Zb<|Zd results82 (.tmp rfl) ?_
 exact congrArg (λx:List Int=>AV.sl 1 x.length (x.map iv)) (if_neg<|by rintro e;have:=hs1;rw [e] at this;simp at this).symm
 refine Za<|W3<|og (dF hs1)<|kN 15 [(1,.box 27 (cFm p)),(2,.box 30 (cPq q))] [(2,bx 1),(3,bx 2),(4,nz),(8,bF)]<|jJ<|jB<|W2<|oK (ZcX p.init<|Nat.le_trans LP.init<|by decide) [Zc p.init] rfl rfl<|oS (.fr (Zc p.init))<|jE<|Zd results82 (.tmp rfl) ?_
 exact congrArg (λx:List Int=>AV.sl 1 x.length (x.map iv)) (if_pos<|List.eq_nil_of_length_eq_zero<|by have:=hs1;omega).symm
theorem Kr {x lo hi:Int}:Ctr Tryz.prog J 80 [iv x,iv lo,iv hi] (bv<|Rd.inW lo hi x):=by
 refine Zn func80 rfl (pN (.v _)<|pN (.v _)<|pN (.v _) pZ) (n:=15) rfl (by simp)<|λw0 => kW 15 [] [(0,iv x),(1,iv lo),(2,iv hi)]<|jB<|oS bF<|jD ?_
 by_cases hs1:lo<=x
 exact Za<|W2<|oh (dT hs1)<|oS bT<|oS (iv x)<|oS (iv hi)<|gC (sp_leq rfl rfl) I0 I0<|oF (bv<|decide<|x<=hi)<|jE<|Zd results80 (.tmp rfl)<|cB<|(by simp only [Rd.inW,hs1,decide_true,decide_false,Bool.and_true,Bool.true_and,Bool.false_and,Bool.and_false,Bool.not_true,Bool.not_false])
 exact Za<|W2<|oh (dF hs1)<|oS bF<|V3<|oF bF<|jE<|Zd results80 (.tmp rfl)<|cB<|(by simp only [Rd.inW,hs1,decide_true,decide_false,Bool.and_true,Bool.true_and,Bool.false_and,Bool.and_false,Bool.not_true,Bool.not_false])
abbrev ZaX (x0:Fm):List (Nat × ABlk):=[(1,.box 27 (cFm x0))]
theorem Zav (lst:p.sz.length<=9223372036854775807) (xs:List Int) (lx:xs.length<=100):Ctr Tryz.prog J 77 [.agg (cFm p),Zc xs] (bv<|Rd.belB xs (p.sz.length:Int)):=by
 refine Zn func77 rfl (pN (Zg<|Zy p)<|pN (Zx _) pZ) (n:=22) rfl (by simp)<|λw0 => kW 22 [] [(0,.agg (cFm p)),(1,Zc xs)]<|jB<|oX 1 (.agg (cFm p))<|oS bF<|jD<|jB<|oS (iv 0)<|kN 22 (ZaX p) [(1,Zc xs),(2,bx 1),(4,bF),(5,iv 0)]<|Zf<|Zh<|Zw (σ:={k:Nat // k<=xs.length/\Rd.noP xs (Rd.outB (p.sz.length:Int)) k}) (λs=>(ofL (ZaX p),ofT 22 [(1,Zc xs),(2,bx 1),(5,iv s.1)])) (λs=>xs.length-s.1) ⟨0,Nat.zero_le _,Rd.noP_zero _ _⟩ (Zk _ _)<|λs => ?_
 obtain ⟨k,hk0,hs0⟩:=s
 show ETri J w0 (ofL<|ZaX p) (ofT 22 [(1,Zc xs),(2,bx 1),(5,iv k)]) _
 refine jM ?_
 by_cases hs1:(k:Int)<(xs.length:Int)
 refine Za<|W3<|ol (dT hs1)<|jH<|Zj<|jC<|Zh<|Zi ?_
 by_cases hs2:(Rd.inW 0 ((p.sz.length:Int)-1) xs[k])=true
 refine tD<|dS (Zc xs)<|dS (iv k)<|dC (xS (k*1) 12 13 U24) I0 I0<|dL (iv xs[k]) (Zr xs<|by omega)<|dW<|dW<|dS (iv p.sz.length)<|dC (Kh (c:=(p.sz.length:Int)-1) rfl<|w64 (by omega) (by omega)<|by omega) I0 I0<|dk (Zo Kr hs2) [iv xs[k],iv 0,iv ((p.sz.length:Int)-1)] rfl rfl<|dS bF<|eD<|kW 22 (ZaX p) [(1,Zc xs),(2,bx 1),(5,iv k),(9,bT),(21,bF)]<|Zf<|Zu rfl<|Zj<|Zs<|Zf<|Za<|oS (iv k)<|oV ((k+1:Nat):Int)<|oS (iv (k+1:Nat))<|kN 22 (ZaX p) [(1,Zc xs),(2,bx 1),(5,iv (k+1:Nat)),(9,bT),(21,bF)]<|Zf ?_
 exact Zp ⟨k+1,by omega,Rd.noP_succ (by omega) hs0 (Rd.inW_in hs2<|by omega)⟩ (show xs.length-(k+1)<xs.length-k by omega)<|Zk _ _
 have hs2f:(Rd.inW 0 ((p.sz.length:Int)-1) xs[k])=false:=by simpa using hs2
 exact tD<|dS (Zc xs)<|dS (iv k)<|dC (xS (k*1) 12 13 U24) I0 I0<|dL (iv xs[k]) (Zr xs<|by omega)<|dW<|dW<|dS (iv p.sz.length)<|dC (Kh (c:=(p.sz.length:Int)-1) rfl<|w64 (by omega) (by omega)<|by omega) I0 I0<|dk (Zo Kr hs2f) [iv xs[k],iv 0,iv ((p.sz.length:Int)-1)] rfl rfl<|dS bT<|eD<|kW 22 (ZaX p) [(1,Zc xs),(2,bx 1),(5,iv k),(9,bT),(21,bT)]<|Zf<|jK<|oS bF<|jE<|Ze<|Zb<|Zb<|Ze<|Zb<|Zd results77 (.tmp rfl)<|cB<|(Rd.bel_bad (by omega)<|Rd.inW_out hs2f<|by omega).symm
 exact Za<|W3<|ol (dF hs1)<|jI<|jO<|jC<|Za<|oS bT<|jE<|Zd results77 (.tmp rfl)<|cB<|(Rd.bel_all (k:=k) (by omega) hs0).symm
variable {m:Int}
theorem WI (xs:List Int) (lx:xs.length<=100) :Ctr Tryz.prog J 78 [Zc xs,iv m] (bv<|decide ((xs.length:Int)=m)&&Rd.belB xs 1048577):=by
 refine Zn func78 rfl (pN (Zx _)<|pN (.v _) pZ) (n:=22) rfl (by simp)<|λw0 => kW 22 [] [(0,Zc xs),(1,iv m)]<|jB<|oS bF<|jD<|Zi ?_
 by_cases hs1:(xs.length:Int)=m
 refine Za<|W3<|on (dT' hs1)<|jF<|jM<|Za<|oS (iv 0)<|kN 22 [] [(0,Zc xs),(4,bF),(5,iv 0)]<|Zf<|Zh<|Zw (σ:={k:Nat // k<=xs.length/\Rd.noP xs (Rd.outB 1048577) k}) (λs=>(ofL [],ofT 22 [(0,Zc xs),(5,iv s.1)])) (λs=>xs.length-s.1) ⟨0,Nat.zero_le _,Rd.noP_zero _ _⟩ (Zk [] _)<|λs => ?_
 obtain ⟨k,hk0,hs0⟩:=s
 show ETri J w0 (ofL []) (ofT 22 [(0,Zc xs),(5,iv k)]) _
 refine jM ?_
 by_cases hs2:(k:Int)<(xs.length:Int)
 refine Za<|W3<|ol (dT hs2)<|jH<|Zj<|jC<|Zh<|Zi ?_
 by_cases hs3:(Rd.inW 0 1048576 xs[k])=true
 exact Za<|oS (Zc xs)<|oS (iv k)<|oC (xS (k*1) 16 17 U24) I0 I0<|oL (iv xs[k]) (Zr xs<|by omega)<|oK (Zo Kr hs3) [iv xs[k],iv 0,iv 1048576] rfl rfl<|oS bF<|jI<|Zj<|Zs<|Zf<|Za<|oS (iv k)<|oV ((k+1:Nat):Int)<|oS (iv (k+1:Nat))<|kN 22 [] [(0,Zc xs),(5,iv (k+1:Nat)),(13,bT),(21,bF)]<|Zf<|Zp ⟨k+1,by omega,Rd.noP_succ (by omega) hs0 (Rd.inW_in hs3<|by omega)⟩ (show xs.length-(k+1)<xs.length-k by omega)<|Zk [] _
 have hs3f:(Rd.inW 0 1048576 xs[k])=false:=by simpa using hs3
 exact Za<|oS (Zc xs)<|oS (iv k)<|oC (xS (k*1) 16 17 U24) I0 I0<|oL (iv xs[k]) (Zr xs<|by omega)<|oK (Zo Kr hs3f) [iv xs[k],iv 0,iv 1048576] rfl rfl<|oS bT<|jG<|oS bF<|jE<|Ze<|Zb<|Zb<|Ze<|Zb<|Zd results78 (.tmp rfl)<|cB<|(by rw [Rd.bel_bad (by omega) (Rd.inW_out hs3f<|by omega),Bool.and_false])
 refine Za<|W3<|ol (dF hs2)<|jI<|jO<|jC<|Za<|oS bT<|jE<|Zd results78 (.tmp rfl) ?_
 exact cB<|(by rw [Rd.bel_all (k:=k) (by omega) hs0,decide_eq_true hs1];rfl)
 refine Za<|W3<|on (dF' hs1)<|jG<|oS bF<|jE<|Zb<|Zd results78 (.tmp rfl) ?_
 exact cB<|(by rw [decide_eq_false hs1];rfl)
theorem loose_c :Ctr Tryz.prog J 79 [.agg (cFm p)] (bv<|Rd.looseB p):=by
 refine Zn func79 rfl (pN (Zg<|Zy p) pZ) (n:=11) rfl (by simp)<|λw0 => kW 11 [] [(0,.agg (cFm p))]<|jB<|oX 1 (.agg (cFm p))<|oS bF<|jD ?_
 by_cases hs1:p.fzz=1
 exact Za<|W2<|oe (dT hs1)<|oS bT<|V3<|oF bT<|jE<|Zd results79 (.tmp rfl)<|cB<|(by simp only [Rd.looseB,hs1,decide_true,decide_false,Bool.true_or,Bool.false_or,Bool.or_true])
 exact Za<|W2<|oe (dF hs1)<|oS bF<|oF (iv p.fzz)<|gC (ZH rfl rfl) I0 I0<|oF (bv<|decide<|p.fzz=2)<|jE<|Zd results79 (.tmp rfl)<|cB<|(by simp only [Rd.looseB,hs1,decide_true,decide_false,Bool.true_or,Bool.false_or,Bool.or_true])
variable {n t f:Int}
theorem Sized_c (HP:FmOk p) :Ctr Tryz.prog J 42 [.agg (cFm p),.agg (cSz n t f)] (iv<|Ns.sysE p n t f):=by
 refine Zn func42 rfl (pN (Zg<|Zy p)<|pN (Zg<|ZT n t f) pZ) (n:=18) rfl (by simp)<|λw0 => kW 18 [] [(0,.agg (cFm p)),(1,.agg (cSz n t f))]<|jB<|oX 1 (.agg (cFm p))<|oX 2 (.agg (cSz n t f))<|oS (iv 0)<|jD<|jB<|oW<|oK (ZbS HP) [.agg (cFm p)] rfl rfl<|oS (iv<|valE p)<|jD ?_
 by_cases hs1:valE p=0
 refine Za<|oW<|on (dT' hs1)<|jF<|jM ?_
 by_cases hs2:(admB p n t f)=true
 refine Za<|W2<|oK (Zo (Zaz HP n t f) hs2) [.agg (cFm p),.agg (cSz n t f)] rfl rfl<|oS bF<|jF<|jM ?_
 by_cases hs3:8<n
 refine Za<|W2<|og (dT hs3)<|kN 18 [] [(4,iv 0),(17,bT)]<|Zf<|jK<|oS (iv 4)<|jE<|Zb<|Zd results42 (.tmp rfl) ?_
 rw [Ns.sys_e3 hs1 hs2 hs3]
 exact rfl
 refine Za<|W2<|og (dF hs3)<|kN 18 [] [(4,iv 0),(17,bF)]<|jJ<|jB<|oS (iv 0)<|jE<|Zd results42 (.tmp rfl) ?_
 rw [Ns.sys_e4 hs1 hs2 hs3]
 exact rfl
 have hs2f:(admB p n t f)=false:=by simpa using hs2
 refine Za<|W2<|oK (Zo (Zaz HP n t f) hs2f) [.agg (cFm p),.agg (cSz n t f)] rfl rfl<|oS bT<|jG<|oS (iv 8)<|jE<|Zb<|Zd results42 (.tmp rfl) ?_
 rw [Ns.sys_e2 hs1 hs2f]
 exact rfl
 refine Za<|oW<|on (dF' hs1)<|jG<|oF (iv<|valE p)<|jE<|Zb<|Zd results42 (.tmp rfl) ?_
 rw [Ns.sys_e1 hs1]
 exact rfl
theorem K8 (hai:1<=n/\n<=1048576/\0<=f/\f<=n):Ctr Tryz.prog J 76 [.agg (cFm p),.agg (cSz n t f)] (iv<|Ns.cntE p n f):=by
 refine Zn func76 rfl (pN (Zg<|Zy p)<|pN (Zg<|ZT n t f) pZ) (n:=15) rfl (by simp)<|λw0 => kW 15 [] [(0,.agg (cFm p)),(1,.agg (cSz n t f))]<|jB<|oX 1 (.agg (cFm p))<|oX 2 (.agg (cSz n t f))<|oS (iv 0)<|jD<|Zi ?_
 by_cases hs1:p.fzz=3
 refine Za<|W2<|oe (dT hs1)<|jG<|oF (iv n)<|oF (iv f)<|oU (n-f)<|oS (iv<|n-f)<|jE<|Zb<|Zd results76 (.tmp rfl) ?_
 rw [show Ns.cntE p n f=n-f from if_pos hs1]
 exact rfl
 refine Za<|W2<|oe (dF hs1)<|jF<|jB<|oW<|oF (iv n)<|jE<|Zd results76 (.tmp rfl) ?_
 rw [show Ns.cntE p n f=n from if_neg hs1]
 exact rfl
variable {c:Cf}
set_option maxRecDepth 100000 in
set_option maxHeartbeats 6400000 in
theorem Zc6 (HP:FmOk p) (HC:Rd.CgOk c) (hai:1<=n/\n<=1048576/\0<=f/\f<=n) (g0:¬ ((c.st.length:Int)=(Ns.cntE p n f))):Ctr Tryz.prog J 43 [.agg (cFm p),.agg (cSz n t f),.agg (Rd.cCg c)] (bv<|Rd.rvB p n f c):=by
 have hlv:=HP.lvals
 have hlf:=HC.lfa
 refine Zn func43 rfl (pN (Zg<|Zy p)<|pN (Zg<|ZT n t f)<|pN (Zg<|Rd.plain_cg c) pZ) (n:=95) rfl (by simp)<|λw0 => kW 95 [] [(0,.agg (cFm p)),(1,.agg (cSz n t f)),(2,.agg (Rd.cCg c))]<|jB<|oX 1 (.agg (cFm p))<|oX 2 (.agg (cSz n t f))<|oX 3 (.agg (Rd.cCg c))<|oS bF<|jD<|Zi<|tD<|dW<|dW<|dS (iv c.st.length)<|dW<|dW<|dk (K8 hai) [.agg (cFm p),.agg (cSz n t f)] rfl rfl<|dC (Yg rfl<|dF' g0) I0 I0<|dS bT<|dK<|dK<|dK<|dK<|dK<|dW<|dS bT<|dK<|dK<|dK<|dK<|dK<|dK<|dK<|dK<|dW<|dS bT<|dK<|dK<|dK<|dK<|dK<|dK<|dK<|dW<|dS bT<|dK<|dK<|dK<|dK<|dK<|dK<|dK<|dS bT<|eD ?_
 exact kW 95 [(1,.box 27 (cFm p)),(2,.box 32 (cSz n t f)),(3,.box 36 (Rd.cCg c))] [(3,bx 1),(4,bx 2),(5,bx 3),(6,bF),(49,bT)]<|Zf<|jK<|oS bF<|jE<|Zb<|Zd results43 (.tmp rfl)<|cB<|(by simp only [Rd.rvB,g0,decide_true,decide_false,Bool.and_true,Bool.true_and,Bool.false_and,Bool.and_false,Bool.not_true,Bool.not_false,if_true,if_false,eq_self,ite_true,ite_false])
set_option maxRecDepth 100000 in
set_option maxHeartbeats 6400000 in
theorem Zc5 (HP:FmOk p) (HC:Rd.CgOk c) (hai:1<=n/\n<=1048576/\0<=f/\f<=n) (g0:(c.st.length:Int)=(Ns.cntE p n f)) (g1:Rd.belB c.st (p.sz.length:Int)=false):Ctr Tryz.prog J 43 [.agg (cFm p),.agg (cSz n t f),.agg (Rd.cCg c)] (bv<|Rd.rvB p n f c):=by
 have hlv:=HP.lvals
 have hlf:=HC.lfa
 refine Zn func43 rfl (pN (Zg<|Zy p)<|pN (Zg<|ZT n t f)<|pN (Zg<|Rd.plain_cg c) pZ) (n:=95) rfl (by simp)<|λw0 => kW 95 [] [(0,.agg (cFm p)),(1,.agg (cSz n t f)),(2,.agg (Rd.cCg c))]<|jB<|oX 1 (.agg (cFm p))<|oX 2 (.agg (cSz n t f))<|oX 3 (.agg (Rd.cCg c))<|oS bF<|jD<|Zi ?_
 refine tD<|dW<|dW<|dS (iv c.st.length)<|dW<|dW<|dk (K8 hai) [.agg (cFm p),.agg (cSz n t f)] rfl rfl<|dC (Yg rfl<|dT' g0) I0 I0<|dS bF<|dW<|dW<|dW<|dk (Zo (Zav HP.lstates c.st HC.lst) g1) [.agg (cFm p),Zc c.st] rfl rfl<|dW<|dW<|dS bT<|dK<|dK<|dK<|dK<|dK<|dK<|dK<|dK<|dW<|dS bT<|dK<|dK<|dK<|dK<|dK<|dK<|dK<|dW<|dS bT<|dK<|dK<|dK<|dK<|dK<|dK<|dK<|dS bT<|eD<|kW 95 [(1,.box 27 (cFm p)),(2,.box 32 (cSz n t f)),(3,.box 36 (Rd.cCg c))] [(3,bx 1),(4,bx 2),(5,bx 3),(6,bF),(49,bT)]<|Zf<|jK<|oS bF<|jE<|Zb<|Zd results43 (.tmp rfl) ?_
 exact cB<|(by simp only [Rd.rvB,g0,g1,decide_true,decide_false,Bool.and_true,Bool.true_and,Bool.false_and,Bool.and_false,Bool.not_true,Bool.not_false,if_true,if_false,eq_self,ite_true,ite_false])
set_option maxRecDepth 100000 in
set_option maxHeartbeats 6400000 in
theorem Zc4 (HP:FmOk p) (HC:Rd.CgOk c) (hai:1<=n/\n<=1048576/\0<=f/\f<=n) (g0:(c.st.length:Int)=(Ns.cntE p n f)) (g1:Rd.belB c.st (p.sz.length:Int)=true) (g2:¬ (c.cor=n-f)):Ctr Tryz.prog J 43 [.agg (cFm p),.agg (cSz n t f),.agg (Rd.cCg c)] (bv<|Rd.rvB p n f c):=by
 have hlv:=HP.lvals
 have hlf:=HC.lfa
 refine Zn func43 rfl (pN (Zg<|Zy p)<|pN (Zg<|ZT n t f)<|pN (Zg<|Rd.plain_cg c) pZ) (n:=95) rfl (by simp)<|λw0 => kW 95 [] [(0,.agg (cFm p)),(1,.agg (cSz n t f)),(2,.agg (Rd.cCg c))]<|jB<|oX 1 (.agg (cFm p))<|oX 2 (.agg (cSz n t f))<|oX 3 (.agg (Rd.cCg c))<|oS bF<|jD<|Zi ?_
 refine tD<|dW<|dW<|dS (iv c.st.length)<|dW<|dW<|dk (K8 hai) [.agg (cFm p),.agg (cSz n t f)] rfl rfl<|dC (Yg rfl<|dT' g0) I0 I0<|dS bF<|dW<|dW<|dW<|dk (Zo (Zav HP.lstates c.st HC.lst) g1) [.agg (cFm p),Zc c.st] rfl rfl<|dW<|dW<|dS bF<|dW<|dS (iv c.cor)<|dW<|dS (iv n)<|dW<|dS (iv f)<|dC (Kh (c:=n-f) rfl<|w64 (by omega) (by omega)<|by omega) I0 I0<|dC (Yg rfl<|dF' g2) I0 I0<|dW<|dS bT<|dK<|dK<|dK<|dK<|dK<|dK<|dK<|dW<|dS bT<|dK<|dK<|dK<|dK<|dK<|dK<|dK<|dS bT<|eD ?_
 exact kW 95 [(1,.box 27 (cFm p)),(2,.box 32 (cSz n t f)),(3,.box 36 (Rd.cCg c))] [(3,bx 1),(4,bx 2),(5,bx 3),(6,bF),(49,bT)]<|Zf<|jK<|oS bF<|jE<|Zb<|Zd results43 (.tmp rfl)<|cB<|(by simp only [Rd.rvB,g0,g1,g2,decide_true,decide_false,Bool.and_true,Bool.true_and,Bool.false_and,Bool.and_false,Bool.not_true,Bool.not_false,if_true,if_false,eq_self,ite_true,ite_false])
set_option maxRecDepth 100000 in
set_option maxHeartbeats 6400000 in
theorem Zc3 (HP:FmOk p) (HC:Rd.CgOk c) (hai:1<=n/\n<=1048576/\0<=f/\f<=n) (g0:(c.st.length:Int)=(Ns.cntE p n f)) (g1:Rd.belB c.st (p.sz.length:Int)=true) (g2:c.cor=n-f) (g3:(decide ((c.se.length:Int)=(p.msgs.length:Int))&&Rd.belB c.se 1048577)=false):Ctr Tryz.prog J 43 [.agg (cFm p),.agg (cSz n t f),.agg (Rd.cCg c)] (bv<|Rd.rvB p n f c):=by
 have hlv:=HP.lvals
 have hlf:=HC.lfa
 refine Zn func43 rfl (pN (Zg<|Zy p)<|pN (Zg<|ZT n t f)<|pN (Zg<|Rd.plain_cg c) pZ) (n:=95) rfl (by simp)<|λw0 => kW 95 [] [(0,.agg (cFm p)),(1,.agg (cSz n t f)),(2,.agg (Rd.cCg c))]<|jB<|oX 1 (.agg (cFm p))<|oX 2 (.agg (cSz n t f))<|oX 3 (.agg (Rd.cCg c))<|oS bF<|jD<|Zi ?_
 refine tD<|dW<|dW<|dS (iv c.st.length)<|dW<|dW<|dk (K8 hai) [.agg (cFm p),.agg (cSz n t f)] rfl rfl<|dC (Yg rfl<|dT' g0) I0 I0<|dS bF<|dW<|dW<|dW<|dk (Zo (Zav HP.lstates c.st HC.lst) g1) [.agg (cFm p),Zc c.st] rfl rfl<|dW<|dW<|dS bF<|dW<|dS (iv c.cor)<|dW<|dS (iv n)<|dW<|dS (iv f)<|dC (Kh (c:=n-f) rfl<|w64 (by omega) (by omega)<|by omega) I0 I0<|dC (Yg rfl<|dT' g2) I0 I0<|dW<|dS bF<|dW<|dW<|dW<|dW<|dW<|dk (Zo (WI c.se HC.lse) g3) [Zc c.se,iv p.msgs.length] rfl rfl<|dW<|dW<|dS bT<|dK<|dK<|dK<|dK<|dK<|dK<|dK<|dS bT<|eD ?_
 exact kW 95 [(1,.box 27 (cFm p)),(2,.box 32 (cSz n t f)),(3,.box 36 (Rd.cCg c))] [(3,bx 1),(4,bx 2),(5,bx 3),(6,bF),(49,bT)]<|Zf<|jK<|oS bF<|jE<|Zb<|Zd results43 (.tmp rfl)<|cB<|(by simp only [Rd.rvB,g0,g1,g2,g3,decide_true,decide_false,Bool.and_true,Bool.true_and,Bool.false_and,Bool.and_false,Bool.not_true,Bool.not_false,if_true,if_false,eq_self,ite_true,ite_false])
set_option maxRecDepth 100000 in
set_option maxHeartbeats 6400000 in
theorem Zc2 (HP:FmOk p) (HC:Rd.CgOk c) (hai:1<=n/\n<=1048576/\0<=f/\f<=n) (g0:(c.st.length:Int)=(Ns.cntE p n f)) (g1:Rd.belB c.st (p.sz.length:Int)=true) (g2:c.cor=n-f) (g3:(decide ((c.se.length:Int)=(p.msgs.length:Int))&&Rd.belB c.se 1048577)=true) (g4:(decide ((c.fa.length:Int)=(p.msgs.length:Int))&&Rd.belB c.fa 1048577)=false):Ctr Tryz.prog J 43 [.agg (cFm p),.agg (cSz n t f),.agg (Rd.cCg c)] (bv<|Rd.rvB p n f c):=by
 have hlv:=HP.lvals
 have hlf:=HC.lfa
 refine Zn func43 rfl (pN (Zg<|Zy p)<|pN (Zg<|ZT n t f)<|pN (Zg<|Rd.plain_cg c) pZ) (n:=95) rfl (by simp)<|λw0 => kW 95 [] [(0,.agg (cFm p)),(1,.agg (cSz n t f)),(2,.agg (Rd.cCg c))]<|jB<|oX 1 (.agg (cFm p))<|oX 2 (.agg (cSz n t f))<|oX 3 (.agg (Rd.cCg c))<|oS bF<|jD<|Zi ?_
 refine tD<|dW<|dW<|dS (iv c.st.length)<|dW<|dW<|dk (K8 hai) [.agg (cFm p),.agg (cSz n t f)] rfl rfl<|dC (Yg rfl<|dT' g0) I0 I0<|dS bF<|dW<|dW<|dW<|dk (Zo (Zav HP.lstates c.st HC.lst) g1) [.agg (cFm p),Zc c.st] rfl rfl<|dW<|dW<|dS bF<|dW<|dS (iv c.cor)<|dW<|dS (iv n)<|dW<|dS (iv f)<|dC (Kh (c:=n-f) rfl<|w64 (by omega) (by omega)<|by omega) I0 I0<|dC (Yg rfl<|dT' g2) I0 I0<|dW<|dS bF<|dW<|dW<|dW<|dW<|dW<|dk (Zo (WI c.se HC.lse) g3) [Zc c.se,iv p.msgs.length] rfl rfl<|dW<|dW<|dS bF<|dW<|dW<|dW<|dW<|dW<|dk (Zo (WI c.fa HC.lfa) g4) [Zc c.fa,iv p.msgs.length] rfl rfl<|dW<|dS bT<|eD ?_
 exact kW 95 [(1,.box 27 (cFm p)),(2,.box 32 (cSz n t f)),(3,.box 36 (Rd.cCg c))] [(3,bx 1),(4,bx 2),(5,bx 3),(6,bF),(49,bT)]<|Zf<|jK<|oS bF<|jE<|Zb<|Zd results43 (.tmp rfl)<|cB<|(by simp only [Rd.rvB,g0,g1,g2,g3,g4,decide_true,decide_false,Bool.and_true,Bool.true_and,Bool.false_and,Bool.and_false,Bool.not_true,Bool.not_false,if_true,if_false,eq_self,ite_true,ite_false])
abbrev ZaW (x0:Fm) (x1:Int) (x2:Int) (x3:Int) (x4:Cf):List (Nat × ABlk):=[(1,.box 27 (cFm x0)),(2,.box 32 (cSz x1 x2 x3)),(3,.box 36 (Rd.cCg x4))]
abbrev XRw5_h2 (x0:Nat):List (Nat × AV):=[(3,bx 1),(4,bx 2),(5,bx 3),(7,iv (x0+1:Nat)),(54,bT),(67,bF)]
set_option maxRecDepth 100000 in
set_option maxHeartbeats 6400000 in
theorem Zc1 (HP:FmOk p) (HC:Rd.CgOk c) (hai:1<=n/\n<=1048576/\0<=f/\f<=n) (g0:(c.st.length:Int)=(Ns.cntE p n f)) (g1:Rd.belB c.st (p.sz.length:Int)=true) (g2:c.cor=n-f) (g3:(decide ((c.se.length:Int)=(p.msgs.length:Int))&&Rd.belB c.se 1048577)=true) (g4:(decide ((c.fa.length:Int)=(p.msgs.length:Int))&&Rd.belB c.fa 1048577)=true):Ctr Tryz.prog J 43 [.agg (cFm p),.agg (cSz n t f),.agg (Rd.cCg c)] (bv<|Rd.rvB p n f c):=by
 have hlv:=HP.lvals
 have hlf:=HC.lfa
 refine Zn func43 rfl (pN (Zg<|Zy p)<|pN (Zg<|ZT n t f)<|pN (Zg<|Rd.plain_cg c) pZ) (n:=95) rfl (by simp)<|λw0 => kW 95 [] [(0,.agg (cFm p)),(1,.agg (cSz n t f)),(2,.agg (Rd.cCg c))]<|jB<|oX 1 (.agg (cFm p))<|oX 2 (.agg (cSz n t f))<|oX 3 (.agg (Rd.cCg c))<|oS bF<|jD<|Zi ?_
 refine tD<|dW<|dW<|dS (iv c.st.length)<|dW<|dW<|dk (K8 hai) [.agg (cFm p),.agg (cSz n t f)] rfl rfl<|dC (Yg rfl<|dT' g0) I0 I0<|dS bF<|dW<|dW<|dW<|dk (Zo (Zav HP.lstates c.st HC.lst) g1) [.agg (cFm p),Zc c.st] rfl rfl<|dW<|dW<|dS bF<|dW<|dS (iv c.cor)<|dW<|dS (iv n)<|dW<|dS (iv f)<|dC (Kh (c:=n-f) rfl<|w64 (by omega) (by omega)<|by omega) I0 I0<|dC (Yg rfl<|dT' g2) I0 I0<|dW<|dS bF<|dW<|dW<|dW<|dW<|dW<|dk (Zo (WI c.se HC.lse) g3) [Zc c.se,iv p.msgs.length] rfl rfl<|dW<|dW<|dS bF<|dW<|dW<|dW<|dW<|dW<|dk (Zo (WI c.fa HC.lfa) g4) [Zc c.fa,iv p.msgs.length] rfl rfl<|dW<|dS bF<|eD ?_
 refine kW 95 (ZaW p n t f c) [(3,bx 1),(4,bx 2),(5,bx 3),(6,bF),(49,bF)]<|jJ<|jM<|Za<|oS (iv 0)<|kN 95 (ZaW p n t f c) [(3,bx 1),(4,bx 2),(5,bx 3),(6,bF),(7,iv 0)]<|Zf<|Zh<|Zw (σ:={k:Nat // k<=c.fa.length/\Rd.noP c.fa (Rd.badF p) k}) (λs=>(ofL (ZaW p n t f c),ofT 95 [(3,bx 1),(4,bx 2),(5,bx 3),(7,iv s.1)])) (λs=>c.fa.length-s.1) ⟨0,Nat.zero_le _,Rd.noP_zero _ _⟩ (Zk _ _)<|λs => ?_
 obtain ⟨k,hk0,hs0⟩:=s
 show ETri J w0 (ofL<|ZaW p n t f c) (ofT 95 [(3,bx 1),(4,bx 2),(5,bx 3),(7,iv k)]) _
 refine jM ?_
 by_cases hs1:(k:Int)<(c.fa.length:Int)
 refine Za<|W4<|ol (dT hs1)<|jH<|Zj<|jC<|Zh<|Zi ?_
 by_cases hs2:c.fa[k]=0
 exact Za<|oF (Zc c.fa)<|oS (iv k)<|oC (xS (k*1) 58 59 U24) I0 I0<|oL (iv c.fa[k]) (Zr c.fa<|by omega)<|on (dT' hs2)<|oS bF<|V3<|oS bF<|jI<|Zj<|Zs<|Zf<|Za<|oS (iv k)<|oV ((k+1:Nat):Int)<|oS (iv (k+1:Nat))<|kN 95 (ZaW p n t f c) (XRw5_h2 k)<|Zf<|Zp ⟨k+1,by omega,Rd.noP_succ (by omega) hs0 (Rd.badF_z hs2)⟩ (show c.fa.length-(k+1)<c.fa.length-k by omega)<|Zk _ _
 by_cases hs3:(Rd.looseB p)=true
 exact Za<|oF (Zc c.fa)<|oS (iv k)<|oC (xS (k*1) 58 59 U24) I0 I0<|oL (iv c.fa[k]) (Zr c.fa<|by omega)<|on (dF' hs2)<|oS bT<|oW<|oK (Zo loose_c hs3) [.agg (cFm p)] rfl rfl<|oW<|oS bF<|jI<|Zj<|Zs<|Zf<|Za<|oS (iv k)<|oV ((k+1:Nat):Int)<|oS (iv (k+1:Nat))<|kN 95 (ZaW p n t f c) (XRw5_h2 k)<|Zf<|Zp ⟨k+1,by omega,Rd.noP_succ (by omega) hs0 (Rd.badF_l hs3)⟩ (show c.fa.length-(k+1)<c.fa.length-k by omega)<|Zk _ _
 have hs3f:(Rd.looseB p)=false:=by simpa using hs3
 refine Za<|oF (Zc c.fa)<|oS (iv k)<|oC (xS (k*1) 58 59 U24) I0 I0<|oL (iv c.fa[k]) (Zr c.fa<|by omega)<|on (dF' hs2)<|oS bT<|oW<|oK (Zo loose_c hs3f) [.agg (cFm p)] rfl rfl<|oW<|oS bT<|jG<|oS bF<|jE<|Ze<|Zb<|Zb<|Ze<|Zb<|Zd results43 (.tmp rfl) ?_
 have hF:c.fa.any (Rd.badF p)=true:=Rd.any_one (by omega)<|Rd.badF_y hs2 hs3f
 exact cB<|(by simp only [Rd.rvB,g0,g1,g2,g3,g4,hF,decide_true,decide_false,Bool.and_true,Bool.true_and,Bool.false_and,Bool.and_false,Bool.not_true,Bool.not_false,if_true,if_false,eq_self,ite_true,ite_false])
 refine Za<|W4<|ol (dF hs1)<|jI<|jO<|jC<|Zi ?_
 by_cases hs4:(Rd.inW 0 (max 0<|(p.vals.length:Int)-1) c.val)=true
 refine Za<|W3<|oF (iv p.vals.length)<|oU ((p.vals.length:Int)-1)<|oC (ZdV (.const (.int .i64 0)) (.tmp 73) rfl) I0 I0<|oK (Zo Kr hs4) [iv c.val,iv 0,iv (max 0<|(p.vals.length:Int)-1)] rfl rfl<|oS bF<|jF<|jM ?_
 by_cases hs5:p.top=4
 refine Za<|W2<|oe (dT hs5)<|jH<|Zi ?_
 by_cases hs6:(c.sh.length:Int)=n
 refine Za<|W4<|oW<|oe (dT hs6)<|oS bT<|W2<|oK (Rd.IsShape_c HC.sh HC.lsh) [Zc c.sh] rfl rfl<|oF (bv<|shp c.sh)<|jE<|Zb<|Zd results43 (.tmp rfl) ?_
 have hF:c.fa.any (Rd.badF p)=false:=Rd.any_none (k:=k) (by omega) hs0
 exact cB<|(by simp only [Rd.rvB,g0,g1,g2,g3,g4,hs4,hs5,hs6,hF,decide_true,decide_false,Bool.and_true,Bool.true_and,Bool.false_and,Bool.and_false,Bool.not_true,Bool.not_false,if_true,if_false,eq_self,ite_true,ite_false])
 refine Za<|W4<|oW<|oe (dF hs6)<|oS bF<|V3<|oF bF<|jE<|Zb<|Zd results43 (.tmp rfl) ?_
 have hF:c.fa.any (Rd.badF p)=false:=Rd.any_none (k:=k) (by omega) hs0
 exact cB<|(by simp only [Rd.rvB,g0,g1,g2,g3,g4,hs4,hs5,hs6,hF,decide_true,decide_false,Bool.and_true,Bool.true_and,Bool.false_and,Bool.and_false,Bool.not_true,Bool.not_false,if_true,if_false,eq_self,ite_true,ite_false])
 refine Za<|W2<|oe (dF hs5)<|jF<|jB<|oW<|oF (iv c.sh.length)<|oC (ZH rfl rfl) I0 I0<|oS (bv<|decide<|(c.sh.length:Int)=0)<|jE<|Zd results43 (.tmp rfl) ?_
 have hF:c.fa.any (Rd.badF p)=false:=Rd.any_none (k:=k) (by omega) hs0
 exact cB<|(by simp only [Rd.rvB,g0,g1,g2,g3,g4,hs4,hs5,hF,decide_true,decide_false,Bool.and_true,Bool.true_and,Bool.false_and,Bool.and_false,Bool.not_true,Bool.not_false,if_true,if_false,eq_self,ite_true,ite_false])
 have hs4f:(Rd.inW 0 (max 0<|(p.vals.length:Int)-1) c.val)=false:=by simpa using hs4
 refine Za<|W3<|oF (iv p.vals.length)<|oU ((p.vals.length:Int)-1)<|oC (ZdV (.const (.int .i64 0)) (.tmp 73) rfl) I0 I0<|oK (Zo Kr hs4f) [iv c.val,iv 0,iv (max 0<|(p.vals.length:Int)-1)] rfl rfl<|oS bT<|jG<|oS bF<|jE<|Zb<|Zd results43 (.tmp rfl) ?_
 have hF:c.fa.any (Rd.badF p)=false:=Rd.any_none (k:=k) (by omega) hs0
 exact cB<|(by simp only [Rd.rvB,g0,g1,g2,g3,g4,hs4f,hF,decide_true,decide_false,Bool.and_true,Bool.true_and,Bool.false_and,Bool.and_false,Bool.not_true,Bool.not_false,if_true,if_false,eq_self,ite_true,ite_false])
theorem Kb (HP:FmOk p) (HC:Rd.CgOk c) (hai:1<=n/\n<=1048576/\0<=f/\f<=n):Ctr Tryz.prog J 43 [.agg (cFm p),.agg (cSz n t f),.agg (Rd.cCg c)] (bv (Rd.rvB p n f c)):=by
 by_cases g0:(c.st.length:Int)=(Ns.cntE p n f)
 case neg=>exact Zc6 HP HC hai  g0
 by_cases g1:Rd.belB c.st (p.sz.length:Int)=true
 case neg=>exact Zc5 HP HC hai g0 (by simpa only [Bool.not_eq_true] using g1)
 by_cases g2:c.cor=n-f
 case neg=>exact Zc4 HP HC hai g0 g1 g2
 by_cases g3:(decide ((c.se.length:Int)=(p.msgs.length:Int))&&Rd.belB c.se 1048577)=true
 case neg=>exact Zc3 HP HC hai g0 g1 g2 (by simpa only [Bool.not_eq_true] using g3)
 by_cases g4:(decide ((c.fa.length:Int)=(p.msgs.length:Int))&&Rd.belB c.fa 1048577)=true
 case neg=>exact Zc2 HP HC hai g0 g1 g2 g3 (by simpa only [Bool.not_eq_true] using g4)
 exact Zc1 HP HC hai g0 g1 g2 g3 g4
set_option maxRecDepth 100000 in
set_option maxHeartbeats 6400000 in
theorem Zck (HP:FmOk p) (HC:Rd.CgOk c):Ctr Tryz.prog J 84 [.agg (cFm p),.agg (cSz n t f),.agg (Rd.cCg c)] (iv<|Rd.vcE p n t f c):=by
 refine Zn func84 rfl (pN (Zg<|Zy p)<|pN (Zg<|ZT n t f)<|pN (Zg<|Rd.plain_cg c) pZ) (n:=19) rfl (by simp)<|λw0 => kW 19 [] [(0,.agg (cFm p)),(1,.agg (cSz n t f)),(2,.agg (Rd.cCg c))]<|jB<|oX 1 (.agg (cFm p))<|oX 2 (.agg (cSz n t f))<|oX 3 (.agg (Rd.cCg c))<|oS (iv 0)<|jD<|jB<|W2<|oK (Sized_c HP) [.agg (cFm p),.agg (cSz n t f)] rfl rfl<|oS (iv<|Ns.sysE p n t f)<|jD ?_
 by_cases hs1:(Ns.sysE p n t f)=0
 refine Za<|oW<|on (dT' hs1)<|jF<|jM ?_
 by_cases hs2:(Rd.rvB p n f c)=true
 refine Za<|W3<|oK (Zo (Kb HP HC<|Ns.adm_in (Ns.sys_ok hs1).2.1) hs2) [.agg (cFm p),.agg (cSz n t f),.agg (Rd.cCg c)] rfl rfl<|oS bF<|kN 19 [] [(6,iv 0),(18,bF)]<|jJ<|jB<|oS (iv 0)<|jE<|Zd results84 (.tmp rfl) ?_
 have hx:Rd.rdX p n f c=true:=by rw [<- Rd.rv_rd hs1];simpa using hs2
 have hr:Rd.vcE p n t f c=0:=by unfold Rd.vcE;rw [if_pos hs1,hx];rfl
 rw [hr]
 exact rfl
 have hs2f:(Rd.rvB p n f c)=false:=by simpa using hs2
 refine Za<|W3<|oK (Zo (Kb HP HC<|Ns.adm_in (Ns.sys_ok hs1).2.1) hs2f) [.agg (cFm p),.agg (cSz n t f),.agg (Rd.cCg c)] rfl rfl<|oS bT<|kN 19 [] [(6,iv 0),(18,bT)]<|Zf<|jK<|oS (iv 1)<|jE<|Zb<|Zd results84 (.tmp rfl) ?_
 have hx:Rd.rdX p n f c=false:=by rw [<- Rd.rv_rd hs1];simpa using hs2f
 have hr:Rd.vcE p n t f c=1:=by unfold Rd.vcE;rw [if_pos hs1,hx];rfl
 rw [hr]
 exact rfl
 refine Za<|oW<|on (dF' hs1)<|jG<|oF (iv<|Ns.sysE p n t f)<|jE<|Zb<|Zd results84 (.tmp rfl) ?_
 have hr:Rd.vcE p n t f c=Ns.sysE p n t f:=by unfold Rd.vcE;rw [if_neg hs1]
 rw [hr]
 exact rfl
def Vi.spE (p:Fm) (q:Pq) (n t f:Int):Int:=if vpE p q=0 then Ns.sysE p n t f else vpE p q
variable {cor:Int}{i:Nat}
theorem Vi.ch_len (LP:FamLen p) (LQ:PqLen q)  :(Vi.chI p q cor i).length<=9223372036854775807:=by
 have h1:=LP.lz;have h2:=LP.init;have h3:=LQ.start
 unfold Vi.chI Vi.stS
 split
 ·omega
 split
 ·split<;>omega
 omega
theorem KS (HP:FmOk p) (HQ:PqOk q) :Ctr Tryz.prog J 20 [.agg (cFm p),.agg (cPq q),.agg (cSz n t f)] (iv<|Vi.spE p q n t f):=by
 refine Zn func20 rfl (pN (Zg<|Zy p)<|pN (Zg<|Yd q)<|pN (Zg<|ZT n t f) pZ) (n:=17) rfl (by simp)<|λw0 => jB<|oX 1 (.agg (cFm p))<|oX 2 (.agg (cPq q))<|oX 3 (.agg (cSz n t f))<|oS (iv 0)<|jD<|jB<|W2<|oK (Zal HP HQ) [.agg (cFm p),.agg (cPq q)] rfl rfl<|oS (iv<|vpE p q)<|jD ?_
 by_cases hs1:vpE p q=0
 exact Za<|oW<|on (dT' hs1)<|jF<|jB<|W2<|oK (Sized_c HP) [.agg (cFm p),.agg (cSz n t f)] rfl rfl<|oS (iv<|Ns.sysE p n t f)<|jE<|Zd results20 (.tmp rfl)<|congrArg (λx:Int=>AV.v (.int .i64 x))<|(if_pos hs1).symm
 exact Za<|oW<|on (dF' hs1)<|jG<|oF (iv<|vpE p q)<|jE<|Zb<|Zd results20 (.tmp rfl)<|congrArg (λx:Int=>AV.v (.int .i64 x))<|(if_neg hs1).symm
theorem ZcD (HP:FmOk p) (LP:FamLen p) (HQ:PqOk q) (LQ:PqLen q) (hai:1<=n/\n<=1048576/\0<=f/\f<=n) :CtrA Tryz.prog J 45 [.agg (cFm p),.agg (cPq q),.agg (cSz n t f),iv i] (Zc (Vi.chI p q (n-f) i)):=by
 have l1:=LP.lz
 refine YU func45 rfl (pN (Zg (Zy p)) (pN (Zg (Yd q)) (pN (Zg (ZT n t f)) (pN (.v _) pZ)))) (n:=31) rfl (by simp) (λw0 => ?_)
 refine jB (oX 1 (.agg (cFm p)) (oX 2 (.agg (cPq q)) (oX 3 (.agg (cSz n t f)) (oS (nz) (jD (Zi ?_))))))
 by_cases hs1:(i:Int)=0
 by_cases hs2:0<(p.lz.length:Int)
 refine Za (oW (oe (dT hs1) (oS bT (W3 (og (dT hs2) (oS bT (jG (oW (oF (Zc p.lz) (jE (Zb ?_)))))))))))
 refine YJ [(1,.box 27 (cFm p)),(2,.box 30 (cPq q)),(3,.box 32 (cSz n t f))] results45 (.tmp rfl) (by kernel_rfl) rfl rfl ?_ ?_
 ·exact Zx _
 ·exact congrArg (λl:List Int=>Zc l) (Vi.ch_l (by omega) hs2).symm
 refine Za (oW (oe (dT hs1) (oS bT (W3 (og (dF hs2) (oS bF (jF (jM ?_))))))))
 by_cases hs3:(i:Int)<n-f
 refine Za (oW (oF (iv n) (oF (iv f) (oU (n-f) (ol (dT hs3) (jG (W2 (oK (W9 HP LP HQ LQ) [.agg (cFm p),.agg (cPq q)] rfl rfl (oS (.fr (Zc (Vi.stS p q))) (jE (Zb ?_)))))))))))
 refine YJ [(1,.box 27 (cFm p))] results45 (.tmp rfl) (by kernel_rfl) rfl rfl ?_ ?_
 ·exact Zx _
 ·exact congrArg (λl:List Int=>Zc l) (Vi.ch_s (λe=>absurd e.2 hs2) hs3).symm
 refine Za (oW (oF (iv n) (oF (iv f) (oU (n-f) (ol (dF hs3) (kN 31 [(1,.box 27 (cFm p)),(2,.box 30 (cPq q))] [(4,bx 1),(5,bx 2),(8,nz),(25,bF)] (jJ (jB (oW (oF (Zc p.init) (jE ?_)))))))))))
 refine YJ [] results45 (.tmp rfl) (by kernel_rfl) rfl rfl ?_ ?_
 ·exact Zx _
 ·exact congrArg (λl:List Int=>Zc l) (Vi.ch_i (λe=>absurd e.2 hs2) hs3).symm
 refine Za (oW (oe (dF hs1) (oS bF (V4 (oS bF (jF (jM ?_)))))))
 by_cases hs4:(i:Int)<n-f
 refine Za (oW (oF (iv n) (oF (iv f) (oU (n-f) (ol (dT hs4) (jG (W2 (oK (W9 HP LP HQ LQ) [.agg (cFm p),.agg (cPq q)] rfl rfl (oS (.fr (Zc (Vi.stS p q))) (jE (Zb ?_)))))))))))
 refine YJ [(1,.box 27 (cFm p))] results45 (.tmp rfl) (by kernel_rfl) rfl rfl ?_ ?_
 ·exact Zx _
 ·exact congrArg (λl:List Int=>Zc l) (Vi.ch_s (λe=>hs1 (by omega)) hs4).symm
 refine Za (oW (oF (iv n) (oF (iv f) (oU (n-f) (ol (dF hs4) (jF (jB (oW (oF (Zc p.init) (jE ?_))))))))))
 refine YJ [] results45 (.tmp rfl) (by kernel_rfl) rfl rfl ?_ ?_
 ·exact Zx _
 exact congrArg (λl:List Int=>Zc l) (Vi.ch_i (λe=>hs1 (by omega)) hs4).symm
abbrev Zdy (x0:Fm) (x1:Pq) (x2:Int) (x3:Int) (x4:Int) (x5:Cf):List (Nat × ABlk):=[(1,.box 27 (cFm x0)),(2,.box 30 (cPq x1)),(3,.box 32 (cSz x2 x3 x4)),(4,.box 36 (Rd.cCg x5))]
theorem Zba (HP:FmOk p) (LP:FamLen p) (HQ:PqOk q) (LQ:PqLen q) (HC:Rd.CgOk c) (hs:Ns.sysE p n t f=0):Ctr Tryz.prog J 21 [.agg (cFm p),.agg (cPq q),.agg (cSz n t f),.agg (Rd.cCg c)] (bv<|Rd.rvB p n f c&&Vi.inB p q (n-f) c):=by
 have hai:=Ns.adm_in (Ns.sys_ok hs).2.1
 have l1:=HC.lst
 have l2:=HC.lse
 have l3:=HC.lfa
 refine Zn func21 rfl (pN (Zg<|Zy p)<|pN (Zg<|Yd q)<|pN (Zg<|ZT n t f)<|pN (Zg<|Rd.plain_cg c) pZ) (n:=61) rfl (by simp)<|λw0 => jB<|oX 1 (.agg (cFm p))<|oX 2 (.agg (cPq q))<|oX 3 (.agg (cSz n t f))<|oX 4 (.agg (Rd.cCg c))<|oS bF<|jD<|Zi ?_
 by_cases hs1:(Rd.rvB p n f c)=true
 have hx:=(Rd.rv_rd hs).symm.trans hs1
 have hc:=En.cf_in hx
 have hls:=hc.ls
 have hlf:=hc.lf
 by_cases hs2:c.val=0
 refine Za<|W3<|oK (Zo (Kb HP HC<|Ns.adm_in (Ns.sys_ok hs).2.1) hs1) [.agg (cFm p),.agg (cSz n t f),.agg (Rd.cCg c)] rfl rfl<|oF bF<|W2<|on (dT' hs2)<|oS bF<|jF<|jM<|Za<|oS (iv 0)<|jA<|Zh<|Zw (σ:={k:Nat // k<=c.se.length/\(∀ i (hi:i<c.se.length),i<k->c.se[i]=0)/\(∀ i (hi:i<c.fa.length),i<k->c.fa[i]=0)}) (λs=>(ofL (Zdy p q n t f c),ofT 61 [(4,bx 1),(5,bx 2),(6,bx 3),(7,bx 4),(9,iv s.1)])) (λs=>c.se.length-s.1) ⟨0,Nat.zero_le _,λ_ _ h=>absurd h (by omega),λ_ _ h=>absurd h (by omega)⟩ (Zk _ _)<|λs => ?_
 obtain ⟨k,hk0,hz1,hz2⟩:=s
 show ETri J w0 (ofL<|Zdy p q n t f c) (ofT 61 [(4,bx 1),(5,bx 2),(6,bx 3),(7,bx 4),(9,iv k)]) _
 refine jM ?_
 by_cases hs3:(k:Int)<(c.se.length:Int)
 refine Za<|W4<|ol (dT hs3)<|jH<|Zj<|jC<|Zh<|Zi ?_
 by_cases hs4:c.se[k]=0
 by_cases hs5:c.fa[k]=0
 refine Za<|oF (Zc c.se)<|oS (iv k)<|oC (xS (k*1) 29 30 U24) I0 I0<|oL (iv c.se[k]) (Zr c.se<|by omega)<|on (dT' hs4)<|oS bF<|oF (Zc c.fa)<|oS (iv k)<|gC (xS (k*1) 36 37 U24) I0 I0<|oL (iv c.fa[k]) (Zr c.fa<|by omega)<|on (dT' hs5)<|oS bF<|jI<|Zj<|Zs<|Zf<|Za<|oS (iv k)<|oV ((k+1:Nat):Int)<|oS (iv (k+1:Nat))<|ZL<|Zf ?_
 refine Zp ⟨k+1,by omega,λi hi hik=>(Nat.lt_succ_iff_lt_or_eq.1 hik).elim (λh=>hz1 i hi h) (λh=>by subst h;exact hs4),λi hi hik=>(Nat.lt_succ_iff_lt_or_eq.1 hik).elim (λh=>hz2 i hi h) (λh=>by subst h;exact hs5)⟩ (show c.se.length-(k+1)<c.se.length-k by omega) ?_
 exact Zk _ _
 refine Za<|oF (Zc c.se)<|oS (iv k)<|oC (xS (k*1) 29 30 U24) I0 I0<|oL (iv c.se[k]) (Zr c.se<|by omega)<|on (dT' hs4)<|oS bF<|oF (Zc c.fa)<|oS (iv k)<|gC (xS (k*1) 36 37 U24) I0 I0<|oL (iv c.fa[k]) (Zr c.fa<|by omega)<|on (dF' hs5)<|oS bT<|jG<|oS bF<|jE<|Ze<|Zb<|Zb<|Ze<|Zb<|Zd results21 (.tmp rfl) ?_
 exact cB<|(by rw [hs1,Vi.in_fa (Vi.ze_no (by omega) hs5)];rfl)
 refine Za<|oF (Zc c.se)<|oS (iv k)<|oC (xS (k*1) 29 30 U24) I0 I0<|oL (iv c.se[k]) (Zr c.se<|by omega)<|on (dF' hs4)<|oS bT<|V5<|qK<|oS bT<|jG<|oS bF<|jE<|Ze<|Zb<|Zb<|Ze<|Zb<|Zd results21 (.tmp rfl) ?_
 exact cB<|(by rw [hs1,Vi.in_se (Vi.ze_no (by omega) hs4)];rfl)
 refine Za<|W4<|ol (dF hs3)<|jI<|jO<|jC<|jB<|oS (iv 0)<|jA<|Zh<|Zw (σ:={j:Nat // j<=c.st.length/\Vi.inK p q (n-f) c.st j}) (λs=>(ofL (Zdy p q n t f c),ofT 61 [(4,bx 1),(5,bx 2),(6,bx 3),(7,bx 4),(10,iv s.1)])) (λs=>c.st.length-s.1) ⟨0,Nat.zero_le _,Vi.in_zero⟩ (Zk _ _)<|λs => ?_
 obtain ⟨j,hj0,hin⟩:=s
 show ETri J w0 (ofL<|Zdy p q n t f c) (ofT 61 [(4,bx 1),(5,bx 2),(6,bx 3),(7,bx 4),(10,iv j)]) _
 refine jM ?_
 by_cases hs6:(j:Int)<(c.st.length:Int)
 refine Za<|W4<|ol (dT hs6)<|jH<|Zj<|jC<|Zh<|Zi ?_
 by_cases hs7:(decide<|c.st[j]∈Vi.chI p q (n-f) j)=true
 refine tD<|dS (.agg (cFm p))<|dS (.agg (cPq q))<|dS (.agg (cSz n t f))<|dS (iv j)<|dR (Kp (c := .func 45) (xs := #[.tmp 49,.tmp 50,.tmp 51,.tmp 52]) (ZcD HP LP HQ LQ hai) rfl (by kernel_rfl) rfl (Xs:=[.agg (cFm p),.agg (cPq q),.agg (cSz n t f),iv j]) rfl rfl) ⟨I0,I0,I0,I0,I0,T0⟩ T0 T0<|dW<|dS (Zc c.st)<|dS (iv j)<|dC (xS (j*1) 55 56 U24) I0 I0<|dL (iv c.st[j]) (Zr c.st<|by omega)<|dk (Zo (ZaG (Vi.chI p q (n-f) j) c.st[j] (Vi.ch_len LP LQ)) hs7) [Zc (Vi.chI p q (n-f) j),iv c.st[j]] rfl rfl<|dS bF<|eD<|Zf<|Zu rfl<|Zj<|Zs<|Zf<|Za<|oS (iv j)<|oV ((j+1:Nat):Int)<|oS (iv (j+1:Nat))<|jA ?_
 exact Zp ⟨j+1,by omega,Vi.in_succ (by omega) hin hs7⟩ (show c.st.length-(j+1)<c.st.length-j by omega)<|Zk _ _
 have hs7f:(decide<|c.st[j]∈Vi.chI p q (n-f) j)=false:=by simpa using hs7
 refine tD<|dS (.agg (cFm p))<|dS (.agg (cPq q))<|dS (.agg (cSz n t f))<|dS (iv j)<|dR (Kp (c := .func 45) (xs := #[.tmp 49,.tmp 50,.tmp 51,.tmp 52]) (ZcD HP LP HQ LQ hai) rfl (by kernel_rfl) rfl (Xs:=[.agg (cFm p),.agg (cPq q),.agg (cSz n t f),iv j]) rfl rfl) ⟨I0,I0,I0,I0,I0,T0⟩ T0 T0<|dW<|dS (Zc c.st)<|dS (iv j)<|dC (xS (j*1) 55 56 U24) I0 I0<|dL (iv c.st[j]) (Zr c.st<|by omega)<|dk (Zo (ZaG (Vi.chI p q (n-f) j) c.st[j] (Vi.ch_len LP LQ)) hs7f) [Zc (Vi.chI p q (n-f) j),iv c.st[j]] rfl rfl<|dS bT<|eD<|Zf<|jK<|oS bF<|jE<|Ze<|Zb<|Zb<|Ze<|Zb<|Zd results21 (.tmp rfl) ?_
 exact cB<|(by rw [hs1,Vi.in_no (by omega) hs7f];rfl)
 refine Za<|W4<|ol (dF hs6)<|jI<|jO<|jC<|Za<|oS bT<|jE<|Zd results21 (.tmp rfl) ?_
 exact cB<|(by rw [hs1,Vi.in_yes hs2 (Vi.ze_yes (by omega) hz1) (Vi.ze_yes (by omega) hz2) (by omega) hin];rfl)
 refine Za<|W3<|oK (Zo (Kb HP HC<|Ns.adm_in (Ns.sys_ok hs).2.1) hs1) [.agg (cFm p),.agg (cSz n t f),.agg (Rd.cCg c)] rfl rfl<|oF bF<|W2<|on (dF' hs2)<|oS bT<|jG<|oS bF<|jE<|Zb<|Zd results21 (.tmp rfl) ?_
 exact cB<|(by rw [hs1,Vi.in_val hs2];rfl)
 have hs1f:(Rd.rvB p n f c)=false:=by simpa using hs1
 refine Za<|W3<|oK (Zo (Kb HP HC<|Ns.adm_in (Ns.sys_ok hs).2.1) hs1f) [.agg (cFm p),.agg (cSz n t f),.agg (Rd.cCg c)] rfl rfl<|oF bT<|V3<|oS bT<|jG<|oS bF<|jE<|Zb<|Zd results21 (.tmp rfl) ?_
 exact cB<|(by rw [hs1f];rfl)
section
variable {P:Program} {o:Oper}
theorem ZdT {t e:TypeId} {len n k off:Nat} {ik:IntKind} (x y:Operand) (ho:o.op = .slice t x none (some y) none) (hu:P.underlying t=some (.array len e)) (hz:(P.info? e).map (·.size)=some 1) (hn:n<=len) (h0:Nat.blt 0 len=true) (hmn:m=(n:Int)) :
 ASpec P J o [(x,.box k off),(y,.v (.int ik m))] [] (.bsl k off n) .no :=
 ZF fun ρ B a w _ ha _=>by
  subst hmn
  obtain ⟨b,c,n1,h1',h2⟩:=(ha (x,.box k off) (by simp)).box_inv
  have hy:=(ha (y,.v (.int ik (n:Int))) (by simp)).v_inv
  obtain ⟨it,hi,_⟩:=Option.map_eq_some_iff.1 hz
  have h0':0<len:=by rwa [Nat.blt_eq] at h0
  refine ⟨.slice (some ⟨b,off,none⟩) n len,?_,.bsl (o:=off) (m:=n) h1' (.inl ⟨b,c,n1,off,len,rfl,rfl,λ_=>rfl⟩)⟩
  simp only [execOp,ho,h2]
  refine Z7 ?_
  have r2:(Instr.sliceBound (a.eval y) len .sliceAlen).run P w = .ok n w:=by
   rw [hy];simp [Instr.sliceBound,asIntOf,hn]
  simp [Instr.sliceAt,run_underlying hu,Instr.sureAddr,Instr.sliceBounds,sizeOf,typeInfo,hi,r2,Addr.add_mid]
theorem sp_lenBsl {t e:TypeId} {n k off:Nat} (x:Operand) (ho:o.op = .call { callee := .builtin .len,args := #[x],argTypes := #[t] }) (hu:P.underlying t=some (.slice e)):ASpec P J o [(x,.bsl k off n)] [] (.v (.int .i64 n)) .no :=
 ZF fun ρ B a w _ ha _=>by
  obtain ⟨nm,_,h3⟩:=(ha (x,.bsl k off n) (by simp)).bsl_part
  refine ⟨.int .i64 n,?_,.pu (.v _)⟩
  rcases h3 with ⟨b,c,n1,o',cap,rfl,h4,_⟩ | ⟨rfl,h4⟩<;>simp [execOp,ho,resolve,invoke,builtin,h4,Zbo hu]
theorem Ze1 {t e:TypeId} {n k off off':Nat} {ik:IntKind} {i:Int} (x y:Operand) (ho:o.op = .indexAddr t x y) (hu:P.underlying t=some (.slice e)) (hz:(P.info? e).map (·.size)=some 1) (h0:0<=i) (h1:i<n) (he:off+i.toNat*1=off') :
 ASpec P J o [(x,.bsl k off n),(y,.v (.int ik i))] [] (.box k off') .no :=
 ZF fun ρ B a w _ ha _=>by
  obtain ⟨b,c,n1,cp,h1',h2⟩:=(ha (x,.bsl k off n) (by simp)).bsl_inv (by omega)
  have hy:=(ha (y,.v (.int ik i)) (by simp)).v_inv
  refine ⟨_,?_,.box (o:=off') h1'⟩
  simp only [execOp,ho,h2,hy]
  exact Z7 (by rw [ZbK hu hz _ _ _ _ _ _ h0 h1,he])
variable {len off:Nat}
theorem Yu {t e:TypeId} {cs ds:List AV} (x:Operand) (ho:o.op = .slice t x none none none) (hu:P.underlying t=some (.array len e)) (hz:(P.info? e).map (·.size)=some 1) (h0:Nat.blt 0 len=true) (hm:Nat.ble len maxLen=true) (hd:(cs.drop off).take len=ds) (hl:ds.length=len) :
 ASpec P J o [(x,.el cs off)] [] (.sl 1 len ds) .no :=
 ZF fun ρ B a w _ ha _=>by
  obtain ⟨b,base,f,h2,hb,hw,hf,hp⟩:=rel_el (ha (x,.el cs off) (by simp))
  obtain ⟨it,hi,_⟩:=Option.map_eq_some_iff.1 hz
  have h0':0<len:=by rwa [Nat.blt_eq] at h0
  refine ⟨.slice (some ⟨b,base+off,none⟩) len len,?_,.pu (.sl (f:=λj=>f (off+j)) (by omega) (Nat.le_refl _) (Nat.le_of_ble_eq_true hm) hb hw (λj hj => ?_) λj hj => ?_)⟩
  ·simp only [execOp,ho,h2]
   refine Z7 ?_
   simp [Instr.sliceAt,run_underlying hu,Instr.sureAddr,Instr.sliceBounds,sizeOf,typeInfo,hi,Addr.add_mid]
  ·subst hd
   obtain ⟨h5,_⟩:=Y5 cs off _ j hj
   rw [Nat.add_assoc];exact hf _ h5
  subst hd
  obtain ⟨h5,h6⟩:=Y5 cs off _ j hj
  rw [h6];exact hp _ h5
end
variable {cs:List AV}
theorem Zar {h:AHeap} {t:ATm} (i k o:Nat) {T:TypeId} {t':ATm} (hb:h k=some (.box T cs)) (hi:t.f i = .box k o) (hv:cs.all AV.pu1=true) (ht:(⟨t.n,λj=>if j=i then .el cs o else (t.f j).wk3 (λj => !(j==k)) h⟩:ATm)=t') (hk:k<hand:=by decide) :
 Wk h t (λj=>if j=k then none else (h j).map (ABlk.wk (λj => !(j==k)) h)) t':=by
 subst ht
 intro J w0 ρ a w s
 refine ⟨kept (λj => !(j==k)) ρ,?_⟩
 have H:∀ X x,Rel ρ w0.heap.size w X x->Rel (kept (λj => !(j==k)) ρ) w0.heap.size w (X.wk3 (λj => !(j==k)) h) x:=λX x hx=>Zfd s.wf s.hp hx
 have H1:∀ X x,Rel ρ w0.heap.size w X x->Rel (kept (λj => !(j==k)) ρ) w0.heap.size w (X.wk1 (λj => !(j==k)) h) x:=λX x hx=>Kd s.wf s.hp hx
 have hsub:∀ k' nm,kept (λj => !(j==k)) ρ k'=some nm->ρ k'=some nm/\k'≠k:=λk' nm e=>by
  dsimp only [kept] at e
  split at e
  ·rename_i e1;exact ⟨e,by simpa using e1⟩
  cases e
 have hyes:∀ k',k'≠k->kept (λj => !(j==k)) ρ k'=ρ k':=λk' e=>KU (by simpa using e)
 refine ⟨⟨λj k b c d m n hj hk=>s.wf.inj _ _ _ _ _ _ _ (hsub _ _ hj).1 (hsub _ _ hk).1,λk b c n hk=>s.wf.lo _ _ _ _ (hsub _ _ hk).1⟩,s.hH,s.bel,s.inv,λj X hj => ?_,λj hl hj => ?_,λj hj=>(hyes j (by omega)).trans (s.pin j hj),s.tl,λj hj => ?_,s.df,λj hj => ?_⟩
 ·by_cases e:j=k
  ·rw [if_pos e] at hj;cases hj
  rw [if_neg e] at hj
  obtain ⟨Y,hY,rfl⟩:=Option.map_eq_some_iff.1 hj
  obtain ⟨nm,g1,g2⟩:=s.hp j Y hY
  refine ⟨nm,(hyes j e).trans g1,?_⟩
  cases Y with
  | box T cs =>
    obtain ⟨b,c,n,vs,rfl,q1,q2,q3⟩:=g2
    exact ⟨b,c,n,vs,rfl,q1,by simpa using q2,λj hj=>by rw [List.getElem_map];exact H1 _ _ (q3 j (by simpa using hj))⟩
  | row fr e z n cs =>
    obtain ⟨xs,q1,q2,q3⟩:=g2
    exact ⟨xs,q1,q2,λj hj=>(q3 j hj).weak λb hb=>⟨λk c n hk=>hb.1 _ _ _ (hsub _ _ hk).1,hb.2⟩⟩
 ·by_cases e:j=k
  ·subst e;exact Zfm (by simp)
  rw [if_neg e] at hj
  rw [hyes j e]
  exact s.dom j hl (by simpa using hj)
 ·show Rel _ _ _ (if j=i then _ else _) _
  by_cases e:j=i
  ·subst e
   rw [if_pos rfl]
   have h1:=s.tm j hj
   rw [hi] at h1
   obtain ⟨b,c,n,g1,g2⟩:=h1.box_inv
   obtain ⟨nm,g3,b',c',n',vs,e0,q1,q2,q3⟩:=s.hp k _ hb
   rw [g1] at g3;cases g3;cases e0
   have hnk:okOf (kept (λj => !(j==k)) ρ) b:=λk' c' n' hk'=>by
    have:=hsub _ _ hk'
    exact this.2 (s.wf.inj _ _ _ _ _ _ _ this.1 g1)
   rw [g2]
   have:=(Pu.el (F:=(w0.heap.size <= ·)) (w:=w) (ok:=okOf (kept (λj => !(j==k)) ρ)) (off:=0) (o:=o) (cs:=cs) (f:=λj=>vs.getD j undef) hnk (s.wf.lo _ _ _ _ g1).2 (λj hj => ?_) λj hj => ?_)
   ·rw [Nat.zero_add] at this
    exact .pu this
   ·have hj2:j<vs.size:=by omega
    rw [Nat.zero_add]
    simp [World.cell?,q1,Array.getD,hj2]
   exact ((q3 j hj).pu1 (List.all_eq_true.1 hv _ (List.getElem_mem hj))).weak λb hb k' c' n' hk'=>hb _ _ _ (hsub _ _ hk').1
  rw [if_neg e];exact H _ _ (s.tm j hj)
 show (if j=k then _ else _)=none
 by_cases e:j=k
 ·rw [if_pos e]
 rw [if_neg e,s.gh j hj];rfl
namespace Ap
open En
variable {l:List Int}{x:Int}
theorem ZaH (h:i<l.length) (j:Nat):(l.set i x).getD j 0=if i=j then x else l.getD j 0:=by
 rw [List.getD_eq_getElem?_getD,List.getD_eq_getElem?_getD]
 by_cases e:i=j
 ·subst e;rw [if_pos rfl,List.getElem?_set_self h];rfl
 rw [if_neg e,List.getElem?_set_ne e]
def wst (c:Cf) (l:List Int):Cf:=⟨c.sh,l,c.cor,c.se,c.fa,c.val⟩
def wse (c:Cf) (l:List Int):Cf:=⟨c.sh,c.st,c.cor,l,c.fa,c.val⟩
def wfa (c:Cf) (l:List Int):Cf:=⟨c.sh,c.st,c.cor,c.se,l,c.val⟩
variable {s:Int}
theorem cfV_setSt (h:i<8) (hl:i<c.st.length):setAll (cfV s c) (1+i*1) [iv x]=cfV s (wst c (c.st.set i x)):=by
 obtain rfl | rfl | rfl | rfl | rfl | rfl | rfl | rfl:i=0\/i=1\/i=2\/i=3\/i=4\/i=5\/i=6\/i=7:=by omega
 all_goals (unfold cfV wst;simp only [ZaH hl];rfl)
theorem cfV_setSe (h:i<3) (hl:i<c.se.length):setAll (cfV s c) (9+i*1) [iv x]=cfV s (wse c (c.se.set i x)):=by
 obtain rfl | rfl | rfl:i=0\/i=1\/i=2:=by omega
 all_goals (unfold cfV wse;simp only [ZaH hl];rfl)
theorem cfV_setFa (h:i<3) (hl:i<c.fa.length):setAll (cfV s c) (12+i*1) [iv x]=cfV s (wfa c (c.fa.set i x)):=by
 obtain rfl | rfl | rfl:i=0\/i=1\/i=2:=by omega
 all_goals (unfold cfV wfa;simp only [ZaH hl];rfl)
variable {k:Nat}
theorem cfV_se (h:k<3):(cfV s c)[9+k*1]? = some (iv (c.se.getD k 0)):=by
 obtain rfl | rfl | rfl:k=0\/k=1\/k=2:=by omega
 all_goals rfl
def brd (r:Ru) (s:Int):Int:=r.resp.getD s.toNat 0
def brL (r:Ru) (l:List Int) (j:Nat):List Int:=(List.range l.length).map λq=>if q<j then brd r (l.getD q 0) else l.getD q 0
theorem brL_len (r:Ru) (l:List Int) (j:Nat):(brL r l j).length=l.length:=by simp [brL]
variable {r:Ru}
theorem ZeQ {j q:Nat} (h:q<l.length):(brL r l j)[q]'(by rw [brL_len];exact h)=if q<j then brd r (l.getD q 0) else l.getD q 0:=by simp [brL]
theorem brL_zero (r:Ru) (l:List Int):brL r l 0=l:=by
 refine List.ext_getElem (brL_len _ _ _) λq h1 h2 => ?_
 rw [ZeQ h2,if_neg (by omega),Ct.getD_at h2]
variable {j:Nat}
theorem brL_all (r:Ru) (l:List Int) (h:l.length<=j):brL r l j=l.map (brd r):=by
 refine List.ext_getElem (by rw [brL_len,List.length_map]) λq h1 h2 => ?_
 have hq:q<l.length:=by rw [brL_len] at h1;exact h1
 rw [ZeQ hq,if_pos (by omega),Ct.getD_at hq,List.getElem_map]
theorem brL_get (h:j<l.length):(brL r l j).getD j 0=l.getD j 0:=by
 rw [Ct.getD_at (by rw [brL_len];exact h),ZeQ h,if_neg (by omega)]
theorem brL_set :(brL r l j).set j (brd r (l.getD j 0))=brL r l (j+1):=by
 refine List.ext_getElem (by rw [List.length_set,brL_len,brL_len]) λq h1 h2 => ?_
 have hq:q<l.length:=by rw [brL_len] at h2;exact h2
 rw [List.getElem_set,ZeQ hq,ZeQ hq]
 by_cases e:j=q
 ·subst e;rw [if_pos rfl,if_pos (by omega)]
 rw [if_neg e]
 by_cases e2:q<j
 ·rw [if_pos e2,if_pos (by omega)]
 rw [if_neg e2,if_neg (by omega)]
theorem br_step (h:j<c.st.length) (h8:c.st.length<=8) (hx:x=brd r (c.st.getD j 0)):setAll (cfV s (wst c (brL r c.st j))) (1+j*1) [iv x]=cfV s (wst c (brL r c.st (j+1))):=by
 rw [cfV_setSt (c:=wst c (brL r c.st j)) (by omega) (by show j<(brL r c.st j).length;rw [brL_len];exact h)]
 show cfV s (wst c ((brL r c.st j).set j x))=_
 rw [hx,brL_set]
theorem br_load (h:j<c.st.length) (h8:c.st.length<=8):(cfV s (wst c (brL r c.st j)))[1+j*1]? = some (iv (c.st.getD j 0)):=by
 rw [cfV_st (by omega)]
 show some (iv ((brL r c.st j).getD j 0))=_
 rw [brL_get h]
theorem brd_at (h:x.toNat<r.resp.length):r.resp[x.toNat]=brd r x:=by
 unfold brd;rw [Ct.getD_at h]
theorem cst_in (h:CfV p n f c) (hj:j<c.st.length):0<=c.st.getD j 0/\c.st.getD j 0<p.sz.length:=by
 rw [Ct.getD_at hj];exact h.st _ (List.getElem_mem hj)
def st0 (c:Cf) (r:Ru):List Int:=if r.kind=3 then c.st.map (brd r) else c.st
def st1 (c:Cf) (r:Ru) (i:Nat):List Int:=(st0 c r).set i r.to
def stA (c:Cf) (r:Ru) (i:Nat) (k:Int):List Int:=if r.kind=2\/r.kind=5 then (st1 c r i).set k.toNat r.pt else st1 c r i
theorem st0_len (c:Cf) (r:Ru):(st0 c r).length=c.st.length:=by unfold st0;split<;>simp
theorem st1_len (c:Cf) (r:Ru) (i:Nat):(st1 c r i).length=c.st.length:=by unfold st1;rw [List.length_set,st0_len]
theorem Zda (c:Cf) (r:Ru) (i:Nat) (k:Int):(stA c r i k).length=c.st.length:=by unfold stA;split<;>simp [st1_len]
def snd (l ms:List Int):List Int:=ms.foldl (λl m=>l.set m.toNat (l.getD m.toNat 0+1)) l
theorem snd_len (ms:List Int):∀ l:List Int,(snd l ms).length=l.length:=by
 induction ms with
 | nil=>intro l;rfl
 | cons m ms ih=>intro l;show (snd _ ms).length=_;rw [ih,List.length_set]
theorem Zbn (l ms:List Int) (h:k<ms.length):snd l (ms.take (k+1))=(snd l (ms.take k)).set ms[k].toNat ((snd l (ms.take k)).getD ms[k].toNat 0+1):=by
 unfold snd
 rw [List.take_succ_eq_append_getElem h,List.foldl_append]
 rfl
variable {a:Int}
theorem getD_in (h:∀ x∈l,0<=x/\x<=a) (ha:0<=a) (j:Nat):0<=l.getD j 0/\l.getD j 0<=a:=by
 by_cases hj:j<l.length
 ·rw [Ct.getD_at hj];exact h _ (List.getElem_mem hj)
 rw [List.getD_eq_getElem?_getD,List.getElem?_eq_none (by omega)];exact ⟨by decide,ha⟩
theorem snd_in (ms:List Int):∀ (l:List Int) (a:Int),0<=a->(∀ x∈l,0<=x/\x<=a)->∀ x∈snd l ms,0<=x/\x<=a+ms.length:=by
 induction ms with
 | nil=>intro l a ha h x hx;have:=h x hx;simp;exact this
 | cons m ms ih =>
   intro l a ha h x hx
   have:=ih (l.set m.toNat (l.getD m.toNat 0+1)) (a+1) (by omega) (λy hy => ?_) x hx
   ·rw [List.length_cons];omega
   rcases List.mem_or_eq_of_mem_set hy with h1 | rfl
   ·have:=h y h1;omega
   have:=getD_in h ha m.toNat;omega
def seA (cor:Int) (c:Cf) (r:Ru) (i k:Nat):List Int:=if (i:Int)<cor then snd c.se (r.send.take k) else c.se
def faA (cor:Int) (c:Cf) (r:Ru) (i k:Nat):List Int:=if (i:Int)<cor then c.fa else snd c.fa (r.send.take k)
def mid (cor:Int) (c:Cf) (r:Ru) (i:Nat) (kp:Int) (k:Nat):Cf:=⟨c.sh,stA c r i kp,c.cor,seA cor c r i k,faA cor c r i k,c.val⟩
def af (cor:Int) (c:Cf) (r:Ru) (i:Nat) (kp:Int):Cf:=⟨c.sh,stA c r i kp,c.cor,seA cor c r i r.send.length,faA cor c r i r.send.length,if 0<=r.wr then r.wr else c.val⟩
theorem mid_zero (cor:Int) (c:Cf) (r:Ru) (i:Nat) (kp:Int):mid cor c r i kp 0=wst c (stA c r i kp):=by
 unfold mid wst seA faA snd
 simp
theorem seA_len (cor:Int) (c:Cf) (r:Ru) (i k:Nat):(seA cor c r i k).length=c.se.length:=by unfold seA;split<;>simp [snd_len]
theorem faA_len (cor:Int) (c:Cf) (r:Ru) (i k:Nat):(faA cor c r i k).length=c.fa.length:=by unfold faA;split<;>simp [snd_len]
theorem seA_in (h:∀ x∈c.se,0<=x/\x<=1048576):∀ x∈seA cor c r i k,0<=x/\x<=1048576+r.send.length:=by
 intro x hx
 unfold seA at hx
 split at hx
 ·have:=snd_in (r.send.take k) c.se 1048576 (by decide) h x hx
  have hl:(r.send.take k).length<=r.send.length:=by simp;omega
  omega
 have:=h x hx;omega
theorem faA_in (h:∀ x∈c.fa,0<=x/\x<=1048576):∀ x∈faA cor c r i k,0<=x/\x<=1048576+r.send.length:=by
 intro x hx
 unfold faA at hx
 split at hx
 ·have:=h x hx;omega
 have:=snd_in (r.send.take k) c.fa 1048576 (by decide) h x hx
 have hl:(r.send.take k).length<=r.send.length:=by simp;omega
 omega
variable {kp:Int}
theorem se_step (hc:(i:Int)<cor) (hk:k<r.send.length) (h3:r.send[k].toNat<3) (hl:r.send[k].toNat<c.se.length) :
 setAll (cfV s (mid cor c r i kp k)) (9+r.send[k].toNat*1) [iv ((seA cor c r i k).getD r.send[k].toNat 0+1)]=cfV s (mid cor c r i kp (k+1)):=by
 rw [cfV_setSe (c:=mid cor c r i kp k) h3 (by show _<(seA cor c r i k).length;rw [seA_len];exact hl)]
 refine congrArg (cfV s) ?_
 unfold wse mid
 have e1:seA cor c r i (k+1)=(seA cor c r i k).set r.send[k].toNat ((seA cor c r i k).getD r.send[k].toNat 0+1):=by
  unfold seA;rw [if_pos hc,if_pos hc,Zbn _ _ hk]
 have e2:faA cor c r i (k+1)=faA cor c r i k:=by unfold faA;rw [if_pos hc,if_pos hc]
 rw [e1,e2]
theorem fa_step (hc:¬ (i:Int)<cor) (hk:k<r.send.length) (h3:r.send[k].toNat<3) (hl:r.send[k].toNat<c.fa.length) :
 setAll (cfV s (mid cor c r i kp k)) (12+r.send[k].toNat*1) [iv ((faA cor c r i k).getD r.send[k].toNat 0+1)]=cfV s (mid cor c r i kp (k+1)):=by
 rw [cfV_setFa (c:=mid cor c r i kp k) h3 (by show _<(faA cor c r i k).length;rw [faA_len];exact hl)]
 refine congrArg (cfV s) ?_
 unfold wfa mid
 have e1:faA cor c r i (k+1)=(faA cor c r i k).set r.send[k].toNat ((faA cor c r i k).getD r.send[k].toNat 0+1):=by
  unfold faA;rw [if_neg hc,if_neg hc,Zbn _ _ hk]
 have e2:seA cor c r i (k+1)=seA cor c r i k:=by unfold seA;rw [if_neg hc,if_neg hc]
 rw [e1,e2]
theorem bel3 (h:l.length<=3) (hm:0<m):Rd.belB [l.getD 0 0,l.getD 1 0,l.getD 2 0] m=Rd.belB l m:=by
 have h0:Rd.outB m 0=false:=by unfold Rd.outB;simp;omega
 match l,h with
 | [],_=>simp [Rd.belB,h0]
 | [a],_=>simp [Rd.belB,h0]
 | [a,b],_=>simp [Rd.belB,h0]
 | [a,b,d],_=>rfl
def z16:List AV:=[iv 0,iv 0,iv 0,iv 0,iv 0,iv 0,iv 0,iv 0,iv 0,iv 0,iv 0,iv 0,iv 0,iv 0,iv 0,iv 0]
def zC:Cf:=⟨[],[],0,[],[],0⟩
theorem en_at {g:Nat->Int} {x y k:Int} (h:enB p n t f c g x y k=true):∃ (r i:Nat),r<p.rz.length/\i<c.st.length/\x=(r:Int)/\y=(i:Int):=by
 unfold enB at h
 rw [Bool.and_eq_true,Bool.and_eq_true] at h
 obtain ⟨a,b,_⟩:=h
 unfold isP at a b
 simp only [Bool.and_eq_true,decide_eq_true_eq] at a b
 exact ⟨x.toNat,y.toNat,by omega,by omega,by omega,by omega⟩
theorem rule_get {r:Nat} (hr:r<p.rz.length):p.rz.getD r default=p.rz[r]:=by
 rw [List.getD_eq_getElem?_getD,List.getElem?_eq_getElem hr];rfl
theorem pt_of {g:Nat->Int} {r i:Nat} {k:Int} {hr:r<p.rz.length} (h:enB p n t f c g (r:Int) (i:Int) k=true):ptB c p.rz[r] i k=true:=by
 unfold enB at h
 rw [Bool.and_eq_true,Bool.and_eq_true,Int.toNat_natCast,Int.toNat_natCast,rule_get hr] at h
 have h2:=h.2.2
 unfold enR at h2
 rw [Bool.and_eq_true,Bool.and_eq_true] at h2
 exact h2.2.1
theorem hpt_of {g:Nat->Int} {r i:Nat} {k:Int} {hr:r<p.rz.length} (h:enB p n t f c g (r:Int) (i:Int) k=true) (h25:p.rz[r].kind=2\/p.rz[r].kind=5):0<=k/\k<(c.st.length:Int):=by
 have h2:=pt_of (hr:=hr) h
 unfold ptB at h2
 rw [if_pos h25,Bool.and_eq_true,Bool.and_eq_true] at h2
 have:=h2.1.1
 unfold isP at this
 simp only [Bool.and_eq_true,decide_eq_true_eq] at this
 exact this
theorem Zfk (h:x∈l.set i a):x∈l\/x=a:=List.mem_or_eq_of_mem_set h
theorem st_in (hc:CfV p n f c) (R:RuV p r) {k:Int}:∀ x∈stA c r i k,0<=x/\x<p.sz.length:=by
 have h0:∀ x∈st0 c r,0<=x/\x<p.sz.length:=λx hx=>by
  unfold st0 at hx
  split at hx
  ·rename_i h3
   obtain ⟨y,hy,rfl⟩:=List.mem_map.1 hx
   have h4:=hc.st y hy
   have h5:=R.re h3
   have h6:y.toNat<r.resp.length:=by omega
   rw [<- brd_at h6]
   exact h5.2 _ (List.getElem_mem h6)
  exact hc.st x hx
 have h1:∀ x∈st1 c r i,0<=x/\x<p.sz.length:=λx hx=>by
  rcases Zfk hx with h | rfl
  ·exact h0 x h
  exact R.tf.1
 intro x hx
 unfold stA at hx
 split at hx
 ·rename_i h25
  rcases Zfk hx with h | rfl
  ·exact h1 x h
  exact R.pt h25
 exact h1 x hx
theorem af_ok (HL:FamLen p) (hc:CfV p n f c) (hv:valE p=0) (HC:Rd.CgOk c) (l8:c.st.length<=8) {r:Nat} (hr:r<p.rz.length) (_:i<c.st.length) :Rd.CgOk (af (n-f) c p.rz[r] i kp):=by
 have R:=val_in hv (List.getElem_mem hr)
 have hz:=val_sizes hv
 have h6:=HL.sz
 have hsl:=(HL.rz _ (List.getElem_mem hr)).send
 have hls:=hc.ls
 have hlf:=hc.lf
 refine ⟨HC.sh,λx hx => ?_,λx hx => ?_,λx hx => ?_,HC.lsh,?_,?_,?_⟩
 ·have:=st_in hc R x hx;unfold I64;omega
 ·have:=seA_in hc.se x hx;unfold I64;omega
 ·have:=faA_in hc.fa x hx;unfold I64;omega
 ·show (stA _ _ _ _).length<=100
  rw [Zda];omega
 ·show (seA _ _ _ _ _).length<=100
  rw [seA_len];omega
 show (faA _ _ _ _ _).length<=100
 rw [faA_len];omega
def afX (p:Fm) (n f:Int) (c:Cf) (x y k:Int):Cf:=af (n-f) c (p.rz.getD x.toNat default) y.toNat k
def lgB (c:Cf):Bool:=Rd.belB c.se 1048577&&Rd.belB c.fa 1048577
def apE (p:Fm) (n t f:Int) (c:Cf) (x y k:Int):Int :=
 if Rd.vcE p n t f c=0 then (if enB p n t f c (hdJ p f c p.msgs.length) x y k=true then (if lgB (afX p n f c x y k)=true then 0 else 4) else 9) else Rd.vcE p n t f c
def apC (p:Fm) (n t f:Int) (c:Cf) (x y k:Int):Cf:=if apE p n t f c x y k=0 then afX p n f c x y k else zC
section
variable {p:Fm} {n t f:Int} {c:Cf} {x y k:Int} {r i:Nat}
theorem afX_at (hr:r<p.rz.length):afX p n f c (r:Int) (i:Int) k=af (n-f) c p.rz[r] i k:=by
 unfold afX;rw [Int.toNat_natCast,Int.toNat_natCast,rule_get hr]
theorem lg_and {c:Cf}:lgB c=true↔Rd.belB c.se 1048577=true/\Rd.belB c.fa 1048577=true:=by unfold lgB;rw [Bool.and_eq_true]
theorem apE_err (hz:¬ Rd.vcE p n t f c=0):apE p n t f c x y k=Rd.vcE p n t f c:=by unfold apE;rw [if_neg hz]
theorem apC_err (hz:¬ Rd.vcE p n t f c=0):apC p n t f c x y k=zC:=by unfold apC;rw [apE_err hz,if_neg hz]
theorem apE_no (hz:Rd.vcE p n t f c=0) (he:enB p n t f c (hdJ p f c p.msgs.length) x y k=false):apE p n t f c x y k=9:=by unfold apE;rw [if_pos hz,he];rfl
theorem apC_no (hz:Rd.vcE p n t f c=0) (he:enB p n t f c (hdJ p f c p.msgs.length) x y k=false):apC p n t f c x y k=zC:=by unfold apC;rw [apE_no hz he];rfl
theorem apE_ok (hz:Rd.vcE p n t f c=0) (he:enB p n t f c (hdJ p f c p.msgs.length) (r:Int) (i:Int) k=true) (hr:r<p.rz.length) (hl:Rd.belB (af (n-f) c p.rz[r] i k).se 1048577=true/\Rd.belB (af (n-f) c p.rz[r] i k).fa 1048577=true):apE p n t f c (r:Int) (i:Int) k=0:=by
 unfold apE;rw [if_pos hz,if_pos he,afX_at hr,if_pos (lg_and.2 hl)]
theorem apE_lg (hz:Rd.vcE p n t f c=0) (he:enB p n t f c (hdJ p f c p.msgs.length) (r:Int) (i:Int) k=true) (hr:r<p.rz.length) (hl:¬ (Rd.belB (af (n-f) c p.rz[r] i k).se 1048577=true/\Rd.belB (af (n-f) c p.rz[r] i k).fa 1048577=true)):apE p n t f c (r:Int) (i:Int) k=4:=by
 unfold apE;rw [if_pos hz,if_pos he,afX_at hr,if_neg (λh=>hl (lg_and.1 h))]
end
end Ap
set_option maxHeartbeats 12800000
set_option maxRecDepth 100000 in
theorem En.place_x {top:Int} {c:Nat} (hc:c<=8) (xs:Nat->Value):CtrW Tryz.prog J 56 [bx 1000000] 1000000 (.box 97 [.v (xs 0),iv top,.v (xs 2),.v (xs 3),.v (xs 4),.v (xs 5),.v (xs 6),.v (xs 7),.v (xs 8),.v (xs 9),.v (xs 10),.v (xs 11),.v (xs 12),iv c,.v (xs 14),.v (xs 15),.v (xs 16),.v (xs 17),.v (xs 18),.v (xs 19),.v (xs 20),.v (xs 21),.v (xs 22),.v (xs 23),.v (xs 24),.v (xs 25),.v (xs 26),.v (xs 27),.v (xs 28),.v (xs 29),.v (xs 30),nz,nz]) (.box 97 [.v (xs 0),iv top,.v (xs 2),.v (xs 3),.v (xs 4),.v (xs 5),.v (xs 6),.v (xs 7),.v (xs 8),.v (xs 9),.v (xs 10),.v (xs 11),.v (xs 12),iv c,.v (xs 14),.v (xs 15),.v (xs 16),.v (xs 17),.v (xs 18),.v (xs 19),.v (xs 20),.v (xs 21),.v (xs 22),.v (xs 23),.v (xs 24),.v (xs 25),.v (xs 26),.v (xs 27),.v (xs 28),.v (xs 29),.v (xs 30),.fr (slA 1 cLi (Ns.shT top (c:Int))),.fr ((En.lkS top c))]) (.v (.tuple #[])):=by
 have hsh:=Sh_pos (c:=c)
 have hsl:=Sh.shX_len (c:Int)
 refine Zft (by decide) func56 rfl (n:=64) rfl (by simp) (λw0 => ?_)
 refine jB (W3 (oF (iv top) (jA (Zh (jM ?_)))))
 by_cases hs1:top=2
 refine Za (oe (dT hs1) (oS bT (jH (Zj (Zf (ZM rfl ?_))))))
 refine tD (dW (dW (dW (dW (dW (dW (dW (dW (dW (dW (dk (ZbV (.inl hs1) hc) [iv top,nz,iv c] rfl rfl (dR (Wn (z:=1) (k:=1) (fr:=true) (cs:=[.sl 3 c (Ns.lkZ top c c)]) [.tmp 22] [.fr (.sl 3 c (Ns.lkZ top c c))] rfl U95 (by kernel_rfl) (by decide) (by decide) rfl rfl rfl (by kernel_rfl) (by decide) (λ_=>by simp [AV.cellsOf,AV.isNew,cLn,cTh]) (by kernel_rfl)) ⟨I0,T0⟩ T0 rfl (dW (dW (dY (eD ?_))))))))))))))))
 refine Zs ?_
 refine KB ?_
 rw [Ns.shT_no (n:=(c:Int)) (by omega),<- En.lkS_row (c:=c) (top:=top) (by omega)]
 refine kW 64 [(1000000,.box 97 [.v (xs 0),iv top,.v (xs 2),.v (xs 3),.v (xs 4),.v (xs 5),.v (xs 6),.v (xs 7),.v (xs 8),.v (xs 9),.v (xs 10),.v (xs 11),.v (xs 12),iv c,.v (xs 14),.v (xs 15),.v (xs 16),.v (xs 17),.v (xs 18),.v (xs 19),.v (xs 20),.v (xs 21),.v (xs 22),.v (xs 23),.v (xs 24),.v (xs 25),.v (xs 26),.v (xs 27),.v (xs 28),.v (xs 29),.v (xs 30),nz,.fr ((.sl 1 1 [.sl 3 c (Ns.lkZ top c c)]))])] [] ?_
 refine Yp (WE 1000000 1 [0,0,0,0,0,0,0,0,0,0,0,0,0,0,0,0,0,0,0,0,0,0,0,0,0,0,0,0,0,0,0,2,0] rfl (ds:=[.v (xs 0),iv top,.v (xs 2),.v (xs 3),.v (xs 4),.v (xs 5),.v (xs 6),.v (xs 7),.v (xs 8),.v (xs 9),.v (xs 10),.v (xs 11),.v (xs 12),iv c,.v (xs 14),.v (xs 15),.v (xs 16),.v (xs 17),.v (xs 18),.v (xs 19),.v (xs 20),.v (xs 21),.v (xs 22),.v (xs 23),.v (xs 24),.v (xs 25),.v (xs 26),.v (xs 27),.v (xs 28),.v (xs 29),.v (xs 30),.fr (.sl 1 0 []),.fr ((.sl 1 1 [.sl 3 c (Ns.lkZ top c c)]))]) (by kernel_rfl) (by kernel_rfl)) ?_
 exact Zat results56 (by decide) (by kernel_rfl)
 refine Za (oe (dF hs1) (oS bF (jI ?_)))
 by_cases hs2:top=3
 refine Za (oe (dT hs2) (oS bT (jH ?_)))
 refine tD (dW (dW (dW (dW (dW (dW (dW (dW (dW (dW (dk (ZbV (.inr hs2) hc) [iv top,nz,iv c] rfl rfl (dR (Wn (z:=1) (k:=1) (fr:=true) (cs:=[.sl 3 c (Ns.lkZ top c c)]) [.tmp 22] [.fr (.sl 3 c (Ns.lkZ top c c))] rfl U95 (by kernel_rfl) (by decide) (by decide) rfl rfl rfl (by kernel_rfl) (by decide) (λ_=>by simp [AV.cellsOf,AV.isNew,cLn,cTh]) (by kernel_rfl)) ⟨I0,T0⟩ T0 rfl (dW (dW (dY (eD ?_))))))))))))))))
 refine Zs ?_
 refine KB ?_
 rw [Ns.shT_no (n:=(c:Int)) (by omega),<- En.lkS_row (c:=c) (top:=top) (by omega)]
 refine kW 64 [(1000000,.box 97 [.v (xs 0),iv top,.v (xs 2),.v (xs 3),.v (xs 4),.v (xs 5),.v (xs 6),.v (xs 7),.v (xs 8),.v (xs 9),.v (xs 10),.v (xs 11),.v (xs 12),iv c,.v (xs 14),.v (xs 15),.v (xs 16),.v (xs 17),.v (xs 18),.v (xs 19),.v (xs 20),.v (xs 21),.v (xs 22),.v (xs 23),.v (xs 24),.v (xs 25),.v (xs 26),.v (xs 27),.v (xs 28),.v (xs 29),.v (xs 30),nz,.fr ((.sl 1 1 [.sl 3 c (Ns.lkZ top c c)]))])] [] ?_
 refine Yp (WE 1000000 1 [0,0,0,0,0,0,0,0,0,0,0,0,0,0,0,0,0,0,0,0,0,0,0,0,0,0,0,0,0,0,0,2,0] rfl (ds:=[.v (xs 0),iv top,.v (xs 2),.v (xs 3),.v (xs 4),.v (xs 5),.v (xs 6),.v (xs 7),.v (xs 8),.v (xs 9),.v (xs 10),.v (xs 11),.v (xs 12),iv c,.v (xs 14),.v (xs 15),.v (xs 16),.v (xs 17),.v (xs 18),.v (xs 19),.v (xs 20),.v (xs 21),.v (xs 22),.v (xs 23),.v (xs 24),.v (xs 25),.v (xs 26),.v (xs 27),.v (xs 28),.v (xs 29),.v (xs 30),.fr (.sl 1 0 []),.fr ((.sl 1 1 [.sl 3 c (Ns.lkZ top c c)]))]) (by kernel_rfl) (by kernel_rfl)) ?_
 exact Zat results56 (by decide) (by kernel_rfl)
 refine Za (oe (dF hs2) (oS bF (jI (Zi ?_))))
 by_cases hs3:top=4
 refine Za (oe (dT hs3) (oS bT (jG (W4 (oW (oK (Sh.Shapes_n _) [iv c] rfl rfl (oS (.tup [.fr (slA 1 cLi (Sh.shX (c:Int))),iv (Sh.shZ (c:Int))]) (oW (oS (iv (Sh.shZ (c:Int))) (W2 (oY (kN 64 [(1000000,.box 97 [.v (xs 0),iv top,.v (xs 2),.v (xs 3),.v (xs 4),.v (xs 5),.v (xs 6),.v (xs 7),.v (xs 8),.v (xs 9),.v (xs 10),.v (xs 11),.v (xs 12),iv c,.v (xs 14),.v (xs 15),.v (xs 16),.v (xs 17),.v (xs 18),.v (xs 19),.v (xs 20),.v (xs 21),.v (xs 22),.v (xs 23),.v (xs 24),.v (xs 25),.v (xs 26),.v (xs 27),.v (xs 28),.v (xs 29),.v (xs 30),.fr (slA 1 cLi (Sh.shX (c:Int))),nz])] [(0,bx 1000000)] (jC (Za ?_))))))))))))))
 refine oW (oW (oF (.fr (slA 1 cLi (Sh.shX (c:Int)))) (YA rfl (nLs 42 U50) ⟨.inr (.inl rfl),T0⟩ T0 T0 (oS (iv 0) (kN 64 [(1000000,.box 97 [.v (xs 0),iv top,.v (xs 2),.v (xs 3),.v (xs 4),.v (xs 5),.v (xs 6),.v (xs 7),.v (xs 8),.v (xs 9),.v (xs 10),.v (xs 11),.v (xs 12),iv c,.v (xs 14),.v (xs 15),.v (xs 16),.v (xs 17),.v (xs 18),.v (xs 19),.v (xs 20),.v (xs 21),.v (xs 22),.v (xs 23),.v (xs 24),.v (xs 25),.v (xs 26),.v (xs 27),.v (xs 28),.v (xs 29),.v (xs 30),.fr (slA 1 cLi (Sh.shX (c:Int))),nz])] [(0,bx 1000000),(42,.fr (slA 1 cLi (Sh.shX (c:Int)))),(43,iv ((Sh.shX (c:Int)).length:Nat)),(44,iv 0)] (Zf (Zh ?_)))))))
 refine Yp (Yw 1000000 32 1 true 87 1 rfl rfl rfl rfl) ?_
 refine Zw (σ:={j:Nat // j<=(Sh.shX (c:Int)).length}) (λs=>(ofL [(1,.row true 87 1 (((Sh.shX (c:Int)).take s.1).length) (((Sh.shX (c:Int)).take s.1).flatMap Ns.cLk)),(1000000,.box 97 [.v (xs 0),iv top,.v (xs 2),.v (xs 3),.v (xs 4),.v (xs 5),.v (xs 6),.v (xs 7),.v (xs 8),.v (xs 9),.v (xs 10),.v (xs 11),.v (xs 12),iv c,.v (xs 14),.v (xs 15),.v (xs 16),.v (xs 17),.v (xs 18),.v (xs 19),.v (xs 20),.v (xs 21),.v (xs 22),.v (xs 23),.v (xs 24),.v (xs 25),.v (xs 26),.v (xs 27),.v (xs 28),.v (xs 29),.v (xs 30),.fr (slA 1 cLi (Sh.shX (c:Int))),.own 1])],ofT 64 [(0,bx 1000000),(42,.fr (slA 1 cLi (Sh.shX (c:Int)))),(43,iv ((Sh.shX (c:Int)).length:Nat)),(44,iv s.1)])) (λs=>(Sh.shX (c:Int)).length-s.1) ⟨0,Nat.zero_le _⟩ (Zk _ _) (λs => ?_)
 obtain ⟨j,hj0⟩:=s
 show ETri J w0 (ofL [(1,.row true 87 1 (((Sh.shX (c:Int)).take j).length) (((Sh.shX (c:Int)).take j).flatMap Ns.cLk)),(1000000,.box 97 [.v (xs 0),iv top,.v (xs 2),.v (xs 3),.v (xs 4),.v (xs 5),.v (xs 6),.v (xs 7),.v (xs 8),.v (xs 9),.v (xs 10),.v (xs 11),.v (xs 12),iv c,.v (xs 14),.v (xs 15),.v (xs 16),.v (xs 17),.v (xs 18),.v (xs 19),.v (xs 20),.v (xs 21),.v (xs 22),.v (xs 23),.v (xs 24),.v (xs 25),.v (xs 26),.v (xs 27),.v (xs 28),.v (xs 29),.v (xs 30),.fr (slA 1 cLi (Sh.shX (c:Int))),.own 1])]) (ofT 64 [(0,bx 1000000),(42,.fr (slA 1 cLi (Sh.shX (c:Int)))),(43,iv ((Sh.shX (c:Int)).length:Nat)),(44,iv j)]) _
 have l1:((Sh.shX (c:Int)).take j).length<=j:=List.length_take_le _ _
 refine Zi ?_
 by_cases hs4:(j:Int)<(((Sh.shX (c:Int)).length:Nat):Int)
 have hj1:j<(Sh.shX (c:Int)).length:=by omega
 have hx0:0<(Sh.shX (c:Int))[j].length:=hsh _ (List.getElem_mem hj1)
 have hx1:(Sh.shX (c:Int))[j].length<=100:=Nat.le_trans (Sh.shX_mem _ _ (List.getElem_mem hj1)).1 (by decide)
 refine Za (ol (dT hs4) (jD (ZM rfl (Zj (jC (Zh (jB (YA rfl (xS (j*1) 42 44 U50) ⟨.inr (.inl rfl),I0,T0⟩ T0 T0 (oL (Zc ((Sh.shX (c:Int))[j])) (fT lenLi (Sh.shX (c:Int)) j 0) (oS (Zc ((Sh.shX (c:Int))[j])) (jA ?_)))))))))))
 refine tD (dW (dW (dW (dW (dS (.own 1) (dW (dW (dW (dW (dW (dk (Zen (Sh.shX_mem _ _ (List.getElem_mem (by omega))).2 hx0 hx1) [iv 4,Zc ((Sh.shX (c:Int))[j]),iv c] rfl rfl (dR (Wn (z:=1) (k:=2) (fr:=false) (cs:=[.fr (Ns.lkT ((Sh.shX (c:Int))[j]))]) [.tmp 58] [.fr (Ns.lkT ((Sh.shX (c:Int))[j]))] rfl U95 (by kernel_rfl) (by decide) (by decide) rfl rfl rfl (by kernel_rfl) (by decide) (λh=>Bool.noConfusion h) (by kernel_rfl)) ⟨I0,T0⟩ T0 rfl (dR (Za6 (n:=((Sh.shX (c:Int)).take j).length) (cs:=(((Sh.shX (c:Int)).take j).flatMap Ns.cLk)) (fr:=true) (m:=1) (ds:=[.fr (Ns.lkT ((Sh.shX (c:Int))[j]))]) (⟨U95,by kernel_rfl,by decide⟩:Elt Tryz.prog 95 87 1 24) (.tmp 52) (.tmp 59) rfl (λ_=>Ns.newLk (Sh.shX (c:Int))[j]) (by unfold maxLen;omega) (by omega) (Ns.cellLk (Sh.shX (c:Int))[j]) (es:=(((Sh.shX (c:Int)).take (j+1)).flatMap Ns.cLk)) (Ns.snocLk (by omega))) ⟨I0,I0,T0⟩ ⟨rfl,rfl,T0⟩ rfl (dW (dW (dY (eD ?_)))))))))))))))))
 refine Zs (Zf (Za (oV ((j+1:Nat):Int) (oS (iv (j+1:Nat)) (jA ?_)))))
 refine Zp ⟨j+1,by omega⟩ (show (Sh.shX (c:Int)).length-(j+1)<(Sh.shX (c:Int)).length-j by omega) ?_
 show Wk _ _ (ofL [(1,.row true 87 1 (((Sh.shX (c:Int)).take (j+1)).length) (((Sh.shX (c:Int)).take (j+1)).flatMap Ns.cLk)),(1000000,.box 97 [.v (xs 0),iv top,.v (xs 2),.v (xs 3),.v (xs 4),.v (xs 5),.v (xs 6),.v (xs 7),.v (xs 8),.v (xs 9),.v (xs 10),.v (xs 11),.v (xs 12),iv c,.v (xs 14),.v (xs 15),.v (xs 16),.v (xs 17),.v (xs 18),.v (xs 19),.v (xs 20),.v (xs 21),.v (xs 22),.v (xs 23),.v (xs 24),.v (xs 25),.v (xs 26),.v (xs 27),.v (xs 28),.v (xs 29),.v (xs 30),.fr (slA 1 cLi (Sh.shX (c:Int))),.own 1])]) (ofT 64 [(0,bx 1000000),(42,.fr (slA 1 cLi (Sh.shX (c:Int)))),(43,iv ((Sh.shX (c:Int)).length:Nat)),(44,iv ((j+1):Nat))])
 rw [show ((Sh.shX (c:Int)).take (j+1)).length=((Sh.shX (c:Int)).take j).length+1 by rw [List.length_take,List.length_take];omega]
 exact Zk _ _
 refine Za (ol (dF hs4) (kN 64 [(1,.row true 87 1 (((Sh.shX (c:Int)).take j).length) (((Sh.shX (c:Int)).take j).flatMap Ns.cLk)),(1000000,.box 97 [.v (xs 0),iv top,.v (xs 2),.v (xs 3),.v (xs 4),.v (xs 5),.v (xs 6),.v (xs 7),.v (xs 8),.v (xs 9),.v (xs 10),.v (xs 11),.v (xs 12),iv c,.v (xs 14),.v (xs 15),.v (xs 16),.v (xs 17),.v (xs 18),.v (xs 19),.v (xs 20),.v (xs 21),.v (xs 22),.v (xs 23),.v (xs 24),.v (xs 25),.v (xs 26),.v (xs 27),.v (xs 28),.v (xs 29),.v (xs 30),.fr (slA 1 cLi (Sh.shX (c:Int))),.own 1])] [(0,bx 1000000),(42,.fr (slA 1 cLi (Sh.shX (c:Int)))),(43,iv ((Sh.shX (c:Int)).length:Nat)),(44,iv j),(45,bF)] (jC (Zu rfl (jO (Zs ?_))))))
 refine KB ?_
 have hj2:j=(Sh.shX (c:Int)).length:=by omega
 have ht:(Sh.shX (c:Int)).take j=(Sh.shX (c:Int)):=by rw [hj2,List.take_length]
 rw [ht]
 rw [Ns.shT_tree (n:=(c:Int)) hs3,hs3,<- En.lkS_tree]
 refine kW 64 [(1000000,.box 97 [.v (xs 0),iv 4,.v (xs 2),.v (xs 3),.v (xs 4),.v (xs 5),.v (xs 6),.v (xs 7),.v (xs 8),.v (xs 9),.v (xs 10),.v (xs 11),.v (xs 12),iv c,.v (xs 14),.v (xs 15),.v (xs 16),.v (xs 17),.v (xs 18),.v (xs 19),.v (xs 20),.v (xs 21),.v (xs 22),.v (xs 23),.v (xs 24),.v (xs 25),.v (xs 26),.v (xs 27),.v (xs 28),.v (xs 29),.v (xs 30),.fr (slA 1 cLi (Sh.shX (c:Int))),.fr ((.sl 1 (Sh.shX (c:Int)).length ((Sh.shX (c:Int)).flatMap Ns.cLk)))])] [] ?_
 exact Zat results56 (by decide) (by kernel_rfl)
 refine Za (oe (dF hs3) (oS bF (kN 64 [(1000000,.box 97 [.v (xs 0),iv top,.v (xs 2),.v (xs 3),.v (xs 4),.v (xs 5),.v (xs 6),.v (xs 7),.v (xs 8),.v (xs 9),.v (xs 10),.v (xs 11),.v (xs 12),iv c,.v (xs 14),.v (xs 15),.v (xs 16),.v (xs 17),.v (xs 18),.v (xs 19),.v (xs 20),.v (xs 21),.v (xs 22),.v (xs 23),.v (xs 24),.v (xs 25),.v (xs 26),.v (xs 27),.v (xs 28),.v (xs 29),.v (xs 30),nz,nz])] [(0,bx 1000000),(26,bF)] (Zf (Zu rfl (Zj (Zs ?_)))))))
 refine KB ?_
 rw [Ns.shT_no (n:=(c:Int)) (by omega),<- En.lkS_no (c:=c) hs1 hs2 hs3]
 refine Yp (WE 1000000 1 [0,0,0,0,0,0,0,0,0,0,0,0,0,0,0,0,0,0,0,0,0,0,0,0,0,0,0,0,0,0,0,2,2] rfl (ds:=[.v (xs 0),iv top,.v (xs 2),.v (xs 3),.v (xs 4),.v (xs 5),.v (xs 6),.v (xs 7),.v (xs 8),.v (xs 9),.v (xs 10),.v (xs 11),.v (xs 12),iv c,.v (xs 14),.v (xs 15),.v (xs 16),.v (xs 17),.v (xs 18),.v (xs 19),.v (xs 20),.v (xs 21),.v (xs 22),.v (xs 23),.v (xs 24),.v (xs 25),.v (xs 26),.v (xs 27),.v (xs 28),.v (xs 29),.v (xs 30),.fr (.sl 1 0 []),.fr (.sl 1 0 [])]) (by kernel_rfl) (by kernel_rfl)) ?_
 exact Zat results56 (by decide) (by kernel_rfl)
end Go.Proofs.YtmpgnibfhjdfpaaGreat
