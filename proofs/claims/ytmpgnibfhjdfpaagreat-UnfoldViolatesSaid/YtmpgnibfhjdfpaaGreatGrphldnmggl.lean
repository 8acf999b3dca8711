import Derived.Test.YtmpgnibfhjdfpaaGreatGrplfdmpooj
import Derived.Test.YtmpgnibfhjdfpaaGreatGrpcjplndde
set_option linter.all false
namespace Go.Proofs.YtmpgnibfhjdfpaaGreat
open Go.RowKit Go.Deep Tryz
variable {J:World->Prop}
abbrev Yv (x0:Fm) (x1:Ru):List (Nat × ABlk):=[(1,.box 27 (cFm x0)),(2,.box 79 (cRu x1))]
abbrev Zdz (x0:Fm):List (Nat × AV):=[(2,bx 1),(5,bx 2),(6,iv x0.sz.length)]
set_option maxRecDepth 100000 in
set_option maxHeartbeats 6400000 in
theorem rrule_c {q:Fm} (HQ:FmOk q) {i:Nat} (hi:i<q.rz.length):Ctr Tryz.prog J 109 [.agg (cFm q),iv i] (iv<|rruleE q i q.rz[i]):=by
 have HR:=HQ.rz q.rz[i] (List.getElem_mem hi)
 have l1:=HQ.lstates
 have l2:=HQ.lmsgs
 have l3:=HQ.lvals
 have l4:=HQ.lrules
 have l5:=HR.lresp
 have l6:=HR.lguards
 refine Zn func109 rfl (pN (Zg<|Zy q)<|pN (.v _) pZ) (n:=276) rfl (by simp)<|λw0 => jB<|oX 1 (.agg (cFm q))<|oS (iv 0)<|jD<|tD<|dW<|dS (slA 18 cRu q.rz)<|dS (iv i)<|dC (xS (i*18) 19 20 U25) I0 I0<|dA (Zl (z:=18) (.tmp 21) rfl U79 rfl (by kernel_rfl) (ZJ lenRu q.rz i<|by omega) rfl) I0<|dW<|dW<|dW<|dz 2 Z79<|dY<|dS (iv q.sz.length)<|eD<|kW 276 (Yv q q.rz[i]) [(1,iv i),(2,bx 1),(4,iv 0),(5,bx 2),(6,iv q.sz.length)]<|jC<|Zi ?_
 by_cases hs1:(nameB q.rz[i].nm.toList)=true
 refine Za<|W2<|oK (Zo (Yq q.rz[i].nm HR.nm) hs1) [sv q.rz[i].nm] rfl rfl<|oS bF<|jF<|jM<|Za<|oS (iv 0)<|jA<|Ye (hasR (q.rz.take i) q.rz[i].nm=false) (ofL<|Yv q q.rz[i]) (ofT 276<|Zdz q) ?_<|λHNO => ?_
 refine Zh<|Zw (σ:={k:Nat // k<=i/\hasR (q.rz.take k) q.rz[i].nm=false}) (λs=>(ofL (Yv q q.rz[i]),ofT 276 [(1,iv i),(2,bx 1),(5,bx 2),(6,iv q.sz.length),(7,iv s.1)])) (λs=>i-s.1) ⟨0,Nat.zero_le _,rfl⟩ (Zk _ _)<|λs => ?_
 obtain ⟨k,hk0,hs0⟩:=s
 show ETri J w0 (ofL<|Yv q q.rz[i]) (ofT 276 [(1,iv i),(2,bx 1),(5,bx 2),(6,iv q.sz.length),(7,iv k)]) _
 refine jM ?_
 by_cases hs2:(k:Int)<(i:Int)
 refine Za<|W2<|ol (dT hs2)<|jH<|Zj<|jC<|Zh<|Zi ?_
 by_cases hs3:(q.rz[k].nm.toList==q.rz[i].nm.toList)=true
 exact tD<|dW<|dS (slA 18 cRu q.rz)<|dS (iv k)<|dC (xS (k*18) 36 37 U25) I0 I0<|dW<|dL (sv q.rz[k].nm) (fT lenRu q.rz k 0)<|dW<|dS (sv q.rz[i].nm)<|dC (sp_seql rfl hs3) I0 I0<|eD<|Zf<|jK<|oS (iv 2)<|jE<|Ze<|Zb<|Zb<|Ze<|ZW<|Zb<|Zd results109 (.tmp rfl)<|congrArg (λx:Int=>AV.v (.int .i64 x))<|(Zd6<|.inr (hasR_take (k:=k) (by omega) hi hs3)).symm
 have hs3f:(q.rz[k].nm.toList==q.rz[i].nm.toList)=false:=by simpa using hs3
 exact tD<|dW<|dS (slA 18 cRu q.rz)<|dS (iv k)<|dC (xS (k*18) 36 37 U25) I0 I0<|dW<|dL (sv q.rz[k].nm) (fT lenRu q.rz k 0)<|dW<|dS (sv q.rz[i].nm)<|dC (sp_seql rfl hs3f) I0 I0<|eD<|Zf<|Zu rfl<|Zj<|Zs<|Zf<|Za<|oS (iv k)<|oV ((k+1:Nat):Int)<|oS (iv (k+1:Nat))<|jA<|Zp ⟨k+1,by omega,hasR_next (by omega) hs0 hs3f⟩ (show i-(k+1)<i-k by omega)<|Zk _ _
 refine Za<|W2<|ol (dF hs2)<|kN 276 (Yv q q.rz[i]) [(1,iv i),(2,bx 1),(5,bx 2),(6,iv q.sz.length),(7,iv k),(32,bF)]<|Zf<|Zu rfl<|jO ?_
 exact YN (by have:k=i:=(by omega);subst this;exact hs0)<|Zk _ _
 refine jC<|Zi<|Ye (True) (ofL<|Yv q q.rz[i]) (ofT 276 [(2,bx 1),(5,bx 2),(6,iv q.sz.length),(61,bv (!(rkindB q.rz[i] q.top)))]) ?_<|λ_ => ?_
 by_cases hs4:(inB 1 5 q.rz[i].kind)=true
 by_cases hs5:q.rz[i].kind<=3
 by_cases hs6:q.top=1
 by_cases hs7:(KL q.rz[i] q.top)=true
 refine Za<|W2<|oK (Zo (Zv q.rz[i].kind 1 5) hs4) [iv q.rz[i].kind,iv 1,iv 5] rfl rfl<|oF bF<|W2<|oq (dT hs5)<|W2<|oe (dT hs6)<|gC (ZaO rfl U4 rfl) I0 I0<|oF bF<|W2<|oK (Zo (Zbk (Zdn hs4) HQ HR) hs7) [.agg (cFm q),.agg (cRu q.rz[i])] rfl rfl<|oS bT<|kN 276 [(1,.box 27 (cFm q)),(2,.box 79 (cRu q.rz[i]))] [(2,bx 1),(5,bx 2),(6,iv q.sz.length),(61,bT)] ?_
 rw [show (!rkindB q.rz[i] q.top)=true by unfold rkindB;rw [hs7];simp [hs1,hs4,hs5,hs6,hs7]]
 exact tM T0
 have hs7f:(KL q.rz[i] q.top)=false:=by simpa using hs7
 refine Za<|W2<|oK (Zo (Zv q.rz[i].kind 1 5) hs4) [iv q.rz[i].kind,iv 1,iv 5] rfl rfl<|oF bF<|W2<|oq (dT hs5)<|W2<|oe (dT hs6)<|gC (ZaO rfl U4 rfl) I0 I0<|oF bF<|W2<|oK (Zo (Zbk (Zdn hs4) HQ HR) hs7f) [.agg (cFm q),.agg (cRu q.rz[i])] rfl rfl<|oS bF<|kN 276 [(1,.box 27 (cFm q)),(2,.box 79 (cRu q.rz[i]))] [(2,bx 1),(5,bx 2),(6,iv q.sz.length),(61,bF)] ?_
 rw [show (!rkindB q.rz[i] q.top)=false by unfold rkindB;rw [hs7f];simp [hs1,hs4,hs5,hs6,hs7f]]
 exact tM T0
 refine Za<|W2<|oK (Zo (Zv q.rz[i].kind 1 5) hs4) [iv q.rz[i].kind,iv 1,iv 5] rfl rfl<|oF bF<|W2<|oq (dT hs5)<|W2<|oe (dF hs6)<|gC (ZaO rfl U4 rfl) I0 I0<|oF bT<|V3<|oS bT<|kN 276 [(1,.box 27 (cFm q)),(2,.box 79 (cRu q.rz[i]))] [(2,bx 1),(5,bx 2),(6,iv q.sz.length),(61,bT)] ?_
 rw [show (!rkindB q.rz[i] q.top)=true by unfold rkindB;simp [hs1,hs4,hs5,hs6]]
 exact tM T0
 by_cases hs8:q.top=1
 refine Za<|W2<|oK (Zo (Zv q.rz[i].kind 1 5) hs4) [iv q.rz[i].kind,iv 1,iv 5] rfl rfl<|oF bF<|W2<|oq (dF hs5)<|W2<|oe (dT hs8)<|gC (ZaO rfl U4 rfl) I0 I0<|oF bT<|V3<|oS bT<|kN 276 [(1,.box 27 (cFm q)),(2,.box 79 (cRu q.rz[i]))] [(2,bx 1),(5,bx 2),(6,iv q.sz.length),(61,bT)] ?_
 rw [show (!rkindB q.rz[i] q.top)=true by unfold rkindB;simp [hs1,hs4,hs5,hs8]]
 exact tM T0
 by_cases hs9:(KL q.rz[i] q.top)=true
 refine Za<|W2<|oK (Zo (Zv q.rz[i].kind 1 5) hs4) [iv q.rz[i].kind,iv 1,iv 5] rfl rfl<|oF bF<|W2<|oq (dF hs5)<|W2<|oe (dF hs8)<|gC (ZaO rfl U4 rfl) I0 I0<|oF bF<|W2<|oK (Zo (Zbk (Zdn hs4) HQ HR) hs9) [.agg (cFm q),.agg (cRu q.rz[i])] rfl rfl<|oS bT<|kN 276 [(1,.box 27 (cFm q)),(2,.box 79 (cRu q.rz[i]))] [(2,bx 1),(5,bx 2),(6,iv q.sz.length),(61,bT)] ?_
 rw [show (!rkindB q.rz[i] q.top)=true by unfold rkindB;rw [hs9];simp [hs1,hs4,hs5,hs8,hs9]]
 exact tM T0
 have hs9f:(KL q.rz[i] q.top)=false:=by simpa using hs9
 refine Za<|W2<|oK (Zo (Zv q.rz[i].kind 1 5) hs4) [iv q.rz[i].kind,iv 1,iv 5] rfl rfl<|oF bF<|W2<|oq (dF hs5)<|W2<|oe (dF hs8)<|gC (ZaO rfl U4 rfl) I0 I0<|oF bF<|W2<|oK (Zo (Zbk (Zdn hs4) HQ HR) hs9f) [.agg (cFm q),.agg (cRu q.rz[i])] rfl rfl<|oS bF<|kN 276 [(1,.box 27 (cFm q)),(2,.box 79 (cRu q.rz[i]))] [(2,bx 1),(5,bx 2),(6,iv q.sz.length),(61,bF)] ?_
 rw [show (!rkindB q.rz[i] q.top)=false by unfold rkindB;rw [hs9f];simp [hs1,hs4,hs5,hs8,hs9f]]
 exact tM T0
 have hs4f:(inB 1 5 q.rz[i].kind)=false:=by simpa using hs4
 refine Za<|W2<|oK (Zo (Zv q.rz[i].kind 1 5) hs4f) [iv q.rz[i].kind,iv 1,iv 5] rfl rfl<|oF bT<|V5<|V2<|oF bT<|V3<|oS bT<|kN 276 [(1,.box 27 (cFm q)),(2,.box 79 (cRu q.rz[i]))] [(2,bx 1),(5,bx 2),(6,iv q.sz.length),(61,bT)] ?_
 rw [show (!rkindB q.rz[i] q.top)=true by unfold rkindB;simp [hs1,hs4f]]
 exact tM T0
 refine Zf ?_
 by_cases hs10:(rkindB q.rz[i] q.top)=true
 rw [hs10]
 refine jL<|Zi<|Ye (True) (ofL [(1,.box 27 (cFm q)),(2,.box 79 (cRu q.rz[i]))]) (ofT 276 [(2,bx 1),(5,bx 2),(6,iv q.sz.length),(8,bv (twoB q.rz[i]))]) ?_<|λ_ => ?_
 by_cases hs11:q.rz[i].kind=2
 refine Za<|W2<|oe (dT hs11)<|oS bT<|V3<|oF bT<|kN 276 [(1,.box 27 (cFm q)),(2,.box 79 (cRu q.rz[i]))] [(2,bx 1),(5,bx 2),(6,iv q.sz.length),(8,bT)] ?_
 rw [show (twoB q.rz[i])=true by first | (simp [twoB,hs1,hs10,hs11];done) | (simp [twoB,inB,hs1,hs10,hs11];done)]
 exact tM T0
 refine Za<|W2<|oe (dF hs11)<|oS bF<|oF (iv q.rz[i].kind)<|gC (ZH rfl rfl) I0 I0<|oF (bv<|decide<|q.rz[i].kind=5)<|kN 276 [(1,.box 27 (cFm q)),(2,.box 79 (cRu q.rz[i]))] [(2,bx 1),(5,bx 2),(6,iv q.sz.length),(8,bv (decide<|q.rz[i].kind=5))] ?_
 rw [show (twoB q.rz[i])=(decide<|q.rz[i].kind=5) by first | (simp [twoB,hs1,hs10,hs11];done) | (simp [twoB,inB,hs1,hs10,hs11];done)]
 exact tM T0
 refine jC<|Zi<|Ye (True) (ofL<|Yv q q.rz[i]) (ofT 276 [(2,bx 1),(5,bx 2),(6,iv q.sz.length),(102,bv (!(rstB q.rz[i] q.sz.length)))]) ?_<|λ_ => ?_
 by_cases hs12:(inB 0 ((q.sz.length:Int)-1) q.rz[i].frm)=true
 by_cases hs13:(inB 0 ((q.sz.length:Int)-1) q.rz[i].to)=true
 by_cases hs14:(twoB q.rz[i])=true
 rw [hs14]
 refine kW 276 (Yv q q.rz[i]) [(2,bx 1),(5,bx 2),(6,iv q.sz.length),(8,bT)] ?_
 by_cases hs15:(inB 0 ((q.sz.length:Int)-1) q.rz[i].pf)=true
 by_cases hs16:(inB 0 ((q.sz.length:Int)-1) q.rz[i].pt)=true
 refine Za<|W2<|oS (iv q.sz.length)<|oU ((q.sz.length:Int)-1)<|oK (Zo (Zv q.rz[i].frm 0 ((q.sz.length:Int)-1)) hs12) [iv q.rz[i].frm,iv 0,iv ((q.sz.length:Int)-1)] rfl rfl<|oF bF<|W2<|oS (iv q.sz.length)<|oU ((q.sz.length:Int)-1)<|oK (Zo (Zv q.rz[i].to 0 ((q.sz.length:Int)-1)) hs13) [iv q.rz[i].to,iv 0,iv ((q.sz.length:Int)-1)] rfl rfl<|oW<|oF bF<|oF bT<|W2<|oS (iv q.sz.length)<|oU ((q.sz.length:Int)-1)<|oK (Zo (Zv q.rz[i].pf 0 ((q.sz.length:Int)-1)) hs15) [iv q.rz[i].pf,iv 0,iv ((q.sz.length:Int)-1)] rfl rfl<|oF bF<|W2<|oS (iv q.sz.length) ?_
 refine oU ((q.sz.length:Int)-1)<|oK (Zo (Zv q.rz[i].pt 0 ((q.sz.length:Int)-1)) hs16) [iv q.rz[i].pt,iv 0,iv ((q.sz.length:Int)-1)] rfl rfl<|W3<|oS bF<|kN 276 [(1,.box 27 (cFm q)),(2,.box 79 (cRu q.rz[i]))] [(2,bx 1),(5,bx 2),(6,iv q.sz.length),(102,bF)] ?_
 rw [show (!rstB q.rz[i] q.sz.length)=false by first | (simp [Y4,ixB,hs1,hs10,hs12,hs13,hs14,hs15,hs16];done) | (simp [Y4,ixB,inB,hs1,hs10,hs12,hs13,hs14,hs15,hs16];done)]
 exact tM T0
 have hs16f:(inB 0 ((q.sz.length:Int)-1) q.rz[i].pt)=false:=by simpa using hs16
 refine Za<|W2<|oS (iv q.sz.length)<|oU ((q.sz.length:Int)-1)<|oK (Zo (Zv q.rz[i].frm 0 ((q.sz.length:Int)-1)) hs12) [iv q.rz[i].frm,iv 0,iv ((q.sz.length:Int)-1)] rfl rfl<|oF bF<|W2<|oS (iv q.sz.length)<|oU ((q.sz.length:Int)-1)<|oK (Zo (Zv q.rz[i].to 0 ((q.sz.length:Int)-1)) hs13) [iv q.rz[i].to,iv 0,iv ((q.sz.length:Int)-1)] rfl rfl<|oW<|oF bF<|oF bT<|W2<|oS (iv q.sz.length)<|oU ((q.sz.length:Int)-1)<|oK (Zo (Zv q.rz[i].pf 0 ((q.sz.length:Int)-1)) hs15) [iv q.rz[i].pf,iv 0,iv ((q.sz.length:Int)-1)] rfl rfl<|oF bF<|W2<|oS (iv q.sz.length) ?_
 refine oU ((q.sz.length:Int)-1)<|oK (Zo (Zv q.rz[i].pt 0 ((q.sz.length:Int)-1)) hs16f) [iv q.rz[i].pt,iv 0,iv ((q.sz.length:Int)-1)] rfl rfl<|W3<|oS bT<|kN 276 [(1,.box 27 (cFm q)),(2,.box 79 (cRu q.rz[i]))] [(2,bx 1),(5,bx 2),(6,iv q.sz.length),(102,bT)] ?_
 rw [show (!rstB q.rz[i] q.sz.length)=true by first | (simp [Y4,ixB,hs1,hs10,hs12,hs13,hs14,hs15,hs16f];done) | (simp [Y4,ixB,inB,hs1,hs10,hs12,hs13,hs14,hs15,hs16f];done)]
 exact tM T0
 have hs15f:(inB 0 ((q.sz.length:Int)-1) q.rz[i].pf)=false:=by simpa using hs15
 refine Za<|W2<|oS (iv q.sz.length)<|oU ((q.sz.length:Int)-1)<|oK (Zo (Zv q.rz[i].frm 0 ((q.sz.length:Int)-1)) hs12) [iv q.rz[i].frm,iv 0,iv ((q.sz.length:Int)-1)] rfl rfl<|oF bF<|W2<|oS (iv q.sz.length)<|oU ((q.sz.length:Int)-1)<|oK (Zo (Zv q.rz[i].to 0 ((q.sz.length:Int)-1)) hs13) [iv q.rz[i].to,iv 0,iv ((q.sz.length:Int)-1)] rfl rfl<|oW<|oF bF<|oF bT<|W2<|oS (iv q.sz.length)<|oU ((q.sz.length:Int)-1)<|oK (Zo (Zv q.rz[i].pf 0 ((q.sz.length:Int)-1)) hs15f) [iv q.rz[i].pf,iv 0,iv ((q.sz.length:Int)-1)] rfl rfl<|oF bT<|V3 ?_
 refine qK<|V2<|W2<|oS bT<|kN 276 [(1,.box 27 (cFm q)),(2,.box 79 (cRu q.rz[i]))] [(2,bx 1),(5,bx 2),(6,iv q.sz.length),(102,bT)] ?_
 rw [show (!rstB q.rz[i] q.sz.length)=true by first | (simp [Y4,ixB,hs1,hs10,hs12,hs13,hs14,hs15f];done) | (simp [Y4,ixB,inB,hs1,hs10,hs12,hs13,hs14,hs15f];done)]
 exact tM T0
 have hs14f:(twoB q.rz[i])=false:=by simpa using hs14
 rw [hs14f]
 refine Za<|W2<|oS (iv q.sz.length)<|oU ((q.sz.length:Int)-1)<|oK (Zo (Zv q.rz[i].frm 0 ((q.sz.length:Int)-1)) hs12) [iv q.rz[i].frm,iv 0,iv ((q.sz.length:Int)-1)] rfl rfl<|oF bF<|W2<|oS (iv q.sz.length)<|oU ((q.sz.length:Int)-1)<|oK (Zo (Zv q.rz[i].to 0 ((q.sz.length:Int)-1)) hs13) [iv q.rz[i].to,iv 0,iv ((q.sz.length:Int)-1)] rfl rfl<|oW<|oF bF<|oF bF<|V5<|V4<|qK<|V4<|oW<|oS bF<|kN 276 [(1,.box 27 (cFm q)),(2,.box 79 (cRu q.rz[i]))] [(2,bx 1),(5,bx 2),(6,iv q.sz.length),(102,bF)] ?_
 rw [show (!rstB q.rz[i] q.sz.length)=false by first | (simp [Y4,ixB,hs1,hs10,hs12,hs13,hs14f];done) | (simp [Y4,ixB,inB,hs1,hs10,hs12,hs13,hs14f];done)]
 exact tM T0
 have hs13f:(inB 0 ((q.sz.length:Int)-1) q.rz[i].to)=false:=by simpa using hs13
 refine Za<|W2<|oS (iv q.sz.length)<|oU ((q.sz.length:Int)-1)<|oK (Zo (Zv q.rz[i].frm 0 ((q.sz.length:Int)-1)) hs12) [iv q.rz[i].frm,iv 0,iv ((q.sz.length:Int)-1)] rfl rfl<|oF bF<|W2<|oS (iv q.sz.length)<|oU ((q.sz.length:Int)-1)<|oK (Zo (Zv q.rz[i].to 0 ((q.sz.length:Int)-1)) hs13f) [iv q.rz[i].to,iv 0,iv ((q.sz.length:Int)-1)] rfl rfl<|oW<|oF bT<|V5<|V5<|qK<|V5<|qK<|oS bT<|kN 276 [(1,.box 27 (cFm q)),(2,.box 79 (cRu q.rz[i]))] [(2,bx 1),(5,bx 2),(6,iv q.sz.length),(102,bT)] ?_
 rw [show (!rstB q.rz[i] q.sz.length)=true by first | (simp [Y4,ixB,hs1,hs10,hs12,hs13f];done) | (simp [Y4,ixB,inB,hs1,hs10,hs12,hs13f];done)]
 exact tM T0
 have hs12f:(inB 0 ((q.sz.length:Int)-1) q.rz[i].frm)=false:=by simpa using hs12
 refine Za<|W2<|oS (iv q.sz.length)<|oU ((q.sz.length:Int)-1)<|oK (Zo (Zv q.rz[i].frm 0 ((q.sz.length:Int)-1)) hs12f) [iv q.rz[i].frm,iv 0,iv ((q.sz.length:Int)-1)] rfl rfl<|oF bT<|V5<|qK<|oF bT<|V5<|V5<|qK<|V5<|qK<|oS bT<|kN 276 [(1,.box 27 (cFm q)),(2,.box 79 (cRu q.rz[i]))] [(2,bx 1),(5,bx 2),(6,iv q.sz.length),(102,bT)] ?_
 rw [show (!rstB q.rz[i] q.sz.length)=true by first | (simp [Y4,ixB,hs1,hs10,hs12f];done) | (simp [Y4,ixB,inB,hs1,hs10,hs12f];done)]
 exact tM T0
 refine Zf ?_
 by_cases hs17:(rstB q.rz[i] q.sz.length)=true
 rw [hs17]
 refine jL<|jM<|Za<|oF (iv q.rz[i].kind)<|oC (ZH rfl rfl) I0 I0<|jA<|Ye (reX q q.rz[i]=0) (ofL<|Yv q q.rz[i]) (ofT 276<|Zdz q) ?_<|λHRX => ?_
 by_cases hs18:q.rz[i].kind=3
 rw [dT hs18]
 refine ZM rfl<|jM ?_
 by_cases hs19:((q.rz[i].resp.length:Nat):Int)=(q.sz.length:Int)
 refine Za<|W4<|on (dT' hs19)<|jF<|jB<|oS (iv 0)<|jA<|Zh<|Zw (σ:={k:Nat // k<=q.sz.length/\allK q.sz.length q.rz[i].resp k=true}) (λs=>(ofL (Yv q q.rz[i]),ofT 276 [(2,bx 1),(5,bx 2),(6,iv q.sz.length),(9,iv s.1)])) (λs=>q.sz.length-s.1) ⟨0,Nat.zero_le _,rfl⟩ (Zk _ _)<|λs => ?_
 obtain ⟨k,hk0,hs0⟩:=s
 show ETri J w0 (ofL<|Yv q q.rz[i]) (ofT 276 [(2,bx 1),(5,bx 2),(6,iv q.sz.length),(9,iv k)]) _
 refine jM ?_
 by_cases hs20:(k:Int)<(q.sz.length:Int)
 refine Za<|W2<|ol (dT hs20)<|jH<|Zj<|jC<|Zh<|Zi ?_
 by_cases hs21:(inB 0 ((q.sz.length:Int)-1) q.rz[i].resp[k])=true
 exact Za<|oF (Zc q.rz[i].resp)<|oS (iv k)<|oC (xS (k*1) 117 118 U24) I0 I0<|oL (iv q.rz[i].resp[k]) (Zr q.rz[i].resp (by omega))<|oS (iv q.sz.length)<|oU ((q.sz.length:Int)-1)<|oK (Zo (Zv q.rz[i].resp[k] 0 ((q.sz.length:Int)-1)) hs21) [iv q.rz[i].resp[k],iv 0,iv ((q.sz.length:Int)-1)] rfl rfl<|oS bF<|jI<|Zj<|Zs<|Zf<|Za<|oS (iv k)<|oV ((k+1:Nat):Int)<|oS (iv (k+1:Nat))<|jA<|Zp ⟨k+1,by omega,ZaL (by omega) hs0 hs21⟩ (show q.sz.length-(k+1)<q.sz.length-k by omega)<|Zk _ _
 have hs21f:(inB 0 ((q.sz.length:Int)-1) q.rz[i].resp[k])=false:=by simpa using hs21
 exact Za<|oF (Zc q.rz[i].resp)<|oS (iv k)<|oC (xS (k*1) 117 118 U24) I0 I0<|oL (iv q.rz[i].resp[k]) (Zr q.rz[i].resp (by omega))<|oS (iv q.sz.length)<|oU ((q.sz.length:Int)-1)<|oK (Zo (Zv q.rz[i].resp[k] 0 ((q.sz.length:Int)-1)) hs21f) [iv q.rz[i].resp[k],iv 0,iv ((q.sz.length:Int)-1)] rfl rfl<|oS bT<|jG<|oS (iv 5)<|jE<|Ze<|Zb<|Zb<|Ze<|ZW<|Zb<|Zd results109 (.tmp rfl)<|congrArg (λx:Int=>AV.v (.int .i64 x))<|Eq.trans (part_1b hs18 (by omega) (k:=k) (by omega) hs21f).symm (Z0 hs1 HNO hs10 hs17).symm
 refine Za<|W2<|ol (dF hs20)<|kN 276 (Yv q q.rz[i]) [(2,bx 1),(5,bx 2),(6,iv q.sz.length),(9,iv k),(113,bF)]<|Zf<|Zu rfl<|jO ?_
 exact YN (by have:k=q.sz.length:=(by omega);subst this;exact reX_ok hs18 (by omega) hs0)<|Zk _ _
 exact Za<|W4<|on (dF' hs19)<|jG<|oS (iv 1)<|jE<|Zb<|ZW<|Zb<|Zd results109 (.tmp rfl)<|congrArg (λx:Int=>AV.v (.int .i64 x))<|Eq.trans (part_1a hs18<|by omega).symm (Z0 hs1 HNO hs10 hs17).symm
 rw [dF hs18]
 exact Zu rfl<|Zj<|YN (reX_no hs18)<|Zk _ _
 refine jC<|jB<|oS (iv 0)<|jA<|Ye (gusE q.msgs.length q.rz[i].gz=0) (ofL<|Yv q q.rz[i]) (ofT 276<|Zdz q) ?_<|λHG => ?_
 refine Zh<|Zw (σ:={k:Nat // k<=q.rz[i].gz.length/\gusE q.msgs.length (q.rz[i].gz.take k)=0}) (λs=>(ofL (Yv q q.rz[i]),ofT 276 [(2,bx 1),(5,bx 2),(6,iv q.sz.length),(10,iv s.1)])) (λs=>q.rz[i].gz.length-s.1) ⟨0,Nat.zero_le _,rfl⟩ (Zk _ _)<|λs => ?_
 obtain ⟨k,hk0,hs0⟩:=s
 show ETri J w0 (ofL<|Yv q q.rz[i]) (ofT 276 [(2,bx 1),(5,bx 2),(6,iv q.sz.length),(10,iv k)]) _
 refine jM ?_
 by_cases hs22:(k:Int)<((q.rz[i].gz.length:Nat):Int)
 refine Za<|W4<|ol (dT hs22)<|jH<|Zj<|jC<|Zh<|jB<|oF (slA 6 cTh q.rz[i].gz)<|oS (iv k)<|oC (xS (k*6) 133 134 U77) I0 I0<|oA (Zl (z:=6) (.tmp 135) rfl U118 rfl (by kernel_rfl) (ZJ lenTh q.rz[i].gz k (by omega)) rfl) I0<|oZ 3 Z118<|oY<|kN 276 [(1,.box 27 (cFm q)),(2,.box 79 (cRu q.rz[i])),(3,.box 118 (cTh q.rz[i].gz[k]))] [(2,bx 1),(5,bx 2),(6,iv q.sz.length),(10,iv k),(11,bx 3),(129,bT)]<|jC<|Zi ?_
 by_cases hs23:(inB 0 ((q.msgs.length:Int)-1) q.rz[i].gz[k].msg)=true
 refine Za<|W3<|oF (iv q.msgs.length)<|oU ((q.msgs.length:Int)-1)<|oK (Zo (Zv q.rz[i].gz[k].msg 0 ((q.msgs.length:Int)-1)) hs23) [iv q.rz[i].gz[k].msg,iv 0,iv ((q.msgs.length:Int)-1)] rfl rfl<|oS bF<|jF<|jM ?_
 by_cases hs24:(inB 1 100 q.rz[i].gz[k].coef)=true
 refine Za<|W2<|oK (Zo (Zv q.rz[i].gz[k].coef 1 100) hs24) [iv q.rz[i].gz[k].coef,iv 1,iv 100] rfl rfl<|oS bF<|jF<|Zi ?_
 by_cases hs25:(smL q.rz[i].gz[k].bd.c q.rz[i].gz[k].bd.n q.rz[i].gz[k].bd.t q.rz[i].gz[k].bd.f)=true
 exact Za<|W2<|oK (Zo (few_c q.rz[i].gz[k].bd) hs25) [.agg [iv q.rz[i].gz[k].bd.c,iv q.rz[i].gz[k].bd.n,iv q.rz[i].gz[k].bd.t,iv q.rz[i].gz[k].bd.f]] rfl rfl<|oS bF<|jI<|Zj<|Zs<|Zf<|Za<|oS (iv k)<|oV ((k+1:Nat):Int)<|oS (iv (k+1:Nat))<|jA<|Zp ⟨k+1,by omega,gusE_succ (by omega) hs0 (guE_4 hs23 hs24 hs25)⟩ (show q.rz[i].gz.length-(k+1)<q.rz[i].gz.length-k by omega)<|Zk _ _
 have hs25f:(smL q.rz[i].gz[k].bd.c q.rz[i].gz[k].bd.n q.rz[i].gz[k].bd.t q.rz[i].gz[k].bd.f)=false:=by simpa using hs25
 exact Za<|W2<|oK (Zo (few_c q.rz[i].gz[k].bd) hs25f) [.agg [iv q.rz[i].gz[k].bd.c,iv q.rz[i].gz[k].bd.n,iv q.rz[i].gz[k].bd.t,iv q.rz[i].gz[k].bd.f]] rfl rfl<|oS bT<|jG<|oS (iv 4)<|jE<|Ze<|Zb<|Zb<|Ze<|ZW<|Zb<|Zd results109 (.tmp rfl)<|congrArg (λx:Int=>AV.v (.int .i64 x))<|Eq.trans (Zff HRX (k:=k) (by omega) hs0 (guE_3 hs23 hs24 hs25f)<|by decide).symm (Z0 hs1 HNO hs10 hs17).symm
 have hs24f:(inB 1 100 q.rz[i].gz[k].coef)=false:=by simpa using hs24
 exact Za<|W2<|oK (Zo (Zv q.rz[i].gz[k].coef 1 100) hs24f) [iv q.rz[i].gz[k].coef,iv 1,iv 100] rfl rfl<|oS bT<|jG<|oS (iv 1)<|jE<|Zb<|Ze<|Zb<|Zb<|Ze<|ZW<|Zb<|Zd results109 (.tmp rfl)<|congrArg (λx:Int=>AV.v (.int .i64 x))<|Eq.trans (Zff HRX (k:=k) (by omega) hs0 (guE_2 hs23 hs24f)<|by decide).symm (Z0 hs1 HNO hs10 hs17).symm
 have hs23f:(inB 0 ((q.msgs.length:Int)-1) q.rz[i].gz[k].msg)=false:=by simpa using hs23
 exact Za<|W3<|oF (iv q.msgs.length)<|oU ((q.msgs.length:Int)-1)<|oK (Zo (Zv q.rz[i].gz[k].msg 0 ((q.msgs.length:Int)-1)) hs23f) [iv q.rz[i].gz[k].msg,iv 0,iv ((q.msgs.length:Int)-1)] rfl rfl<|oS bT<|jG<|oS (iv 5)<|jE<|Zb<|Ze<|Zb<|Zb<|Ze<|ZW<|Zb<|Zd results109 (.tmp rfl)<|congrArg (λx:Int=>AV.v (.int .i64 x))<|Eq.trans (Zff HRX (k:=k) (by omega) hs0 (guE_1 hs23f)<|by decide).symm (Z0 hs1 HNO hs10 hs17).symm
 refine Za<|W4<|ol (dF hs22)<|kN 276 (Yv q q.rz[i]) [(2,bx 1),(5,bx 2),(6,iv q.sz.length),(10,iv k),(129,bF)]<|Zf<|Zu rfl<|jO ?_
 exact YN (by have:k=q.rz[i].gz.length:=(by omega);subst this;rwa [List.take_length] at hs0)<|Zk _ _
 refine jC<|Zi ?_
 by_cases hs26:2<((q.rz[i].gz.length:Nat):Int)
 exact Za<|W3<|og (dT hs26)<|jG<|oS (iv 4)<|jE<|Zb<|Zd results109 (.tmp rfl)<|congrArg (λx:Int=>AV.v (.int .i64 x))<|Eq.trans (part_2l HRX HG<|by omega).symm (Z0 hs1 HNO hs10 hs17).symm
 refine Za<|W3<|og (dF hs26)<|jF<|jM<|Za<|W3<|oK (K5 q.sz.length (by omega) q.rz[i].ex HR.ex) [Zc q.rz[i].ex,iv q.sz.length] rfl rfl<|oS (iv<|setE q.sz.length q.rz[i].ex)<|jD ?_
 by_cases hs27:setE q.sz.length q.rz[i].ex=0
 refine Za<|oW<|on (dT' hs27)<|jF<|jM<|Za<|W3<|oK (K5 q.sz.length (by omega) q.rz[i].fa HR.fa) [Zc q.rz[i].fa,iv q.sz.length] rfl rfl<|oS (iv<|setE q.sz.length q.rz[i].fa)<|jD ?_
 by_cases hs28:setE q.sz.length q.rz[i].fa=0
 refine Za<|oW<|on (dT' hs28)<|jF<|jM<|Ye (True) (ofL [(1,.box 27 (cFm q)),(2,.box 79 (cRu q.rz[i]))]) (ofT 276 [(2,bx 1),(5,bx 2),(6,iv q.sz.length),(198,bv (!decide (shE q.vals.length q.rz[i].rd q.rz[i].wr=0)))]) ?_<|λ_ => ?_
 by_cases hs29:q.rz[i].rd=(-1)
 by_cases hs30:q.rz[i].wr=(-1)
 refine Za<|W2<|on (dT' hs29)<|oS bF<|V5<|V3<|oF bF<|W2<|on (dT' hs30)<|oS bF<|V5<|qK<|qK<|qK<|oW<|oS bF<|kN 276 [(1,.box 27 (cFm q)),(2,.box 79 (cRu q.rz[i]))] [(2,bx 1),(5,bx 2),(6,iv q.sz.length),(198,bF)] ?_
 rw [show (!decide (shE q.vals.length q.rz[i].rd q.rz[i].wr=0))=false by first | (simp [shE,ixB,hs1,hs10,hs17,hs26,hs27,hs28,hs29,hs30];done) | (simp [shE,ixB,inB,hs1,hs10,hs17,hs26,hs27,hs28,hs29,hs30];done)]
 exact tM T0
 by_cases hs31:(inB 0 ((q.vals.length:Int)-1) q.rz[i].wr)=true
 refine Za<|W2<|on (dT' hs29)<|oS bF<|V5<|V3<|oF bF<|W2<|on (dF' hs30)<|oS bT<|W3<|oF (iv q.vals.length)<|oU ((q.vals.length:Int)-1)<|oK (Zo (Zv q.rz[i].wr 0 ((q.vals.length:Int)-1)) hs31) [iv q.rz[i].wr,iv 0,iv ((q.vals.length:Int)-1)] rfl rfl<|oW<|oW<|oS bF<|kN 276 [(1,.box 27 (cFm q)),(2,.box 79 (cRu q.rz[i]))] [(2,bx 1),(5,bx 2),(6,iv q.sz.length),(198,bF)] ?_
 rw [show (!decide (shE q.vals.length q.rz[i].rd q.rz[i].wr=0))=false by first | (simp [shE,ixB,hs1,hs10,hs17,hs26,hs27,hs28,hs29,hs30,hs31];done) | (simp [shE,ixB,inB,hs1,hs10,hs17,hs26,hs27,hs28,hs29,hs30,hs31];done)]
 exact tM T0
 have hs31f:(inB 0 ((q.vals.length:Int)-1) q.rz[i].wr)=false:=by simpa using hs31
 refine Za<|W2<|on (dT' hs29)<|oS bF<|V5<|V3<|oF bF<|W2<|on (dF' hs30)<|oS bT<|W3<|oF (iv q.vals.length)<|oU ((q.vals.length:Int)-1)<|oK (Zo (Zv q.rz[i].wr 0 ((q.vals.length:Int)-1)) hs31f) [iv q.rz[i].wr,iv 0,iv ((q.vals.length:Int)-1)] rfl rfl<|oW<|oW<|oS bT<|kN 276 [(1,.box 27 (cFm q)),(2,.box 79 (cRu q.rz[i]))] [(2,bx 1),(5,bx 2),(6,iv q.sz.length),(198,bT)] ?_
 rw [show (!decide (shE q.vals.length q.rz[i].rd q.rz[i].wr=0))=true by first | (simp [shE,ixB,hs1,hs10,hs17,hs26,hs27,hs28,hs29,hs30,hs31f];done) | (simp [shE,ixB,inB,hs1,hs10,hs17,hs26,hs27,hs28,hs29,hs30,hs31f];done)]
 exact tM T0
 by_cases hs32:(inB 0 ((q.vals.length:Int)-1) q.rz[i].rd)=true
 by_cases hs33:q.rz[i].wr=(-1)
 refine Za<|W2<|on (dF' hs29)<|oS bT<|W3<|oF (iv q.vals.length)<|oU ((q.vals.length:Int)-1)<|oK (Zo (Zv q.rz[i].rd 0 ((q.vals.length:Int)-1)) hs32) [iv q.rz[i].rd,iv 0,iv ((q.vals.length:Int)-1)] rfl rfl<|oW<|oF bF<|W2<|on (dT' hs33)<|oS bF<|V5<|V2<|qK<|oW<|oS bF<|kN 276 [(1,.box 27 (cFm q)),(2,.box 79 (cRu q.rz[i]))] [(2,bx 1),(5,bx 2),(6,iv q.sz.length),(198,bF)] ?_
 rw [show (!decide (shE q.vals.length q.rz[i].rd q.rz[i].wr=0))=false by first | (simp [shE,ixB,hs1,hs10,hs17,hs26,hs27,hs28,hs29,hs32,hs33];done) | (simp [shE,ixB,inB,hs1,hs10,hs17,hs26,hs27,hs28,hs29,hs32,hs33];done)]
 exact tM T0
 by_cases hs34:(inB 0 ((q.vals.length:Int)-1) q.rz[i].wr)=true
 refine Za<|W2<|on (dF' hs29)<|oS bT<|W3<|oF (iv q.vals.length)<|oU ((q.vals.length:Int)-1)<|oK (Zo (Zv q.rz[i].rd 0 ((q.vals.length:Int)-1)) hs32) [iv q.rz[i].rd,iv 0,iv ((q.vals.length:Int)-1)] rfl rfl<|oW<|oF bF<|W2<|on (dF' hs33)<|oS bT<|W3<|oF (iv q.vals.length)<|oU ((q.vals.length:Int)-1)<|oK (Zo (Zv q.rz[i].wr 0 ((q.vals.length:Int)-1)) hs34) [iv q.rz[i].wr,iv 0,iv ((q.vals.length:Int)-1)] rfl rfl<|oW<|oW<|oS bF<|kN 276 [(1,.box 27 (cFm q)),(2,.box 79 (cRu q.rz[i]))] [(2,bx 1),(5,bx 2),(6,iv q.sz.length),(198,bF)] ?_
 rw [show (!decide (shE q.vals.length q.rz[i].rd q.rz[i].wr=0))=false by first | (simp [shE,ixB,hs1,hs10,hs17,hs26,hs27,hs28,hs29,hs32,hs33,hs34];done) | (simp [shE,ixB,inB,hs1,hs10,hs17,hs26,hs27,hs28,hs29,hs32,hs33,hs34];done)]
 exact tM T0
 have hs34f:(inB 0 ((q.vals.length:Int)-1) q.rz[i].wr)=false:=by simpa using hs34
 refine Za<|W2<|on (dF' hs29)<|oS bT<|W3<|oF (iv q.vals.length)<|oU ((q.vals.length:Int)-1)<|oK (Zo (Zv q.rz[i].rd 0 ((q.vals.length:Int)-1)) hs32) [iv q.rz[i].rd,iv 0,iv ((q.vals.length:Int)-1)] rfl rfl<|oW<|oF bF<|W2<|on (dF' hs33)<|oS bT<|W3<|oF (iv q.vals.length)<|oU ((q.vals.length:Int)-1)<|oK (Zo (Zv q.rz[i].wr 0 ((q.vals.length:Int)-1)) hs34f) [iv q.rz[i].wr,iv 0,iv ((q.vals.length:Int)-1)] rfl rfl<|oW<|oW<|oS bT<|kN 276 [(1,.box 27 (cFm q)),(2,.box 79 (cRu q.rz[i]))] [(2,bx 1),(5,bx 2),(6,iv q.sz.length),(198,bT)] ?_
 rw [show (!decide (shE q.vals.length q.rz[i].rd q.rz[i].wr=0))=true by first | (simp [shE,ixB,hs1,hs10,hs17,hs26,hs27,hs28,hs29,hs32,hs33,hs34f];done) | (simp [shE,ixB,inB,hs1,hs10,hs17,hs26,hs27,hs28,hs29,hs32,hs33,hs34f];done)]
 exact tM T0
 have hs32f:(inB 0 ((q.vals.length:Int)-1) q.rz[i].rd)=false:=by simpa using hs32
 refine Za<|W2<|on (dF' hs29)<|oS bT<|W3<|oF (iv q.vals.length)<|oU ((q.vals.length:Int)-1)<|oK (Zo (Zv q.rz[i].rd 0 ((q.vals.length:Int)-1)) hs32f) [iv q.rz[i].rd,iv 0,iv ((q.vals.length:Int)-1)] rfl rfl<|oW<|oF bT<|V5<|V5<|qK<|qK<|qK<|oS bT<|kN 276 [(1,.box 27 (cFm q)),(2,.box 79 (cRu q.rz[i]))] [(2,bx 1),(5,bx 2),(6,iv q.sz.length),(198,bT)] ?_
 rw [show (!decide (shE q.vals.length q.rz[i].rd q.rz[i].wr=0))=true by first | (simp [shE,ixB,hs1,hs10,hs17,hs26,hs27,hs28,hs29,hs32f];done) | (simp [shE,ixB,inB,hs1,hs10,hs17,hs26,hs27,hs28,hs29,hs32f];done)]
 exact tM T0
 refine Zf ?_
 by_cases hs35:shE q.vals.length q.rz[i].rd q.rz[i].wr=0
 rw [dT hs35]
 refine jL<|jM<|Za<|W4<|oW<|oK (K5 q.msgs.length (by omega) q.rz[i].send HR.send) [Zc q.rz[i].send,iv q.msgs.length] rfl rfl<|oS (iv<|setE q.msgs.length q.rz[i].send)<|jD ?_
 by_cases hs36:setE q.msgs.length q.rz[i].send=0
 refine Za<|oW<|on (dT' hs36)<|jF<|jM<|Za<|W3<|oK (K5 q.sz.length (by omega) q.rz[i].left HR.left) [Zc q.rz[i].left,iv q.sz.length] rfl rfl<|oS (iv<|setE q.sz.length q.rz[i].left)<|jD ?_
 by_cases hs37:setE q.sz.length q.rz[i].left=0
 refine Za<|oW<|on (dT' hs37)<|jF<|jM<|Za<|W3<|oK (K5 q.sz.length (by omega) q.rz[i].right HR.right) [Zc q.rz[i].right,iv q.sz.length] rfl rfl<|oS (iv<|setE q.sz.length q.rz[i].right)<|jD ?_
 by_cases hs38:setE q.sz.length q.rz[i].right=0
 refine Za<|oW<|on (dT' hs38)<|jF<|jM<|Za<|W3<|oK (K5 q.sz.length (by omega) q.rz[i].pz HR.pz) [Zc q.rz[i].pz,iv q.sz.length] rfl rfl<|oS (iv<|setE q.sz.length q.rz[i].pz)<|jD ?_
 by_cases hs39:setE q.sz.length q.rz[i].pz=0
 refine Za<|oW<|on (dT' hs39)<|jF<|jM<|Ye (True) (ofL [(1,.box 27 (cFm q)),(2,.box 79 (cRu q.rz[i]))]) (ofT 276 [(2,bx 1),(5,bx 2),(247,bv (!decide (poX q q.rz[i]=0)))]) ?_<|λ_ => ?_
 by_cases hs40:q.rz[i].kind=4
 by_cases hs41:(inB 0 2 q.rz[i].pos)=true
 by_cases hs42:q.rz[i].pos=0
 refine Za<|W2<|oe (dT hs40)<|oS bT<|W2<|oK (Zo (Zv q.rz[i].pos 0 2) hs41) [iv q.rz[i].pos,iv 0,iv 2] rfl rfl<|oF bF<|W2<|on (dT' hs42)<|oS bF<|V3<|W2<|oS bF<|kN 276 [(1,.box 27 (cFm q)),(2,.box 79 (cRu q.rz[i]))] [(2,bx 1),(5,bx 2),(247,bF)] ?_
 rw [show (!decide (poX q q.rz[i]=0))=false by first | (simp [poX,posE,hs1,hs10,hs17,hs26,hs27,hs28,hs35,hs36,hs37,hs38,hs39,hs40,hs41,hs42];done) | (simp [poX,posE,inB,hs1,hs10,hs17,hs26,hs27,hs28,hs35,hs36,hs37,hs38,hs39,hs40,hs41,hs42];done)]
 exact tM T0
 by_cases hs43:q.top=3
 refine Za<|W2<|oe (dT hs40)<|oS bT<|W2<|oK (Zo (Zv q.rz[i].pos 0 2) hs41) [iv q.rz[i].pos,iv 0,iv 2] rfl rfl<|oF bF<|W2<|on (dF' hs42)<|oS bT<|W2<|oe (dT hs43)<|W2<|oS bT<|kN 276 [(1,.box 27 (cFm q)),(2,.box 79 (cRu q.rz[i]))] [(2,bx 1),(5,bx 2),(247,bT)] ?_
 rw [show (!decide (poX q q.rz[i]=0))=true by first | (simp [poX,posE,hs1,hs10,hs17,hs26,hs27,hs28,hs35,hs36,hs37,hs38,hs39,hs40,hs41,hs42,hs43];done) | (simp [poX,posE,inB,hs1,hs10,hs17,hs26,hs27,hs28,hs35,hs36,hs37,hs38,hs39,hs40,hs41,hs42,hs43];done)]
 exact tM T0
 refine Za<|W2<|oe (dT hs40)<|oS bT<|W2<|oK (Zo (Zv q.rz[i].pos 0 2) hs41) [iv q.rz[i].pos,iv 0,iv 2] rfl rfl<|oF bF<|W2<|on (dF' hs42)<|oS bT<|W2<|oe (dF hs43)<|W2<|oS bF<|kN 276 [(1,.box 27 (cFm q)),(2,.box 79 (cRu q.rz[i]))] [(2,bx 1),(5,bx 2),(247,bF)] ?_
 rw [show (!decide (poX q q.rz[i]=0))=false by first | (simp [poX,posE,hs1,hs10,hs17,hs26,hs27,hs28,hs35,hs36,hs37,hs38,hs39,hs40,hs41,hs42,hs43];done) | (simp [poX,posE,inB,hs1,hs10,hs17,hs26,hs27,hs28,hs35,hs36,hs37,hs38,hs39,hs40,hs41,hs42,hs43];done)]
 exact tM T0
 have hs41f:(inB 0 2 q.rz[i].pos)=false:=by simpa using hs41
 refine Za<|W2<|oe (dT hs40)<|oS bT<|W2<|oK (Zo (Zv q.rz[i].pos 0 2) hs41f) [iv q.rz[i].pos,iv 0,iv 2] rfl rfl<|oF bT<|V5<|V3<|oW<|oS bT<|kN 276 [(1,.box 27 (cFm q)),(2,.box 79 (cRu q.rz[i]))] [(2,bx 1),(5,bx 2),(247,bT)] ?_
 rw [show (!decide (poX q q.rz[i]=0))=true by first | (simp [poX,posE,hs1,hs10,hs17,hs26,hs27,hs28,hs35,hs36,hs37,hs38,hs39,hs40,hs41f];done) | (simp [poX,posE,inB,hs1,hs10,hs17,hs26,hs27,hs28,hs35,hs36,hs37,hs38,hs39,hs40,hs41f];done)]
 exact tM T0
 refine Za<|W2<|oe (dF hs40)<|oS bF<|V5<|V5<|V4<|oS bF<|kN 276 [(1,.box 27 (cFm q)),(2,.box 79 (cRu q.rz[i]))] [(2,bx 1),(5,bx 2),(247,bF)] ?_
 rw [show (!decide (poX q q.rz[i]=0))=false by first | (simp [poX,posE,hs1,hs10,hs17,hs26,hs27,hs28,hs35,hs36,hs37,hs38,hs39,hs40];done) | (simp [poX,posE,inB,hs1,hs10,hs17,hs26,hs27,hs28,hs35,hs36,hs37,hs38,hs39,hs40];done)]
 exact tM T0
 refine Zf ?_
 by_cases hs44:poX q q.rz[i]=0
 rw [dT hs44]
 refine jL<|jM<|Ye (True) (ofL [(1,.box 27 (cFm q)),(2,.box 79 (cRu q.rz[i]))]) (ofT 276 [(2,bx 1),(5,bx 2),(261,bv (dir4 q q.rz[i]))]) ?_<|λ_ => ?_
 by_cases hs45:q.rz[i].kind=5
 by_cases hs46:q.top=4
 by_cases hs47:(inB 3 4 q.rz[i].dir)=true
 refine Za<|W2<|oe (dT hs45)<|oS bT<|W2<|oe (dT hs46)<|oF bT<|W2<|oK (Zo (Zv q.rz[i].dir 3 4) hs47) [iv q.rz[i].dir,iv 3,iv 4] rfl rfl<|oW<|oS bF<|kN 276 [(1,.box 27 (cFm q)),(2,.box 79 (cRu q.rz[i]))] [(2,bx 1),(5,bx 2),(261,bF)] ?_
 rw [show (dir4 q q.rz[i])=false by first | (simp [dir4,hs1,hs10,hs17,hs26,hs27,hs28,hs35,hs36,hs37,hs38,hs39,hs44,hs45,hs46,hs47];done) | (simp [dir4,inB,hs1,hs10,hs17,hs26,hs27,hs28,hs35,hs36,hs37,hs38,hs39,hs44,hs45,hs46,hs47];done)]
 exact tM T0
 have hs47f:(inB 3 4 q.rz[i].dir)=false:=by simpa using hs47
 refine Za<|W2<|oe (dT hs45)<|oS bT<|W2<|oe (dT hs46)<|oF bT<|W2<|oK (Zo (Zv q.rz[i].dir 3 4) hs47f) [iv q.rz[i].dir,iv 3,iv 4] rfl rfl<|oW<|oS bT<|kN 276 [(1,.box 27 (cFm q)),(2,.box 79 (cRu q.rz[i]))] [(2,bx 1),(5,bx 2),(261,bT)] ?_
 rw [show (dir4 q q.rz[i])=true by first | (simp [dir4,hs1,hs10,hs17,hs26,hs27,hs28,hs35,hs36,hs37,hs38,hs39,hs44,hs45,hs46,hs47f];done) | (simp [dir4,inB,hs1,hs10,hs17,hs26,hs27,hs28,hs35,hs36,hs37,hs38,hs39,hs44,hs45,hs46,hs47f];done)]
 exact tM T0
 refine Za<|W2<|oe (dT hs45)<|oS bT<|W2<|oe (dF hs46)<|oF bF<|V4<|oS bF<|kN 276 [(1,.box 27 (cFm q)),(2,.box 79 (cRu q.rz[i]))] [(2,bx 1),(5,bx 2),(261,bF)] ?_
 rw [show (dir4 q q.rz[i])=false by first | (simp [dir4,hs1,hs10,hs17,hs26,hs27,hs28,hs35,hs36,hs37,hs38,hs39,hs44,hs45,hs46];done) | (simp [dir4,inB,hs1,hs10,hs17,hs26,hs27,hs28,hs35,hs36,hs37,hs38,hs39,hs44,hs45,hs46];done)]
 exact tM T0
 refine Za<|W2<|oe (dF hs45)<|oS bF<|V3<|oF bF<|V4<|oS bF<|kN 276 [(1,.box 27 (cFm q)),(2,.box 79 (cRu q.rz[i]))] [(2,bx 1),(5,bx 2),(261,bF)] ?_
 rw [show (dir4 q q.rz[i])=false by first | (simp [dir4,hs1,hs10,hs17,hs26,hs27,hs28,hs35,hs36,hs37,hs38,hs39,hs44,hs45];done) | (simp [dir4,inB,hs1,hs10,hs17,hs26,hs27,hs28,hs35,hs36,hs37,hs38,hs39,hs44,hs45];done)]
 exact tM T0
 refine Zf ?_
 by_cases hs48:(dir4 q q.rz[i])=true
 rw [hs48]
 exact jK<|oS (iv 1)<|jE<|Zb<|Zd results109 (.tmp rfl)<|congrArg (λx:Int=>AV.v (.int .i64 x))<|Eq.trans ((((Ke ⟨⟨⟨HRX,Yz HG (by omega)⟩,hs27⟩,hs28⟩).trans (rest_6 hs35 hs36 hs37 hs38 hs39)).trans (by rw [hs44,ZD])).trans (diX_4 hs48)).symm (Z0 hs1 HNO hs10 hs17).symm
 have hs48f:(dir4 q q.rz[i])=false:=by simpa using hs48
 rw [hs48f]
 refine jL<|jM<|Ye (True) (ofL []) (ofT 276 [(275,bv (dirO q q.rz[i]))]) ?_<|λ_ => ?_
 by_cases hs49:q.rz[i].kind=5
 by_cases hs50:q.top=4
 refine Za<|W2<|oe (dT hs49)<|oS bT<|W2<|on (dT' hs50)<|oF bF<|V4<|oS bF<|kN 276 [] [(275,bF)] ?_
 rw [show (dirO q q.rz[i])=false by first | (simp [dirO,hs1,hs10,hs17,hs26,hs27,hs28,hs35,hs36,hs37,hs38,hs39,hs44,hs48f,hs49,hs50];done) | (simp [dirO,inB,hs1,hs10,hs17,hs26,hs27,hs28,hs35,hs36,hs37,hs38,hs39,hs44,hs48f,hs49,hs50];done)]
 exact YN T0<|Zk [] _
 by_cases hs51:(inB 1 2 q.rz[i].dir)=true
 refine Za<|W2<|oe (dT hs49)<|oS bT<|W2<|on (dF' hs50)<|oF bT<|W2<|oK (Zo (Zv q.rz[i].dir 1 2) hs51) [iv q.rz[i].dir,iv 1,iv 2] rfl rfl<|oW<|oS bF<|kN 276 [] [(275,bF)] ?_
 rw [show (dirO q q.rz[i])=false by first | (simp [dirO,hs1,hs10,hs17,hs26,hs27,hs28,hs35,hs36,hs37,hs38,hs39,hs44,hs48f,hs49,hs50,hs51];done) | (simp [dirO,inB,hs1,hs10,hs17,hs26,hs27,hs28,hs35,hs36,hs37,hs38,hs39,hs44,hs48f,hs49,hs50,hs51];done)]
 exact YN T0<|Zk [] _
 have hs51f:(inB 1 2 q.rz[i].dir)=false:=by simpa using hs51
 refine Za<|W2<|oe (dT hs49)<|oS bT<|W2<|on (dF' hs50)<|oF bT<|W2<|oK (Zo (Zv q.rz[i].dir 1 2) hs51f) [iv q.rz[i].dir,iv 1,iv 2] rfl rfl<|oW<|oS bT<|kN 276 [] [(275,bT)] ?_
 rw [show (dirO q q.rz[i])=true by first | (simp [dirO,hs1,hs10,hs17,hs26,hs27,hs28,hs35,hs36,hs37,hs38,hs39,hs44,hs48f,hs49,hs50,hs51f];done) | (simp [dirO,inB,hs1,hs10,hs17,hs26,hs27,hs28,hs35,hs36,hs37,hs38,hs39,hs44,hs48f,hs49,hs50,hs51f];done)]
 exact YN T0<|Zk [] _
 refine Za<|W2<|oe (dF hs49)<|oS bF<|V3<|oF bF<|V4<|oS bF<|kN 276 [] [(275,bF)] ?_
 rw [show (dirO q q.rz[i])=false by first | (simp [dirO,hs1,hs10,hs17,hs26,hs27,hs28,hs35,hs36,hs37,hs38,hs39,hs44,hs48f,hs49];done) | (simp [dirO,inB,hs1,hs10,hs17,hs26,hs27,hs28,hs35,hs36,hs37,hs38,hs39,hs44,hs48f,hs49];done)]
 exact YN T0<|Zk [] _
 refine Zf ?_
 by_cases hs52:(dirO q q.rz[i])=true
 rw [hs52]
 exact jK<|oS (iv 1)<|jE<|Zb<|Zd results109 (.tmp rfl)<|congrArg (λx:Int=>AV.v (.int .i64 x))<|Eq.trans ((((Ke ⟨⟨⟨HRX,Yz HG (by omega)⟩,hs27⟩,hs28⟩).trans (rest_6 hs35 hs36 hs37 hs38 hs39)).trans (by rw [hs44,ZD])).trans (diX_O hs52)).symm (Z0 hs1 HNO hs10 hs17).symm
 have hs52f:(dirO q q.rz[i])=false:=by simpa using hs52
 rw [hs52f]
 exact jL<|jB<|oS (iv 0)<|jE<|Zd results109 (.tmp rfl)<|congrArg (λx:Int=>AV.v (.int .i64 x))<|Eq.trans ((((Ke ⟨⟨⟨HRX,Yz HG (by omega)⟩,hs27⟩,hs28⟩).trans (rest_6 hs35 hs36 hs37 hs38 hs39)).trans (by rw [hs44,ZD])).trans (diX_0 hs48f hs52f)).symm (Z0 hs1 HNO hs10 hs17).symm
 rw [dF hs44]
 exact jK<|oS (iv 1)<|jE<|Zb<|Zd results109 (.tmp rfl)<|congrArg (λx:Int=>AV.v (.int .i64 x))<|Eq.trans (((Ke ⟨⟨⟨HRX,Yz HG (by omega)⟩,hs27⟩,hs28⟩).trans (rest_6 hs35 hs36 hs37 hs38 hs39)).trans ((Ki _ hs44).trans (poX_one hs44))).symm (Z0 hs1 HNO hs10 hs17).symm
 exact Za<|oW<|on (dF' hs39)<|jG<|oF (iv<|setE q.sz.length q.rz[i].pz)<|jE<|Zb<|Zd results109 (.tmp rfl)<|congrArg (λx:Int=>AV.v (.int .i64 x))<|Eq.trans ((Ke ⟨⟨⟨HRX,Yz HG (by omega)⟩,hs27⟩,hs28⟩).trans (rest_5 hs35 hs36 hs37 hs38 hs39)).symm (Z0 hs1 HNO hs10 hs17).symm
 exact Za<|oW<|on (dF' hs38)<|jG<|oF (iv<|setE q.sz.length q.rz[i].right)<|jE<|Zb<|Zd results109 (.tmp rfl)<|congrArg (λx:Int=>AV.v (.int .i64 x))<|Eq.trans ((Ke ⟨⟨⟨HRX,Yz HG (by omega)⟩,hs27⟩,hs28⟩).trans (rest_4 hs35 hs36 hs37 hs38)).symm (Z0 hs1 HNO hs10 hs17).symm
 exact Za<|oW<|on (dF' hs37)<|jG<|oF (iv<|setE q.sz.length q.rz[i].left)<|jE<|Zb<|Zd results109 (.tmp rfl)<|congrArg (λx:Int=>AV.v (.int .i64 x))<|Eq.trans ((Ke ⟨⟨⟨HRX,Yz HG (by omega)⟩,hs27⟩,hs28⟩).trans (rest_3 hs35 hs36 hs37)).symm (Z0 hs1 HNO hs10 hs17).symm
 exact Za<|oW<|on (dF' hs36)<|jG<|oF (iv<|setE q.msgs.length q.rz[i].send)<|jE<|Zb<|Zd results109 (.tmp rfl)<|congrArg (λx:Int=>AV.v (.int .i64 x))<|Eq.trans ((Ke ⟨⟨⟨HRX,Yz HG (by omega)⟩,hs27⟩,hs28⟩).trans (rest_2 hs35 hs36)).symm (Z0 hs1 HNO hs10 hs17).symm
 rw [dF hs35]
 exact jK<|oS (iv 5)<|jE<|Zb<|Zd results109 (.tmp rfl)<|congrArg (λx:Int=>AV.v (.int .i64 x))<|Eq.trans ((Ke ⟨⟨⟨HRX,Yz HG (by omega)⟩,hs27⟩,hs28⟩).trans ((rest_1 hs35).trans (shE_five hs35))).symm (Z0 hs1 HNO hs10 hs17).symm
 exact Za<|oW<|on (dF' hs28)<|jG<|oF (iv<|setE q.sz.length q.rz[i].fa)<|jE<|Zb<|Zd results109 (.tmp rfl)<|congrArg (λx:Int=>AV.v (.int .i64 x))<|Eq.trans (part_4 ⟨⟨HRX,Yz HG (by omega)⟩,hs27⟩ hs28).symm (Z0 hs1 HNO hs10 hs17).symm
 exact Za<|oW<|on (dF' hs27)<|jG<|oF (iv<|setE q.sz.length q.rz[i].ex)<|jE<|Zb<|Zd results109 (.tmp rfl)<|congrArg (λx:Int=>AV.v (.int .i64 x))<|Eq.trans (part_3 ⟨HRX,Yz HG (by omega)⟩ hs27).symm (Z0 hs1 HNO hs10 hs17).symm
 have hs17f:(rstB q.rz[i] q.sz.length)=false:=by simpa using hs17
 rw [hs17f]
 exact jK<|oS (iv 5)<|jE<|Zb<|Zd results109 (.tmp rfl)<|congrArg (λx:Int=>AV.v (.int .i64 x))<|(Zd5 hs1 HNO hs10 hs17f).symm
 have hs10f:(rkindB q.rz[i] q.top)=false:=by simpa using hs10
 rw [hs10f]
 exact jK<|oS (iv 6)<|jE<|Zb<|Zd results109 (.tmp rfl)<|congrArg (λx:Int=>AV.v (.int .i64 x))<|(Zfa hs1 HNO hs10f).symm
 have hs1f:(nameB q.rz[i].nm.toList)=false:=by simpa using hs1
 exact Za<|W2<|oK (Zo (Yq q.rz[i].nm HR.nm) hs1f) [sv q.rz[i].nm] rfl rfl<|oS bT<|jG<|oS (iv 2)<|jE<|Zb<|Zd results109 (.tmp rfl)<|congrArg (λx:Int=>AV.v (.int .i64 x))<|(Zd6<|.inl hs1f).symm
end Go.Proofs.YtmpgnibfhjdfpaaGreat
