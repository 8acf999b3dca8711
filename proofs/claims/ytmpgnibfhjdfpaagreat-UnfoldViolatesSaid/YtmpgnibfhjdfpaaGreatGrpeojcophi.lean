import Derived.Test.YtmpgnibfhjdfpaaGreatGrplhompblc
import Derived.Test.YtmpgnibfhjdfpaaGreatGrpcjplndde
set_option linter.all false
namespace Go.Proofs.YtmpgnibfhjdfpaaGreat
open Go.RowKit Go.Deep Tryz
variable {J:World->Prop}
abbrev Ky (x0:Fm):List (Nat × ABlk):=[(1,.box 27 (cFm x0))]
set_option maxRecDepth 100000 in
set_option maxHeartbeats 6400000 in
theorem ZbS {q:Fm} (HQ:FmOk q):Ctr Tryz.prog J 71 [.agg (cFm q)] (iv<|valE q):=by
 have hNL:=nmA_len q
 have l1:=HQ.lstates
 have l2:=HQ.lmsgs
 have l3:=HQ.lvals
 have l4:=HQ.lrules
 have l5:=HQ.lres
 have l6:=HQ.linit
 have l7:=HQ.lleader
 refine Zn func71 rfl (pN (Zg<|Zy q) pZ) (n:=178) rfl (by simp)<|λw0 => jB<|oX 1 (.agg (cFm q))<|oS (iv 0)<|jD<|Zi ?_
 by_cases hs1:(nameB q.nm.toList)=true
 refine Za<|W2<|oK (Zo (Yq q.nm HQ.nm) hs1) [sv q.nm] rfl rfl<|oS bF<|jF<|jM<|Ye (True) (ofL [(1,.box 27 (cFm q))]) (ofT 178 [(1,bx 1),(2,iv 0),(23,bv (argB q))]) ?_<|λ_ => ?_
 by_cases hs2:(inB 1 4 q.top)=true
 by_cases hs3:(inB 0 3 q.fzz)=true
 refine Za<|W2<|oK (Zo (Zv q.top 1 4) hs2) [iv q.top,iv 1,iv 4] rfl rfl<|oF bF<|W2<|oK (Zo (Zv q.fzz 0 3) hs3) [iv q.fzz,iv 0,iv 3] rfl rfl<|oW<|oS bF<|kN 178 [(1,.box 27 (cFm q))] [(1,bx 1),(2,iv 0),(23,bF)] ?_
 rw [show (argB q)=false by simp only [argB,Bool.or_true,Bool.true_or,Bool.or_false,Bool.false_or,Bool.and_true,Bool.true_and,Bool.and_false,Bool.false_and,Bool.not_true,Bool.not_false,hs1,hs2,hs3]]
 exact tM T0
 have hs3f:(inB 0 3 q.fzz)=false:=by simpa using hs3
 refine Za<|W2<|oK (Zo (Zv q.top 1 4) hs2) [iv q.top,iv 1,iv 4] rfl rfl<|oF bF<|W2<|oK (Zo (Zv q.fzz 0 3) hs3f) [iv q.fzz,iv 0,iv 3] rfl rfl<|oW<|oS bT<|kN 178 [(1,.box 27 (cFm q))] [(1,bx 1),(2,iv 0),(23,bT)] ?_
 rw [show (argB q)=true by simp only [argB,Bool.or_true,Bool.true_or,Bool.or_false,Bool.false_or,Bool.and_true,Bool.true_and,Bool.and_false,Bool.false_and,Bool.not_true,Bool.not_false,hs1,hs2,hs3f]]
 exact tM T0
 have hs2f:(inB 1 4 q.top)=false:=by simpa using hs2
 refine Za<|W2<|oK (Zo (Zv q.top 1 4) hs2f) [iv q.top,iv 1,iv 4] rfl rfl<|oF bT<|V4<|oS bT<|kN 178 [(1,.box 27 (cFm q))] [(1,bx 1),(2,iv 0),(23,bT)] ?_
 rw [show (argB q)=true by simp only [argB,Bool.or_true,Bool.true_or,Bool.or_false,Bool.false_or,Bool.and_true,Bool.true_and,Bool.and_false,Bool.false_and,Bool.not_true,Bool.not_false,hs1,hs2f]]
 exact tM T0
 refine Zf ?_
 by_cases hs4:(argB q)=true
 rw [hs4]
 exact jK<|oS (iv 1)<|jE<|Zb<|Zd results71 (.tmp rfl)<|congrArg (λx:Int=>AV.v (.int .i64 x))<|(valE_ar hs1 hs4).symm
 have hs4f:(argB q)=false:=by simpa using hs4
 rw [hs4f]
 refine jL<|jM ?_
 by_cases hs5:(q.sz.length:Int)=0
 exact Za<|W3<|oe (dT hs5)<|jG<|oS (iv 1)<|jE<|Zb<|Zd results71 (.tmp rfl)<|congrArg (λx:Int=>AV.v (.int .i64 x))<|(valE_st hs1 hs4f hs5).symm
 refine Za<|W3<|oe (dF hs5)<|jF<|jM<|Ye (True) (ofL [(1,.box 27 (cFm q))]) (ofT 178 [(1,bx 1),(2,iv 0),(55,bv (tooI q))]) ?_<|λ_ => ?_
 by_cases hs6:6<(q.sz.length:Int)
 refine Za<|W3<|og (dT hs6)<|oS bT<|V4<|oF bT<|V4<|oF bT<|V4<|oF bT<|V3<|qK<|oS bT<|kN 178 [(1,.box 27 (cFm q))] [(1,bx 1),(2,iv 0),(55,bT)] ?_
 rw [show (tooI q)=true by simp only [tooI,Bool.or_true,Bool.true_or,Bool.or_false,Bool.false_or,Bool.and_true,Bool.true_and,Bool.and_false,Bool.false_and,Bool.not_true,Bool.not_false,hs1,hs4f,decide_eq_false hs5,decide_eq_true hs6]]
 exact tM T0
 by_cases hs7:3<(q.msgs.length:Int)
 refine Za<|W3<|og (dF hs6)<|oS bF<|W3<|og (dT hs7)<|oF bT<|V4<|oF bT<|V4<|oF bT<|V3<|qK<|oS bT<|kN 178 [(1,.box 27 (cFm q))] [(1,bx 1),(2,iv 0),(55,bT)] ?_
 rw [show (tooI q)=true by simp only [tooI,Bool.or_true,Bool.true_or,Bool.or_false,Bool.false_or,Bool.and_true,Bool.true_and,Bool.and_false,Bool.false_and,Bool.not_true,Bool.not_false,hs1,hs4f,decide_eq_false hs5,decide_eq_false hs6,decide_eq_true hs7]]
 exact tM T0
 by_cases hs8:3<(q.vals.length:Int)
 refine Za<|W3<|og (dF hs6)<|oS bF<|W3<|og (dF hs7)<|oF bF<|W3<|og (dT hs8)<|oF bT<|V4<|oF bT<|V3<|qK<|oS bT<|kN 178 [(1,.box 27 (cFm q))] [(1,bx 1),(2,iv 0),(55,bT)] ?_
 rw [show (tooI q)=true by simp only [tooI,Bool.or_true,Bool.true_or,Bool.or_false,Bool.false_or,Bool.and_true,Bool.true_and,Bool.and_false,Bool.false_and,Bool.not_true,Bool.not_false,hs1,hs4f,decide_eq_false hs5,decide_eq_false hs6,decide_eq_false hs7,decide_eq_true hs8]]
 exact tM T0
 by_cases hs9:4<(q.res.length:Int)
 refine Za<|W3<|og (dF hs6)<|oS bF<|W3<|og (dF hs7)<|oF bF<|W3<|og (dF hs8)<|oF bF<|W3<|og (dT hs9)<|oF bT<|V3<|qK<|oS bT<|kN 178 [(1,.box 27 (cFm q))] [(1,bx 1),(2,iv 0),(55,bT)] ?_
 rw [show (tooI q)=true by simp only [tooI,Bool.or_true,Bool.true_or,Bool.or_false,Bool.false_or,Bool.and_true,Bool.true_and,Bool.and_false,Bool.false_and,Bool.not_true,Bool.not_false,hs1,hs4f,decide_eq_false hs5,decide_eq_false hs6,decide_eq_false hs7,decide_eq_false hs8,decide_eq_true hs9]]
 exact tM T0
 by_cases hs10:8<(q.rz.length:Int)
 refine Za<|W3<|og (dF hs6)<|oS bF<|W3<|og (dF hs7)<|oF bF<|W3<|og (dF hs8)<|oF bF<|W3<|og (dF hs9)<|oF bF<|W3<|og (dT hs10)<|oS bT<|kN 178 [(1,.box 27 (cFm q))] [(1,bx 1),(2,iv 0),(55,bT)] ?_
 rw [show (tooI q)=true by simp only [tooI,Bool.or_true,Bool.true_or,Bool.or_false,Bool.false_or,Bool.and_true,Bool.true_and,Bool.and_false,Bool.false_and,Bool.not_true,Bool.not_false,hs1,hs4f,decide_eq_false hs5,decide_eq_false hs6,decide_eq_false hs7,decide_eq_false hs8,decide_eq_false hs9,decide_eq_true hs10]]
 exact tM T0
 refine Za<|W3<|og (dF hs6)<|oS bF<|W3<|og (dF hs7)<|oF bF<|W3<|og (dF hs8)<|oF bF<|W3<|og (dF hs9)<|oF bF<|W3<|og (dF hs10)<|oS bF<|kN 178 [(1,.box 27 (cFm q))] [(1,bx 1),(2,iv 0),(55,bF)] ?_
 rw [show (tooI q)=false by simp only [tooI,Bool.or_true,Bool.true_or,Bool.or_false,Bool.false_or,Bool.and_true,Bool.true_and,Bool.and_false,Bool.false_and,Bool.not_true,Bool.not_false,hs1,hs4f,decide_eq_false hs5,decide_eq_false hs6,decide_eq_false hs7,decide_eq_false hs8,decide_eq_false hs9,decide_eq_false hs10]]
 exact tM T0
 refine Zf ?_
 by_cases hs11:(tooI q)=true
 rw [hs11]
 exact jK<|oS (iv 4)<|jE<|Zb<|Zd results71 (.tmp rfl)<|congrArg (λx:Int=>AV.v (.int .i64 x))<|(valE_tb hs1 hs4f hs5 hs11).symm
 have hs11f:(tooI q)=false:=by simpa using hs11
 rw [hs11f]
 refine jL<|Zi ?_
 refine tD<|dR (Zaw (z:=1) (k:=2) true rfl U22<|by kernel_rfl) T0 T0 rfl<|dW<|dS (ZN q.sz)<|dR (K1 (n:=0) (cs:=[]) (fr:=true) (m:=q.sz.length) (ds:=(q.sz.map sv)) (⟨U22,by kernel_rfl,by decide⟩:Elt Tryz.prog 22 9 1 16) (.tmp 56) (.tmp 58) rfl (λ_ d hd=>by obtain ⟨x,_,rfl⟩:=List.mem_map.1 hd;rfl) (by have:=Wi hs11f;unfold maxLen;omega) (by have:=Wi hs11f;omega) (λd hd=>by obtain ⟨x,_,rfl⟩:=List.mem_map.1 hd;rfl) (es:=(q.sz.map sv))<|by rw [Zbx];rfl) ⟨I0,I0,T0⟩ ⟨rfl,T0⟩ rfl<|dW<|dS (ZN q.msgs)<|dR (K1 (n:=(0+q.sz.length)) (cs:=(q.sz.map sv)) (fr:=true) (m:=q.msgs.length) (ds:=(q.msgs.map sv)) (⟨U22,by kernel_rfl,by decide⟩:Elt Tryz.prog 22 9 1 16) (.tmp 59) (.tmp 61) rfl (λ_ d hd=>by obtain ⟨x,_,rfl⟩:=List.mem_map.1 hd;rfl) (by have:=Wi hs11f;unfold maxLen;omega) (by have:=Wi hs11f;omega) (λd hd=>by obtain ⟨x,_,rfl⟩:=List.mem_map.1 hd;rfl) (es:=((q.sz++q.msgs).map sv))<|by rw [Zbx,<- List.map_append]) ⟨I0,I0,T0⟩ ⟨rfl,T0⟩ rfl<|dW<|dS (ZN q.vals)<|dR (K1 (n:=(0+q.sz.length+q.msgs.length)) (cs:=((q.sz++q.msgs).map sv)) (fr:=true) (m:=q.vals.length) (ds:=(q.vals.map sv)) (⟨U22,by kernel_rfl,by decide⟩:Elt Tryz.prog 22 9 1 16) (.tmp 62) (.tmp 64) rfl (λ_ d hd=>by obtain ⟨x,_,rfl⟩:=List.mem_map.1 hd;rfl) (by have:=Wi hs11f;unfold maxLen;omega) (by have:=Wi hs11f;omega) (λd hd=>by obtain ⟨x,_,rfl⟩:=List.mem_map.1 hd;rfl) (es:=((nmA q).map sv))<|by rw [Zbx];exact nmA_map q) ⟨I0,I0,T0⟩ ⟨rfl,T0⟩ rfl<|dS (.own 2)<|eD ?_
 refine jC<|jB<|oS (iv 0)<|jA<|Ye (nmOk (nmA q) (nmA q).length=true) (ofL<|Ky q) (ofT 178 [(1,bx 1)]) ?_<|λNOK => ?_
 refine Zh<|Zw (σ:={k:Nat // k<=(nmA q).length/\nmOk (nmA q) k=true}) (λs=>(ofL (Ky q),ofT 178 [(1,bx 1),(3,.fr (.sl 1 (0+q.sz.length+q.msgs.length+q.vals.length) ((nmA q).map sv))),(4,iv s.1)])) (λs=>(nmA q).length-s.1) ⟨0,Nat.zero_le _,rfl⟩ (Zk _ _)<|λs => ?_
 obtain ⟨k,hk0,hs0⟩:=s
 show ETri J w0 (ofL<|Ky q) (ofT 178 [(1,bx 1),(3,.fr (.sl 1 (0+q.sz.length+q.msgs.length+q.vals.length) ((nmA q).map sv))),(4,iv k)]) _
 have hT:=Wi hs11f
 refine jM ?_
 by_cases hs12:(k:Int)<(((0+q.sz.length+q.msgs.length+q.vals.length):Nat):Int)
 refine Za<|oW<|oS (.fr (.sl 1 (0+q.sz.length+q.msgs.length+q.vals.length) ((nmA q).map sv)))<|YA rfl (nLs 67 U22) ⟨.inr (.inl rfl),T0⟩ T0 T0<|ol (dT hs12)<|jH<|Zj<|jC<|Zh<|Zi ?_
 by_cases hs13:(nameB (nmA q)[k].toList)=true
 by_cases hs14:(hasT ((nmA q).take k) (nmA q)[k])=true
 refine tD<|dS (.fr (.sl 1 (0+q.sz.length+q.msgs.length+q.vals.length) ((nmA q).map sv)))<|dS (iv k)<|dR (xS (k*1) 72 73 U22) ⟨.inr (.inl rfl),I0,T0⟩ T0 T0<|dL (sv<|(nmA q)[k]) (Zr (nmA q)<|by omega)<|dk (Zo (Yq ((nmA q)[k])<|WJ HQ _<|List.getElem_mem<|by omega) hs13) [sv ((nmA q)[k])] rfl rfl<|dW<|dS bF<|dS (.fr (.sl 1 (0+q.sz.length+q.msgs.length+q.vals.length) ((nmA q).map sv)))<|dS (iv k)<|dR (WQ (l:=0) (h:=k) (ds:=((nmA q).take k).map sv) (.tmp 79) none (some<|.tmp 80) rfl U22 (by kernel_rfl) [] [(.tmp 80,iv k)] (.inl ⟨rfl,rfl,rfl⟩) (.inr ⟨_,_,rfl,rfl⟩) (Nat.zero_le _) (by omega)<|by simp [List.map_take]) ⟨.inr (.inl rfl),I0,T0⟩ T0 T0<|dS (.fr (.sl 1 (0+q.sz.length+q.msgs.length+q.vals.length) ((nmA q).map sv)))<|dS (iv k)<|dR (xS (k*1) 82 83 U22) ⟨.inr (.inl rfl),I0,T0⟩ T0 T0<|dL (sv<|(nmA q)[k]) (Zr (nmA q)<|by omega)<|dk (Zo (ZeW (WJ HQ) (k:=k) (by omega) _) hs14) [.sl 1 (k-0) (((nmA q).take k).map sv),sv ((nmA q)[k])] rfl rfl<|dS bT<|eD ?_
 exact Zf<|jK<|oS (iv 2)<|jE<|Ze<|Zb<|Zb<|Ze<|ZW<|Zb<|Zd results71 (.tmp rfl)<|congrArg (λx:Int=>AV.v (.int .i64 x))<|((W6 ⟨hs1,hs4f,hs5,hs11f⟩).trans (val2_nm<|Zfi (k:=k) (by omega) (by omega)<|.inr hs14)).symm
 have hs14f:(hasT ((nmA q).take k) (nmA q)[k])=false:=by simpa using hs14
 refine tD<|dS (.fr (.sl 1 (0+q.sz.length+q.msgs.length+q.vals.length) ((nmA q).map sv)))<|dS (iv k)<|dR (xS (k*1) 72 73 U22) ⟨.inr (.inl rfl),I0,T0⟩ T0 T0<|dL (sv<|(nmA q)[k]) (Zr (nmA q)<|by omega)<|dk (Zo (Yq ((nmA q)[k])<|WJ HQ _<|List.getElem_mem<|by omega) hs13) [sv ((nmA q)[k])] rfl rfl<|dW<|dS bF<|dS (.fr (.sl 1 (0+q.sz.length+q.msgs.length+q.vals.length) ((nmA q).map sv)))<|dS (iv k)<|dR (WQ (l:=0) (h:=k) (ds:=((nmA q).take k).map sv) (.tmp 79) none (some<|.tmp 80) rfl U22 (by kernel_rfl) [] [(.tmp 80,iv k)] (.inl ⟨rfl,rfl,rfl⟩) (.inr ⟨_,_,rfl,rfl⟩) (Nat.zero_le _) (by omega)<|by simp [List.map_take]) ⟨.inr (.inl rfl),I0,T0⟩ T0 T0<|dS (.fr (.sl 1 (0+q.sz.length+q.msgs.length+q.vals.length) ((nmA q).map sv)))<|dS (iv k)<|dR (xS (k*1) 82 83 U22) ⟨.inr (.inl rfl),I0,T0⟩ T0 T0<|dL (sv<|(nmA q)[k]) (Zr (nmA q)<|by omega)<|dk (Zo (ZeW (WJ HQ) (k:=k) (by omega) _) hs14f) [.sl 1 (k-0) (((nmA q).take k).map sv),sv ((nmA q)[k])] rfl rfl<|dS bF<|eD ?_
 exact Zf<|Zu rfl<|Zj<|Zs<|Zf<|Za<|oS (iv k)<|oV ((k+1:Nat):Int)<|oS (iv (k+1:Nat))<|jA<|Zp ⟨k+1,by omega,Zel (by omega) hs0 hs13 hs14f⟩ (show (nmA q).length-(k+1)<(nmA q).length-k by omega)<|Zk _ _
 have hs13f:(nameB (nmA q)[k].toList)=false:=by simpa using hs13
 exact tD<|dS (.fr (.sl 1 (0+q.sz.length+q.msgs.length+q.vals.length) ((nmA q).map sv)))<|dS (iv k)<|dR (xS (k*1) 72 73 U22) ⟨.inr (.inl rfl),I0,T0⟩ T0 T0<|dL (sv<|(nmA q)[k]) (Zr (nmA q)<|by omega)<|dk (Zo (Yq ((nmA q)[k])<|WJ HQ _<|List.getElem_mem<|by omega) hs13f) [sv ((nmA q)[k])] rfl rfl<|dW<|dS bT<|dK<|dK<|dK<|dK<|dK<|dK<|dK<|dK<|dS bT<|eD<|Zf<|jK<|oS (iv 2)<|jE<|Ze<|Zb<|Zb<|Ze<|ZW<|Zb<|Zd results71 (.tmp rfl)<|congrArg (λx:Int=>AV.v (.int .i64 x))<|((W6 ⟨hs1,hs4f,hs5,hs11f⟩).trans (val2_nm<|Zfi (k:=k) (by omega) (by omega)<|.inl hs13f)).symm
 refine Za<|oW<|oS (.fr (.sl 1 (0+q.sz.length+q.msgs.length+q.vals.length) ((nmA q).map sv)))<|YA rfl (nLs 67 U22) ⟨.inr (.inl rfl),T0⟩ T0 T0<|ol (dF hs12)<|kN 178 (Ky q) [(1,bx 1),(3,.fr (.sl 1 (0+q.sz.length+q.msgs.length+q.vals.length) ((nmA q).map sv))),(4,iv k),(69,bF)]<|Zf<|Zu rfl<|jO ?_
 exact YN (by have:k=(nmA q).length:=(by omega);subst this;exact hs0)<|Zk _ _
 refine jC<|Zi<|Ye (True) (ofL [(1,.box 27 (cFm q))]) (ofT 178 [(1,bx 1),(124,bv (misB q))]) ?_<|λ_ => ?_
 by_cases hs15:q.top=1
 by_cases hs16:0<(q.lz.length:Int)
 refine Za<|W2<|on (dT' hs15)<|oS bF<|V5<|V5<|V5<|V4<|qK<|qK<|oF bF<|W2<|oe (dT hs15)<|oS bT<|W3<|og (dT hs16)<|oW<|oS bT<|kN 178 [(1,.box 27 (cFm q))] [(1,bx 1),(124,bT)] ?_
 rw [show (misB q)=true by simp only [misB,Bool.or_true,Bool.true_or,Bool.or_false,Bool.false_or,Bool.and_true,Bool.true_and,Bool.and_false,Bool.false_and,Bool.not_true,Bool.not_false,hs1,hs4f,decide_eq_false hs5,hs11f,decide_eq_true hs15,decide_eq_true hs16]]
 exact tM T0
 refine Za<|W2<|on (dT' hs15)<|oS bF<|V5<|V5<|V5<|V4<|qK<|qK<|oF bF<|W2<|oe (dT hs15)<|oS bT<|W3<|og (dF hs16)<|oW<|oS bF<|kN 178 [(1,.box 27 (cFm q))] [(1,bx 1),(124,bF)] ?_
 rw [show (misB q)=false by simp only [misB,Bool.or_true,Bool.true_or,Bool.or_false,Bool.false_or,Bool.and_true,Bool.true_and,Bool.and_false,Bool.false_and,Bool.not_true,Bool.not_false,hs1,hs4f,decide_eq_false hs5,hs11f,decide_eq_true hs15,decide_eq_false hs16]]
 exact tM T0
 by_cases hs17:0<(q.msgs.length:Int)
 refine Za<|W2<|on (dF' hs15)<|oS bT<|W3<|og (dT hs17)<|oS bT<|V4<|oF bT<|V4<|oF bT<|V3<|oW<|oF bT<|V5<|V4<|oS bT<|kN 178 [(1,.box 27 (cFm q))] [(1,bx 1),(124,bT)] ?_
 rw [show (misB q)=true by simp only [misB,Bool.or_true,Bool.true_or,Bool.or_false,Bool.false_or,Bool.and_true,Bool.true_and,Bool.and_false,Bool.false_and,Bool.not_true,Bool.not_false,hs1,hs4f,decide_eq_false hs5,hs11f,decide_eq_false hs15,decide_eq_true hs17]]
 exact tM T0
 by_cases hs18:0<(q.vals.length:Int)
 refine Za<|W2<|on (dF' hs15)<|oS bT<|W3<|og (dF hs17)<|oS bF<|W3<|og (dT hs18)<|oF bT<|V4<|oF bT<|V3<|oW<|oF bT<|V5<|V4<|oS bT<|kN 178 [(1,.box 27 (cFm q))] [(1,bx 1),(124,bT)] ?_
 rw [show (misB q)=true by simp only [misB,Bool.or_true,Bool.true_or,Bool.or_false,Bool.false_or,Bool.and_true,Bool.true_and,Bool.and_false,Bool.false_and,Bool.not_true,Bool.not_false,hs1,hs4f,decide_eq_false hs5,hs11f,decide_eq_false hs15,decide_eq_false hs17,decide_eq_true hs18]]
 exact tM T0
 by_cases hs19:0<(q.res.length:Int)
 refine Za<|W2<|on (dF' hs15)<|oS bT<|W3<|og (dF hs17)<|oS bF<|W3<|og (dF hs18)<|oF bF<|W3<|og (dT hs19)<|oF bT<|V3<|oW<|oF bT<|V5<|V4<|oS bT<|kN 178 [(1,.box 27 (cFm q))] [(1,bx 1),(124,bT)] ?_
 rw [show (misB q)=true by simp only [misB,Bool.or_true,Bool.true_or,Bool.or_false,Bool.false_or,Bool.and_true,Bool.true_and,Bool.and_false,Bool.false_and,Bool.not_true,Bool.not_false,hs1,hs4f,decide_eq_false hs5,hs11f,decide_eq_false hs15,decide_eq_false hs17,decide_eq_false hs18,decide_eq_true hs19]]
 exact tM T0
 by_cases hs20:q.fzz=0
 refine Za<|W2<|on (dF' hs15)<|oS bT<|W3<|og (dF hs17)<|oS bF<|W3<|og (dF hs18)<|oF bF<|W3<|og (dF hs19)<|oF bF<|W2<|on (dT' hs20)<|oW<|oF bF<|W2<|oe (dF hs15)<|oS bF<|V4<|oW<|oS bF<|kN 178 [(1,.box 27 (cFm q))] [(1,bx 1),(124,bF)] ?_
 rw [show (misB q)=false by simp only [misB,Bool.or_true,Bool.true_or,Bool.or_false,Bool.false_or,Bool.and_true,Bool.true_and,Bool.and_false,Bool.false_and,Bool.not_true,Bool.not_false,hs1,hs4f,decide_eq_false hs5,hs11f,decide_eq_false hs15,decide_eq_false hs17,decide_eq_false hs18,decide_eq_false hs19,decide_eq_true hs20]]
 exact tM T0
 refine Za<|W2<|on (dF' hs15)<|oS bT<|W3<|og (dF hs17)<|oS bF<|W3<|og (dF hs18)<|oF bF<|W3<|og (dF hs19)<|oF bF<|W2<|on (dF' hs20)<|oW<|oF bT<|V5<|V4<|oS bT<|kN 178 [(1,.box 27 (cFm q))] [(1,bx 1),(124,bT)] ?_
 rw [show (misB q)=true by simp only [misB,Bool.or_true,Bool.true_or,Bool.or_false,Bool.false_or,Bool.and_true,Bool.true_and,Bool.and_false,Bool.false_and,Bool.not_true,Bool.not_false,hs1,hs4f,decide_eq_false hs5,hs11f,decide_eq_false hs15,decide_eq_false hs17,decide_eq_false hs18,decide_eq_false hs19,decide_eq_false hs20]]
 exact tM T0
 refine Zf ?_
 by_cases hs21:(misB q)=true
 rw [hs21]
 exact jK<|oS (iv 1)<|jE<|Zb<|Zd results71 (.tmp rfl)<|congrArg (λx:Int=>AV.v (.int .i64 x))<|((W6 ⟨hs1,hs4f,hs5,hs11f⟩).trans (val2_mis NOK hs21)).symm
 have hs21f:(misB q)=false:=by simpa using hs21
 rw [hs21f]
 refine jL<|jM<|Za<|oS (iv 0)<|jA<|Ye (resB2 q q.res.length=false) (ofL<|Ky q) (ofT 178 [(1,bx 1)]) ?_<|λRES => ?_
 refine Zh<|Zw (σ:={k:Nat // k<=q.res.length/\resB2 q k=false}) (λs=>(ofL (Ky q),ofT 178 [(1,bx 1),(5,iv s.1)])) (λs=>q.res.length-s.1) ⟨0,Nat.zero_le _,rfl⟩ (Zk _ _)<|λs => ?_
 obtain ⟨k,hk0,hs0⟩:=s
 show ETri J w0 (ofL<|Ky q) (ofT 178 [(1,bx 1),(5,iv k)]) _
 refine jM ?_
 by_cases hs22:(k:Int)<(q.res.length:Int)
 refine Za<|W4<|ol (dT hs22)<|jH<|Zj<|jC<|Zh<|Zi ?_
 by_cases hs23:(smL q.res[k].c q.res[k].n q.res[k].t q.res[k].f)=true
 exact Za<|oF (slA 4 cLn q.res)<|oS (iv k)<|oC (xS (k*4) 133 134 U23) I0 I0<|oA (Zl (z:=4) (.tmp 135) rfl U116 rfl (by kernel_rfl) (ZJ lenLn q.res k<|by omega) rfl) I0<|oK (Zo (few_c q.res[k]) hs23) [.agg (cLn q.res[k])] rfl rfl<|oS bF<|jI<|Zj<|Zs<|Zf<|Za<|oS (iv k)<|oV ((k+1:Nat):Int)<|oS (iv (k+1:Nat))<|jA<|Zp ⟨k+1,by omega,resB2_succ (by omega) hs0 hs23⟩ (show q.res.length-(k+1)<q.res.length-k by omega)<|Zk _ _
 have hs23f:(smL q.res[k].c q.res[k].n q.res[k].t q.res[k].f)=false:=by simpa using hs23
 exact Za<|oF (slA 4 cLn q.res)<|oS (iv k)<|oC (xS (k*4) 133 134 U23) I0 I0<|oA (Zl (z:=4) (.tmp 135) rfl U116 rfl (by kernel_rfl) (ZJ lenLn q.res k<|by omega) rfl) I0<|oK (Zo (few_c q.res[k]) hs23f) [.agg (cLn q.res[k])] rfl rfl<|oS bT<|jG<|oS (iv 4)<|jE<|Ze<|Zb<|Zb<|Ze<|ZW<|Zb<|Zd results71 (.tmp rfl)<|congrArg (λx:Int=>AV.v (.int .i64 x))<|((W6 ⟨hs1,hs4f,hs5,hs11f⟩).trans (val2_res NOK hs21f<|resB2_yes (k:=k) (by omega) hs23f)).symm
 refine Za<|W4<|ol (dF hs22)<|kN 178 (Ky q) [(1,bx 1),(5,iv k),(129,bF)]<|Zf<|Zu rfl<|jO ?_
 exact YN (by have:k=q.res.length:=(by omega);subst this;exact hs0)<|Zk _ _
 refine jC<|jB<|W4<|oW<|oK (K5 q.sz.length HQ.lstates q.init HQ.init) [Zc q.init,iv q.sz.length] rfl rfl<|oS (iv<|setE q.sz.length q.init)<|jD ?_
 by_cases hs24:setE q.sz.length q.init=0
 refine Za<|oW<|on (dT' hs24)<|jF<|jM ?_
 by_cases hs25:(q.init.length:Int)=0
 exact Za<|W3<|oe (dT hs25)<|jG<|oS (iv 1)<|jE<|Zb<|Zd results71 (.tmp rfl)<|congrArg (λx:Int=>AV.v (.int .i64 x))<|((W6 ⟨hs1,hs4f,hs5,hs11f⟩).trans ((Zco NOK hs21f RES).trans (val3_n hs25))).symm
 refine Za<|W3<|oe (dF hs25)<|jF<|jM<|Za<|W4<|oW<|oK (K5 q.sz.length HQ.lstates q.lz HQ.lz) [Zc q.lz,iv q.sz.length] rfl rfl<|oS (iv<|setE q.sz.length q.lz)<|jD ?_
 by_cases hs26:setE q.sz.length q.lz=0
 refine Za<|oW<|on (dT' hs26)<|jF<|jM<|Za<|oS (iv 0)<|jA<|Ye (rulOk q q.rz.length) (ofL<|Ky q) (ofT 178 [(1,bx 1)]) ?_<|λRUL => ?_
 refine Zh<|Zw (σ:={k:Nat // k<=q.rz.length/\rulOk q k}) (λs=>(ofL (Ky q),ofT 178 [(1,bx 1),(8,iv s.1)])) (λs=>q.rz.length-s.1) ⟨0,Nat.zero_le _,rulOk_zero q⟩ (Zk _ _)<|λs => ?_
 obtain ⟨k,hk0,hs0⟩:=s
 show ETri J w0 (ofL<|Ky q) (ofT 178 [(1,bx 1),(8,iv k)]) _
 refine jM ?_
 by_cases hs27:(k:Int)<(q.rz.length:Int)
 refine Za<|W4<|ol (dT hs27)<|jH<|Zj<|jC<|Zh<|jB<|W2<|oK (rrule_c HQ (i:=k)<|by omega) [.agg (cFm q),iv k] rfl rfl<|oS (iv<|rruleE q k q.rz[k])<|jD ?_
 by_cases hs28:rruleE q k q.rz[k]=0
 exact Za<|oW<|on (dT' hs28)<|jI<|Zj<|Zs<|Zf<|Za<|oS (iv k)<|oV ((k+1:Nat):Int)<|oS (iv (k+1:Nat))<|jA<|Zp ⟨k+1,by omega,rulOk_succ (by omega) hs0 hs28⟩ (show q.rz.length-(k+1)<q.rz.length-k by omega)<|Zk _ _
 exact Za<|oW<|on (dF' hs28)<|jG<|oF (iv<|rruleE q k q.rz[k])<|jE<|Ze<|Zb<|Zb<|Ze<|ZW<|Zb<|Zd results71 (.tmp rfl)<|congrArg (λx:Int=>AV.v (.int .i64 x))<|((W6 ⟨hs1,hs4f,hs5,hs11f⟩).trans ((Zco NOK hs21f RES).trans (val3_r ⟨hs24,hs25⟩ hs26 hs5 (k:=k) (by omega) hs0 hs28))).symm
 refine Za<|W4<|ol (dF hs27)<|kN 178 (Ky q) [(1,bx 1),(8,iv k),(165,bF)]<|Zf<|Zu rfl<|jO ?_
 exact YN (by have:k=q.rz.length:=(by omega);subst this;exact hs0)<|Zk _ _
 refine jC<|Zi ?_
 by_cases hs29:3<(((diffG q.rz).length:Nat):Int)
 exact Za<|oW<|oK (ZcM HQ (Wi hs11f).2.2.2.2 (ZcA hs5 RUL)) [.agg (cFm q)] rfl rfl<|YA rfl (nLs 175 U77) ⟨.inr (.inl rfl),T0⟩ T0 T0<|og (dT hs29)<|kN 178 [] [(177,bT)]<|Zf<|jK<|oS (iv 4)<|jE<|Zb<|Zd results71 (.tmp rfl)<|congrArg (λx:Int=>AV.v (.int .i64 x))<|((W6 ⟨hs1,hs4f,hs5,hs11f⟩).trans ((Zco NOK hs21f RES).trans (val3_d ⟨hs24,hs25⟩ hs26 hs5 RUL hs29))).symm
 exact Za<|oW<|oK (ZcM HQ (Wi hs11f).2.2.2.2 (ZcA hs5 RUL)) [.agg (cFm q)] rfl rfl<|YA rfl (nLs 175 U77) ⟨.inr (.inl rfl),T0⟩ T0 T0<|og (dF hs29)<|kN 178 [] [(177,bF)]<|jJ<|jB<|oS (iv 0)<|jE<|Zd results71 (.tmp rfl)<|congrArg (λx:Int=>AV.v (.int .i64 x))<|((W6 ⟨hs1,hs4f,hs5,hs11f⟩).trans ((Zco NOK hs21f RES).trans (val3_0 ⟨hs24,hs25⟩ hs26 hs5 RUL hs29))).symm
 exact Za<|oW<|on (dF' hs26)<|jG<|oF (iv<|setE q.sz.length q.lz)<|jE<|Zb<|Zd results71 (.tmp rfl)<|congrArg (λx:Int=>AV.v (.int .i64 x))<|((W6 ⟨hs1,hs4f,hs5,hs11f⟩).trans ((Zco NOK hs21f RES).trans (val3_l ⟨hs24,hs25⟩ hs26))).symm
 exact Za<|oW<|on (dF' hs24)<|jG<|oF (iv<|setE q.sz.length q.init)<|jE<|Zb<|Zd results71 (.tmp rfl)<|congrArg (λx:Int=>AV.v (.int .i64 x))<|((W6 ⟨hs1,hs4f,hs5,hs11f⟩).trans ((Zco NOK hs21f RES).trans (val3_i hs24))).symm
 have hs1f:(nameB q.nm.toList)=false:=by simpa using hs1
 exact Za<|W2<|oK (Zo (Yq q.nm HQ.nm) hs1f) [sv q.nm] rfl rfl<|oS bT<|jG<|oS (iv 2)<|jE<|Zb<|Zd results71 (.tmp rfl)<|congrArg (λx:Int=>AV.v (.int .i64 x))<|(valE_nm hs1f).symm
end Go.Proofs.YtmpgnibfhjdfpaaGreat
