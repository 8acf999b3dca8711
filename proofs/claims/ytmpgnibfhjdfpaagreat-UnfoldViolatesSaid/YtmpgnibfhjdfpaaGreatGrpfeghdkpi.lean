import Derived.Test.YtmpgnibfhjdfpaaGreatGrpekedlffa
import Derived.Test.YtmpgnibfhjdfpaaGreatGrpcjplndde
import Derived.Test.YtmpgnibfhjdfpaaGreatGrpmpnnchka
import Derived.Test.YtmpgnibfhjdfpaaGreatGrpblkdaogj
import Derived.Test.YtmpgnibfhjdfpaaGreatGrphhmpajpk
import Derived.Test.YtmpgnibfhjdfpaaGreatGrpeojcophi
set_option linter.all false
namespace Go.Proofs.YtmpgnibfhjdfpaaGreat
open Go.RowKit Go.Deep Tryz
set_option maxRecDepth 100000
set_option maxHeartbeats 6400000
variable {J:World->Prop}
theorem ZcG {x sh:List Int} (HX:InOk x) (HS:InOk sh):Ctr Tryz.prog J 58 [Zc x,.el ([Zc sh]) 0] (bv<|decide<|sh=x):=by
 refine Zn func58 rfl (pN (Zx _)<|pN (.el (ZE<|by intro X hX;rw [List.mem_singleton.1 hX];exact Zx _)) pZ) (n:=7) rfl (by simp)<|λw0 => ?_
 exact kW 7 [] [(0,Zc x),(1,.el ([Zc sh]) 0)]<|jB<|oS bF<|jD<|Za<|W2<|oK (eqIntsG sh x HS HX) [Zc sh,Zc x] rfl rfl<|oS (bv<|decide<|sh=x)<|jE<|Zd results58 (.tmp rfl)<|rfl
variable {sh:List Int}
theorem ixShape_c {S:List (List Int)} (hS:∀ x∈S,InOk x) (lS:S.length<=5) (HS:InOk sh):Ctr Tryz.prog J 57 [slA 1 cLi S,.clo 58 [.el ([Zc sh]) 0]] (iv<|Rd.ixP S λx=>decide (sh=x)):=by
 refine Zn func57 rfl (pN (Yj Zbp _)<|pN (.clo (λj hj=>match j,hj with | 0,_ => .el (ZE<|by intro X hX;rw [List.mem_singleton.1 hX];exact Zx _))) pZ) (n:=19) rfl (by simp)<|λw0 => ?_
 refine kW 19 [] [(0,slA 1 cLi S),(1,.clo 58 [.el ([Zc sh]) 0])]<|jB<|oS (iv 0)<|jD<|jB<|oF (iv S.length)<|oS (iv 0)<|kN 19 [] [(0,slA 1 cLi S),(1,.clo 58 [.el ([Zc sh]) 0]),(4,iv 0),(7,iv S.length),(8,iv 0)]<|Zf<|Zh<|Zw (σ:={k:Nat // k<=S.length/\Rd.noP S (λx=>decide (sh=x)) k}) (λs=>(ofL [],ofT 19 [(0,slA 1 cLi S),(1,.clo 58 [.el ([Zc sh]) 0]),(7,iv S.length),(8,iv s.1)])) (λs=>S.length-s.1) ⟨0,Nat.zero_le _,Rd.noP_zero _ _⟩ (Zk [] _)<|λs => ?_
 obtain ⟨k,hk0,hs0⟩:=s
 show ETri J w0 (ofL []) (ofT 19 [(0,slA 1 cLi S),(1,.clo 58 [.el ([Zc sh]) 0]),(7,iv S.length),(8,iv k)]) _
 refine Zi ?_
 by_cases hs1:(k:Int)<(S.length:Int)
 refine Za<|ol (dT hs1)<|jD<|ZM rfl<|Zj<|jC<|Zh<|jB<|oF (iv k)<|jD ?_
 by_cases hs2:(decide<|sh=S[k])=true
 exact Za<|oS (.clo 58 [.el ([Zc sh]) 0])<|oS (slA 1 cLi S)<|oS (iv k)<|oC (xS (k*1) 12 13 U50) I0 I0<|oL (Zc S[k]) (fT lenLi S k 0)<|oC (WS (c := .tmp 11) (xs := #[.tmp 15]) (Cs:=[.el ([Zc sh]) 0]) [] (Zo (ZcG (hS S[k] (List.getElem_mem<|by omega)) HS) hs2) rfl (by kernel_rfl) rfl (Xs:=[Zc S[k]]) rfl rfl rfl rfl rfl) I0 I0<|jG<|oF (iv k)<|jE<|Ze<|Zb<|Zb<|Ze<|Zb<|Zd results57 (.tmp rfl)<|congrArg (λx:Int=>AV.v (.int .i64 x))<|(Rd.ixP_at (by omega) hs0 hs2).symm
 have hs2f:(decide<|sh=S[k])=false:=by simpa using hs2
 refine Za<|oS (.clo 58 [.el ([Zc sh]) 0])<|oS (slA 1 cLi S)<|oS (iv k)<|oC (xS (k*1) 12 13 U50) I0 I0<|oL (Zc S[k]) (fT lenLi S k 0)<|oC (WS (c := .tmp 11) (xs := #[.tmp 15]) (Cs:=[.el ([Zc sh]) 0]) [] (Zo (ZcG (hS S[k] (List.getElem_mem<|by omega)) HS) hs2f) rfl (by kernel_rfl) rfl (Xs:=[Zc S[k]]) rfl rfl rfl rfl rfl) I0 I0<|jI<|Zj<|Zs<|Zf<|Za<|oV ((k+1:Nat):Int)<|oS (iv (k+1:Nat))<|kN 19 [] [(0,slA 1 cLi S),(1,.clo 58 [.el ([Zc sh]) 0]),(5,iv k),(7,iv S.length),(8,iv (k+1:Nat)),(9,bT),(16,bF)]<|Zf ?_
 exact Zp ⟨k+1,by omega,Rd.noP_succ (by omega) hs0 hs2f⟩ (show S.length-(k+1)<S.length-k by omega)<|Zk [] _
 exact Za<|ol (dF hs1)<|jD<|Zu rfl<|jO<|jC<|Za<|oS (iv<|-1)<|jE<|Zd results57 (.tmp rfl)<|congrArg (λx:Int=>AV.v (.int .i64 x))<|(Rd.ixP_none (k:=k) (by omega) hs0).symm
theorem Rd.shT_ok (top n:Int):∀ x∈Ns.shT top n,InOk x:=by
 unfold Ns.shT
 split
 ·exact λx hx=>(Sh.shX_mem n x hx).2
 intro x hx;cases hx
theorem Rd.shT_len (top n:Int):(Ns.shT top n).length<=5:=by
 unfold Ns.shT
 split
 ·exact Sh.shX_len n
 simp
variable {p:Fm}{n t f:Int}
theorem Zfe (HS:InOk sh) (lsh:sh.length<=100):Ctr Tryz.prog J 33 [.el (Ns.sysC p n t f) 0,Zc sh] (.tup [iv (Rd.shI p.top (Ns.shT p.top<|Ns.cntE p n f) sh),bv (Rd.shB p.top (Ns.shT p.top<|Ns.cntE p n f) sh)]):=by
 refine Zn func33 rfl (pN (show Plain (.el (Ns.sysC p n t f) 0) from .el (ZE<|Ns.plain_sys p n t f))<|pN (Zx _) pZ) (n:=26) rfl (by simp)<|λw0 => kW 26 [] [(0,.el (Ns.sysC p n t f) 0),(1,Zc sh)]<|jB<|oX 1 (Zc sh)<|oS (iv 0)<|oS bF<|jD<|Zi ?_
 by_cases hs1:p.top=4
 refine Za<|W4<|oW<|on (dT' hs1)<|jF<|jB<|W2<|oF (slA 1 cLi<|Ns.shT p.top<|Ns.cntE p n f)<|oA (Zag (xs := #[.tmp 3]) (Xs:=[bx 1]) rfl rfl) I0<|YA rfl (sc #[.tmp 19,.tmp 20] [(1,.box 24 [Zc sh])] (ixShape_c (Rd.shT_ok _ _) (Rd.shT_len _ _) HS) [slA 1 cLi (Ns.shT p.top<|Ns.cntE p n f),.clo 58 [bx 1]] rfl rfl rfl) ⟨I0,I0,I0,T0⟩ ⟨rfl,T0⟩ T0<|oS (iv<|Rd.ixP (Ns.shT p.top<|Ns.cntE p n f) λx=>decide (sh=x))<|jD<|Za ?_
 refine oS (iv<|Rd.ixP (Ns.shT p.top<|Ns.cntE p n f) λx=>decide (sh=x))<|oC (ZdV (.tmp 22) (.const (.int .i64 0)) rfl) I0 I0<|oS (iv<|Rd.ixP (Ns.shT p.top<|Ns.cntE p n f) λx=>decide (sh=x))<|oC (ZbD rfl rfl) I0 I0<|oS (iv<|max (Rd.ixP (Ns.shT p.top<|Ns.cntE p n f) λx=>decide (sh=x)) 0)<|oS (bv<|decide<|0<=(Rd.ixP (Ns.shT p.top<|Ns.cntE p n f) λx=>decide (sh=x)))<|jE<|ZY results33 (.tmp rfl) (.tmp rfl) ?_
 rw [Rd.shI_tree hs1,Rd.shB_tree hs1]
 exact rfl
 refine Za<|W4<|oW<|on (dF' hs1)<|jH<|Zi<|tD<|dW<|dS (iv sh.length)<|dC (ZH rfl rfl) I0 I0<|dS (iv 0)<|dS (bv<|decide<|(sh.length:Int)=0)<|eD<|Zf<|jN<|ZY results33 (.tmp rfl) (.tmp rfl) ?_
 rw [Rd.shI_no hs1,Rd.shB_no hs1]
 exact rfl
theorem Rd.mf_t (h:Rd.looseB p=true):Rd.mfE p-1=1048576:=by
 unfold Rd.looseB at h
 rw [Bool.or_eq_true,decide_eq_true_iff,decide_eq_true_iff] at h
 unfold Rd.mfE;rw [if_pos h];rfl
theorem Rd.mf_in (p:Fm):1<=Rd.mfE p/\Rd.mfE p<=1048577:=by
 unfold Rd.mfE;split<;>omega
theorem Rd.mf_f (h:Rd.looseB p=false):Rd.mfE p-1=0:=by
 unfold Rd.looseB at h
 rw [Bool.or_eq_false_iff,decide_eq_false_iff_not,decide_eq_false_iff_not] at h
 unfold Rd.mfE;rw [if_neg (not_or.2 h)];rfl
abbrev YM (x0:Cf) (x1:Fm):List (Nat × ABlk):=[(1,.box 36 (Rd.cCg x0)),(2,.box 62 [iv 0,iv 0,iv 0,iv 0,iv 0,iv 0,iv 0,iv 0,iv 0,iv 0,iv 0,iv 0,iv 0,iv 0,iv 0,iv 0]),(3,.box 27 [sv x1.nm,iv x1.top,ZN x1.sz,ZN x1.msgs,ZN x1.vals,iv x1.fzz,slA 4 cLn x1.res,Zc x1.init,Zc x1.lz,slA 18 cRu x1.rz])]
abbrev XRd3_h2 (x0:Cf):List (Nat × ABlk):=[(1,.box 36 (Rd.cCg x0)),(2,.box 62 [iv 0,iv 0,iv 0,iv 0,iv 0,iv 0,iv 0,iv 0,iv 0,iv 0,iv 0,iv 0,iv 0,iv 0,iv 0,iv 0])]
abbrev XRd3_h3 (x0:Fm) (x1:Int) (x2:Int) (x3:Cf):List (Nat × AV):=[(3,bx 1),(4,bx 2),(5,bF),(7,iv (Rd.shI x0.top (Ns.shT x0.top (Ns.cntE x0 x1 x2)) x3.sh))]
abbrev Zfz:List (Nat × AV):=[(3,bx 1),(4,bx 2),(5,bF),(10,bx 4)]
abbrev WO (x0:Fm) (x1:Int) (x2:Int) (x3:Cf):List (Nat × AV):=[(3,bx 1),(4,bx 2),(5,bF),(6,bx 3),(7,iv (Rd.shI x0.top (Ns.shT x0.top (Ns.cntE x0 x1 x2)) x3.sh))]
abbrev ZdA (x0:Fm) (x1:Int) (x2:Int) (x3:Cf):List (Nat × AV):=[(3,bx 1),(4,bx 2),(5,bF),(6,bx 3),(7,iv (Rd.shI x0.top (Ns.shT x0.top (Ns.cntE x0 x1 x2)) x3.sh)),(51,bT)]
variable {c:Cf}
set_option maxRecDepth 100000 in
set_option maxHeartbeats 6400000 in
theorem read_c (HC:Rd.CgOk c):Ctr Tryz.prog J 16 [.el (Ns.sysC p n t f) 0,.agg (Rd.cCg c)] (.tup [.agg (Rd.cfZ (Rd.rdY p n f c) (Rd.shI p.top (Ns.shT p.top<|Ns.cntE p n f) c.sh) c),bv (Rd.rdX p n f c)]):=by
 have hmf:=Rd.mf_in p
 refine Zn func16 rfl (pN (show Plain (.el (Ns.sysC p n t f) 0) from .el (ZE<|Ns.plain_sys p n t f))<|pN (Zg<|Rd.plain_cg c) pZ) (n:=124) rfl (by simp)<|λw0 => ?_
 refine kW 124 [] [(0,.el (Ns.sysC p n t f) 0),(1,.agg (Rd.cCg c))]<|jB<|oX 1 (.agg (Rd.cCg c))<|oZ 2 Z62<|oS bF<|jD<|Za<|oW<|oF (.el (Ns.sysC p n t f) 0)<|oA (Zl (z:=10) (ds:=[sv p.nm,iv p.top,ZN p.sz,ZN p.msgs,ZN p.vals,iv p.fzz,slA 4 cLn p.res,Zc p.init,Zc p.lz,slA 18 cRu p.rz]) (.tmp 13) rfl U27 rfl (by kernel_rfl) (by kernel_rfl) rfl) I0<|oZ 3 Z27<|oY<|kN 124 (YM c p) [(0,.el (Ns.sysC p n t f) 0),(3,bx 1),(4,bx 2),(5,bF),(6,bx 3)]<|jC<|Za<|W3<|oK (Zfe HC.sh HC.lsh) [.el (Ns.sysC p n t f) 0,Zc c.sh] rfl rfl<|oS (.tup [iv (Rd.shI p.top (Ns.shT p.top<|Ns.cntE p n f) c.sh),bv (Rd.shB p.top (Ns.shT p.top<|Ns.cntE p n f) c.sh)]) ?_
 refine oW<|oW<|oS (iv<|Rd.shI p.top (Ns.shT p.top<|Ns.cntE p n f) c.sh)<|oS (bv<|Rd.shB p.top (Ns.shT p.top<|Ns.cntE p n f) c.sh)<|jD<|Zi ?_
 by_cases hs1:(Rd.shB p.top (Ns.shT p.top<|Ns.cntE p n f) c.sh)=true
 rw [hs1]
 refine kW 124 (YM c p) [(0,.el (Ns.sysC p n t f) 0),(3,bx 1),(4,bx 2),(5,bF),(6,bx 3),(7,iv (Rd.shI p.top (Ns.shT p.top<|Ns.cntE p n f) c.sh)),(8,bT)] ?_
 by_cases hs2:(c.st.length:Int)=(Ns.cntE p n f)
 by_cases hs3:(Rd.belB c.st (p.sz.length:Int))=true
 by_cases hs4:c.cor=(n-f)
 refine tD<|dW<|dW<|dS bF<|dW<|dW<|dW<|dW<|dW<|dW<|dW<|dn (dT' hs2)<|dW<|dS bF<|dW<|dW<|dW<|dW<|dW<|dk (Zo (Yh c.st<|Nat.le_trans HC.lst<|by decide) hs3) [Zc c.st,iv p.sz.length] rfl rfl<|dW<|dW<|dS bF<|dW<|dW<|dW<|dW<|dW<|dW<|dn (dT' hs4)<|dS bF<|eD<|kW 124 (YM c p) [(3,bx 1),(4,bx 2),(5,bF),(6,bx 3),(7,iv (Rd.shI p.top (Ns.shT p.top<|Ns.cntE p n f) c.sh)),(51,bF)]<|jJ<|jM ?_
 by_cases hs5:(c.se.length:Int)=(p.msgs.length:Int)
 by_cases hs6:(Rd.belB c.se 1048577)=true
 refine Za<|W4<|W2<|on (dT' hs5)<|oS bF<|W2<|oK (Zo (Yh c.se<|Nat.le_trans HC.lse<|by decide) hs6) [Zc c.se,iv 1048577] rfl rfl<|oW<|oS bF<|jF<|jB<|oS (iv 0)<|kN 124 (YM c p) [(3,bx 1),(4,bx 2),(5,bF),(6,bx 3),(7,iv (Rd.shI p.top (Ns.shT p.top<|Ns.cntE p n f) c.sh)),(9,iv 0)]<|Zf<|jM ?_
 refine Ye (True) (ofL [(1,.box 36 (Rd.cCg c)),(2,.box 62 [iv 0,iv 0,iv 0,iv 0,iv 0,iv 0,iv 0,iv 0,iv 0,iv 0,iv 0,iv 0,iv 0,iv 0,iv 0,iv 0]),(3,.box 27 [sv p.nm,iv p.top,ZN p.sz,ZN p.msgs,ZN p.vals,iv p.fzz,slA 4 cLn p.res,Zc p.init,Zc p.lz,slA 18 cRu p.rz])]) (ofT 124 [(3,bx 1),(4,bx 2),(5,bF),(6,bx 3),(7,iv (Rd.shI p.top (Ns.shT p.top<|Ns.cntE p n f) c.sh)),(9,iv 0),(74,bv (Rd.looseB p))]) ?_<|λ_ => ?_
 by_cases hs7:p.fzz=1
 refine Za<|W2<|oe (dT hs7)<|oS bT<|V3<|oS bT<|kN 124 [(1,.box 36 (Rd.cCg c)),(2,.box 62 [iv 0,iv 0,iv 0,iv 0,iv 0,iv 0,iv 0,iv 0,iv 0,iv 0,iv 0,iv 0,iv 0,iv 0,iv 0,iv 0]),(3,.box 27 [sv p.nm,iv p.top,ZN p.sz,ZN p.msgs,ZN p.vals,iv p.fzz,slA 4 cLn p.res,Zc p.init,Zc p.lz,slA 18 cRu p.rz])] [(3,bx 1),(4,bx 2),(5,bF),(6,bx 3),(7,iv (Rd.shI p.top (Ns.shT p.top<|Ns.cntE p n f) c.sh)),(9,iv 0),(74,bT)] ?_
 rw [show (Rd.looseB p)=true by simp only [Rd.looseB,hs7,decide_true,decide_false,Bool.true_or,Bool.false_or]]
 exact tM T0
 refine Za<|W2<|oe (dF hs7)<|oS bF<|oF (iv p.fzz)<|gC (ZH rfl rfl) I0 I0<|oS (bv<|decide<|p.fzz=2)<|kN 124 [(1,.box 36 (Rd.cCg c)),(2,.box 62 [iv 0,iv 0,iv 0,iv 0,iv 0,iv 0,iv 0,iv 0,iv 0,iv 0,iv 0,iv 0,iv 0,iv 0,iv 0,iv 0]),(3,.box 27 [sv p.nm,iv p.top,ZN p.sz,ZN p.msgs,ZN p.vals,iv p.fzz,slA 4 cLn p.res,Zc p.init,Zc p.lz,slA 18 cRu p.rz])] [(3,bx 1),(4,bx 2),(5,bF),(6,bx 3),(7,iv (Rd.shI p.top (Ns.shT p.top<|Ns.cntE p n f) c.sh)),(9,iv 0),(74,bv (decide<|p.fzz=2))] ?_
 rw [show (Rd.looseB p)=(decide<|p.fzz=2) by simp only [Rd.looseB,hs7,decide_true,decide_false,Bool.true_or,Bool.false_or]]
 exact tM T0
 refine Zf<|Ye (True) (ofL<|YM c p) (ofT 124 [(3,bx 1),(4,bx 2),(5,bF),(6,bx 3),(7,iv (Rd.shI p.top (Ns.shT p.top<|Ns.cntE p n f) c.sh)),(9,iv (Rd.mfE p-1))]) ?_<|λ_ => ?_
 by_cases hs8:(Rd.looseB p)=true
 rw [hs8]
 refine kW 124 [(1,.box 36 (Rd.cCg c)),(2,.box 62 [iv 0,iv 0,iv 0,iv 0,iv 0,iv 0,iv 0,iv 0,iv 0,iv 0,iv 0,iv 0,iv 0,iv 0,iv 0,iv 0]),(3,.box 27 [sv p.nm,iv p.top,ZN p.sz,ZN p.msgs,ZN p.vals,iv p.fzz,slA 4 cLn p.res,Zc p.init,Zc p.lz,slA 18 cRu p.rz])] [(3,bx 1),(4,bx 2),(5,bF),(6,bx 3),(7,iv (Rd.shI p.top (Ns.shT p.top<|Ns.cntE p n f) c.sh)),(9,iv 0),(74,bT)]<|ZM rfl<|Za<|oS (iv 1048576)<|kN 124 [(1,.box 36 (Rd.cCg c)),(2,.box 62 [iv 0,iv 0,iv 0,iv 0,iv 0,iv 0,iv 0,iv 0,iv 0,iv 0,iv 0,iv 0,iv 0,iv 0,iv 0,iv 0]),(3,.box 27 [sv p.nm,iv p.top,ZN p.sz,ZN p.msgs,ZN p.vals,iv p.fzz,slA 4 cLn p.res,Zc p.init,Zc p.lz,slA 18 cRu p.rz])] [(3,bx 1),(4,bx 2),(5,bF),(6,bx 3),(7,iv (Rd.shI p.top (Ns.shT p.top<|Ns.cntE p n f) c.sh)),(9,iv 1048576)] ?_
 rw [Rd.mf_t hs8]
 exact tM T0
 have hs8f:(Rd.looseB p)=false:=by simpa using hs8
 rw [hs8f]
 refine kW 124 [(1,.box 36 (Rd.cCg c)),(2,.box 62 [iv 0,iv 0,iv 0,iv 0,iv 0,iv 0,iv 0,iv 0,iv 0,iv 0,iv 0,iv 0,iv 0,iv 0,iv 0,iv 0]),(3,.box 27 [sv p.nm,iv p.top,ZN p.sz,ZN p.msgs,ZN p.vals,iv p.fzz,slA 4 cLn p.res,Zc p.init,Zc p.lz,slA 18 cRu p.rz])] [(3,bx 1),(4,bx 2),(5,bF),(6,bx 3),(7,iv (Rd.shI p.top (Ns.shT p.top<|Ns.cntE p n f) c.sh)),(9,iv 0),(74,bF)]<|Zu rfl<|Zj ?_
 rw [Rd.mf_f hs8f]
 exact tM T0
 refine jC<|Zi ?_
 by_cases hs9:(c.fa.length:Int)=(p.msgs.length:Int)
 by_cases hs10:(Rd.belB c.fa<|(Rd.mfE p-1)+1)=true
 refine Za<|W4<|W2<|on (dT' hs9)<|oS bF<|W2<|oS (iv<|Rd.mfE p-1)<|oV ((Rd.mfE p-1)+1)<|oK (Zo (Yh c.fa<|Nat.le_trans HC.lfa<|by decide) hs10) [Zc c.fa,iv ((Rd.mfE p-1)+1)] rfl rfl<|oW<|oS bF<|jF<|jM ?_
 by_cases hs11:c.val<0
 refine Za<|W2<|ol (dT hs11)<|oS bT<|V5<|V2<|oS bT<|jG<|YA rfl (YQ [] #[.int .i64 0,.int .i64 0,.int .i64 0,.int .i64 0,.int .i64 0,.int .i64 0,.int .i64 0,.int .i64 0,.int .i64 0,.int .i64 0,.int .i64 0,.int .i64 0,.int .i64 0,.int .i64 0,.int .i64 0,.int .i64 0] rfl rfl (by kernel_rfl) rfl) T0 T0 T0<|oY<|oS bF<|kN 124 (XRd3_h2 c) (XRd3_h3 p n f c)<|Zf<|ZQ<|Zb<|ZY results16 (.cellS rfl rfl U62 rfl (z:=16) (by kernel_rfl) rfl (by decide)) (.tmp rfl) ?_
 rw [Int.sub_add_cancel] at hs10
 have hr:(Rd.rdX p n f c)=false:=by simp only [Rd.rdX,Rd.rdB,hs1,hs2,hs3,hs4,hs5,hs6,hs9,hs10,hs11,decide_true,decide_false,Bool.and_true,Bool.true_and,Bool.false_and,Bool.and_false,Bool.not_true,Bool.not_false,if_true,if_false,true_or,or_true,or_self,not_true_eq_false,not_false_eq_true,ite_true,ite_false,or_false,false_or]
 rw [show (Rd.rdY p n f c)=false from hr,hr]
 exact rfl
 by_cases hs12:(max (p.vals.length:Int) 1)<=c.val
 refine Za<|W2<|ol (dF hs11)<|oS bF<|W3<|oF (iv p.vals.length)<|gC (ZdV (.tmp 99) (.const (.int .i64 1)) rfl) I0 I0<|oh (dT hs12)<|oS bT<|jG<|YA rfl (YQ [] #[.int .i64 0,.int .i64 0,.int .i64 0,.int .i64 0,.int .i64 0,.int .i64 0,.int .i64 0,.int .i64 0,.int .i64 0,.int .i64 0,.int .i64 0,.int .i64 0,.int .i64 0,.int .i64 0,.int .i64 0,.int .i64 0] rfl rfl (by kernel_rfl) rfl) T0 T0 T0<|oY<|oS bF<|kN 124 (XRd3_h2 c) (XRd3_h3 p n f c)<|Zf<|jN<|ZY results16 (.cellS rfl rfl U62 rfl (z:=16) (by kernel_rfl) rfl (by decide)) (.tmp rfl) ?_
 rw [Int.sub_add_cancel] at hs10
 have hr:(Rd.rdX p n f c)=false:=by simp only [Rd.rdX,Rd.rdB,hs1,hs2,hs3,hs4,hs5,hs6,hs9,hs10,hs11,hs12,decide_true,decide_false,Bool.and_true,Bool.true_and,Bool.false_and,Bool.and_false,Bool.not_true,Bool.not_false,if_true,if_false,true_or,or_true,or_self,not_true_eq_false,not_false_eq_true,ite_true,ite_false,or_false,false_or]
 rw [show (Rd.rdY p n f c)=false from hr,hr]
 exact rfl
 refine Za<|W2<|ol (dF hs11)<|oS bF<|W3<|oF (iv p.vals.length)<|gC (ZdV (.tmp 99) (.const (.int .i64 1)) rfl) I0 I0<|oh (dF hs12)<|oS bF<|jF<|jB<|oS (iv<|Rd.shI p.top (Ns.shT p.top<|Ns.cntE p n f) c.sh)<|oF (iv c.val)<|oC (YQ [(.tmp 104,.int .i64 (Rd.shI p.top (Ns.shT p.top<|Ns.cntE p n f) c.sh)),(.tmp 106,.int .i64 c.val)] #[.int .i64 (Rd.shI p.top (Ns.shT p.top<|Ns.cntE p n f) c.sh),.int .i64 0,.int .i64 0,.int .i64 0,.int .i64 0,.int .i64 0,.int .i64 0,.int .i64 0,.int .i64 0,.int .i64 0,.int .i64 0,.int .i64 0,.int .i64 0,.int .i64 0,.int .i64 0,.int .i64 c.val] rfl rfl (by kernel_rfl) rfl) I0 I0<|oZ 4 Z62<|oY ?_
 refine kN 124 [(1,.box 36 (Rd.cCg c)),(2,.box 62 [iv 0,iv 0,iv 0,iv 0,iv 0,iv 0,iv 0,iv 0,iv 0,iv 0,iv 0,iv 0,iv 0,iv 0,iv 0,iv 0]),(4,.box 62 [iv (Rd.shI p.top (Ns.shT p.top<|Ns.cntE p n f) c.sh),iv 0,iv 0,iv 0,iv 0,iv 0,iv 0,iv 0,iv 0,iv 0,iv 0,iv 0,iv 0,iv 0,iv 0,iv c.val])] Zfz<|jC ?_
 refine tD<|dS (.box 4 1)<|dA (Zaf (z:=1) (.tmp 108) rfl U58<|by kernel_rfl) I0<|dW<|dS (Zc c.st)<|dR (Zah (old:=[iv (Rd.shI p.top (Ns.shT p.top<|Ns.cntE p n f) c.sh),iv 0,iv 0,iv 0,iv 0,iv 0,iv 0,iv 0,iv 0,iv 0,iv 0,iv 0,iv 0,iv 0,iv 0,iv c.val]) (new:=[iv (Rd.shI p.top (Ns.shT p.top<|Ns.cntE p n f) c.sh),iv (c.st.getD 0 0),iv (c.st.getD 1 0),iv (c.st.getD 2 0),iv (c.st.getD 3 0),iv (c.st.getD 4 0),iv (c.st.getD 5 0),iv (c.st.getD 6 0),iv (c.st.getD 7 0),iv 0,iv 0,iv 0,iv 0,iv 0,iv 0,iv c.val]) c.st (.tmp 109) (.tmp 111) rfl U24 (by kernel_rfl) (by kernel_rfl) (by kernel_rfl)<|by kernel_rfl) ⟨I0,I0,T0⟩ ⟨rfl,T0⟩ rfl<|eD ?_
 refine kW 124 [(1,.box 36 (Rd.cCg c)),(2,.box 62 [iv 0,iv 0,iv 0,iv 0,iv 0,iv 0,iv 0,iv 0,iv 0,iv 0,iv 0,iv 0,iv 0,iv 0,iv 0,iv 0]),(4,.box 62 [iv (Rd.shI p.top (Ns.shT p.top<|Ns.cntE p n f) c.sh),iv (c.st.getD 0 0),iv (c.st.getD 1 0),iv (c.st.getD 2 0),iv (c.st.getD 3 0),iv (c.st.getD 4 0),iv (c.st.getD 5 0),iv (c.st.getD 6 0),iv (c.st.getD 7 0),iv 0,iv 0,iv 0,iv 0,iv 0,iv 0,iv c.val])] Zfz<|jC ?_
 refine tD<|dS (.box 4 9)<|dA (Zaf (z:=1) (.tmp 113) rfl U60<|by kernel_rfl) I0<|dW<|dS (Zc c.se)<|dR (Zah (old:=[iv (Rd.shI p.top (Ns.shT p.top<|Ns.cntE p n f) c.sh),iv (c.st.getD 0 0),iv (c.st.getD 1 0),iv (c.st.getD 2 0),iv (c.st.getD 3 0),iv (c.st.getD 4 0),iv (c.st.getD 5 0),iv (c.st.getD 6 0),iv (c.st.getD 7 0),iv 0,iv 0,iv 0,iv 0,iv 0,iv 0,iv c.val]) (new:=[iv (Rd.shI p.top (Ns.shT p.top<|Ns.cntE p n f) c.sh),iv (c.st.getD 0 0),iv (c.st.getD 1 0),iv (c.st.getD 2 0),iv (c.st.getD 3 0),iv (c.st.getD 4 0),iv (c.st.getD 5 0),iv (c.st.getD 6 0),iv (c.st.getD 7 0),iv (c.se.getD 0 0),iv (c.se.getD 1 0),iv (c.se.getD 2 0),iv 0,iv 0,iv 0,iv c.val]) c.se (.tmp 114) (.tmp 116) rfl U24 (by kernel_rfl) (by kernel_rfl) (by kernel_rfl)<|by kernel_rfl) ⟨I0,I0,T0⟩ ⟨rfl,T0⟩ rfl<|eD ?_
 refine kW 124 [(1,.box 36 (Rd.cCg c)),(2,.box 62 [iv 0,iv 0,iv 0,iv 0,iv 0,iv 0,iv 0,iv 0,iv 0,iv 0,iv 0,iv 0,iv 0,iv 0,iv 0,iv 0]),(4,.box 62 [iv (Rd.shI p.top (Ns.shT p.top<|Ns.cntE p n f) c.sh),iv (c.st.getD 0 0),iv (c.st.getD 1 0),iv (c.st.getD 2 0),iv (c.st.getD 3 0),iv (c.st.getD 4 0),iv (c.st.getD 5 0),iv (c.st.getD 6 0),iv (c.st.getD 7 0),iv (c.se.getD 0 0),iv (c.se.getD 1 0),iv (c.se.getD 2 0),iv 0,iv 0,iv 0,iv c.val])] Zfz<|jC ?_
 refine tD<|dS (.box 4 12)<|dA (Zaf (z:=1) (.tmp 118) rfl U60<|by kernel_rfl) I0<|dW<|dS (Zc c.fa)<|dR (Zah (old:=[iv (Rd.shI p.top (Ns.shT p.top<|Ns.cntE p n f) c.sh),iv (c.st.getD 0 0),iv (c.st.getD 1 0),iv (c.st.getD 2 0),iv (c.st.getD 3 0),iv (c.st.getD 4 0),iv (c.st.getD 5 0),iv (c.st.getD 6 0),iv (c.st.getD 7 0),iv (c.se.getD 0 0),iv (c.se.getD 1 0),iv (c.se.getD 2 0),iv 0,iv 0,iv 0,iv c.val]) (new:=[iv (Rd.shI p.top (Ns.shT p.top<|Ns.cntE p n f) c.sh),iv (c.st.getD 0 0),iv (c.st.getD 1 0),iv (c.st.getD 2 0),iv (c.st.getD 3 0),iv (c.st.getD 4 0),iv (c.st.getD 5 0),iv (c.st.getD 6 0),iv (c.st.getD 7 0),iv (c.se.getD 0 0),iv (c.se.getD 1 0),iv (c.se.getD 2 0),iv (c.fa.getD 0 0),iv (c.fa.getD 1 0),iv (c.fa.getD 2 0),iv c.val]) c.fa (.tmp 119) (.tmp 121) rfl U24 (by kernel_rfl) (by kernel_rfl) (by kernel_rfl)<|by kernel_rfl) ⟨I0,I0,T0⟩ ⟨rfl,T0⟩ rfl<|eD ?_
 refine kW 124 [(2,.box 62 [iv 0,iv 0,iv 0,iv 0,iv 0,iv 0,iv 0,iv 0,iv 0,iv 0,iv 0,iv 0,iv 0,iv 0,iv 0,iv 0]),(4,.box 62 [iv (Rd.shI p.top (Ns.shT p.top<|Ns.cntE p n f) c.sh),iv (c.st.getD 0 0),iv (c.st.getD 1 0),iv (c.st.getD 2 0),iv (c.st.getD 3 0),iv (c.st.getD 4 0),iv (c.st.getD 5 0),iv (c.st.getD 6 0),iv (c.st.getD 7 0),iv (c.se.getD 0 0),iv (c.se.getD 1 0),iv (c.se.getD 2 0),iv (c.fa.getD 0 0),iv (c.fa.getD 1 0),iv (c.fa.getD 2 0),iv c.val])] [(4,bx 2),(5,bF),(10,bx 4)]<|jC<|Za<|oW<|oY<|oS bT<|kN 124 [(2,.box 62 [iv (Rd.shI p.top (Ns.shT p.top<|Ns.cntE p n f) c.sh),iv (c.st.getD 0 0),iv (c.st.getD 1 0),iv (c.st.getD 2 0),iv (c.st.getD 3 0),iv (c.st.getD 4 0),iv (c.st.getD 5 0),iv (c.st.getD 6 0),iv (c.st.getD 7 0),iv (c.se.getD 0 0),iv (c.se.getD 1 0),iv (c.se.getD 2 0),iv (c.fa.getD 0 0),iv (c.fa.getD 1 0),iv (c.fa.getD 2 0),iv c.val])] [(4,bx 2),(5,bT)]<|Zf<|ZQ ?_
 refine ZY results16 (.cellS rfl rfl U62 rfl (z:=16) (by kernel_rfl) rfl (by decide)) (.tmp rfl) ?_
 rw [Int.sub_add_cancel] at hs10
 have hr:(Rd.rdX p n f c)=true:=by simp only [Rd.rdX,Rd.rdB,hs1,hs2,hs3,hs4,hs5,hs6,hs9,hs10,hs11,hs12,decide_true,decide_false,Bool.and_true,Bool.true_and,Bool.false_and,Bool.and_false,Bool.not_true,Bool.not_false,if_true,if_false,true_or,or_true,or_self,not_true_eq_false,not_false_eq_true,ite_true,ite_false,or_false,false_or]
 rw [show (Rd.rdY p n f c)=true from hr,hr]
 exact rfl
 have hs10f:(Rd.belB c.fa<|(Rd.mfE p-1)+1)=false:=by simpa using hs10
 refine Za<|W4<|W2<|on (dT' hs9)<|oS bF<|W2<|oS (iv<|Rd.mfE p-1)<|oV ((Rd.mfE p-1)+1)<|oK (Zo (Yh c.fa<|Nat.le_trans HC.lfa<|by decide) hs10f) [Zc c.fa,iv ((Rd.mfE p-1)+1)] rfl rfl<|oW<|oS bT<|jG<|YA rfl (YQ [] #[.int .i64 0,.int .i64 0,.int .i64 0,.int .i64 0,.int .i64 0,.int .i64 0,.int .i64 0,.int .i64 0,.int .i64 0,.int .i64 0,.int .i64 0,.int .i64 0,.int .i64 0,.int .i64 0,.int .i64 0,.int .i64 0] rfl rfl (by kernel_rfl) rfl) T0 T0 T0<|oY<|oS bF<|kN 124 (YM c p) (WO p n f c)<|Zf<|jN<|ZY results16 (.cellS rfl rfl U62 rfl (z:=16) (by kernel_rfl) rfl (by decide)) (.tmp rfl) ?_
 rw [Int.sub_add_cancel] at hs10f
 have hr:(Rd.rdX p n f c)=false:=by simp only [Rd.rdX,Rd.rdB,hs1,hs2,hs3,hs4,hs5,hs6,hs9,hs10f,decide_true,decide_false,Bool.and_true,Bool.true_and,Bool.false_and,Bool.and_false,Bool.not_true,Bool.not_false,if_true,if_false,true_or,or_true,or_self,not_true_eq_false,not_false_eq_true,ite_true,ite_false,or_false,false_or]
 rw [show (Rd.rdY p n f c)=false from hr,hr]
 exact rfl
 refine Za<|W4<|W2<|on (dF' hs9)<|oS bT<|V5<|qK<|oS bT<|jG<|YA rfl (YQ [] #[.int .i64 0,.int .i64 0,.int .i64 0,.int .i64 0,.int .i64 0,.int .i64 0,.int .i64 0,.int .i64 0,.int .i64 0,.int .i64 0,.int .i64 0,.int .i64 0,.int .i64 0,.int .i64 0,.int .i64 0,.int .i64 0] rfl rfl (by kernel_rfl) rfl) T0 T0 T0<|oY<|oS bF<|kN 124 (YM c p) (WO p n f c)<|Zf<|jN<|ZY results16 (.cellS rfl rfl U62 rfl (z:=16) (by kernel_rfl) rfl (by decide)) (.tmp rfl) ?_
 have hr:(Rd.rdX p n f c)=false:=by simp only [Rd.rdX,Rd.rdB,hs1,hs2,hs3,hs4,hs5,hs6,hs9,decide_true,decide_false,Bool.and_true,Bool.true_and,Bool.false_and,Bool.and_false,Bool.not_true,Bool.not_false,if_true,if_false,true_or,or_true,or_self,not_true_eq_false,not_false_eq_true,ite_true,ite_false,or_false,false_or]
 rw [show (Rd.rdY p n f c)=false from hr,hr]
 exact rfl
 have hs6f:(Rd.belB c.se 1048577)=false:=by simpa using hs6
 refine Za<|W4<|W2<|on (dT' hs5)<|oS bF<|W2<|oK (Zo (Yh c.se<|Nat.le_trans HC.lse<|by decide) hs6f) [Zc c.se,iv 1048577] rfl rfl<|oW<|oS bT<|jG<|YA rfl (YQ [] #[.int .i64 0,.int .i64 0,.int .i64 0,.int .i64 0,.int .i64 0,.int .i64 0,.int .i64 0,.int .i64 0,.int .i64 0,.int .i64 0,.int .i64 0,.int .i64 0,.int .i64 0,.int .i64 0,.int .i64 0,.int .i64 0] rfl rfl (by kernel_rfl) rfl) T0 T0 T0<|oY<|oS bF<|kN 124 (YM c p) (WO p n f c)<|Zf<|jN<|ZY results16 (.cellS rfl rfl U62 rfl (z:=16) (by kernel_rfl) rfl (by decide)) (.tmp rfl) ?_
 have hr:(Rd.rdX p n f c)=false:=by simp only [Rd.rdX,Rd.rdB,hs1,hs2,hs3,hs4,hs5,hs6f,decide_true,decide_false,Bool.and_true,Bool.true_and,Bool.false_and,Bool.and_false,Bool.not_true,Bool.not_false,if_true,if_false,true_or,or_true,or_self,not_true_eq_false,not_false_eq_true,ite_true,ite_false,or_false,false_or]
 rw [show (Rd.rdY p n f c)=false from hr,hr]
 exact rfl
 refine Za<|W4<|W2<|on (dF' hs5)<|oS bT<|V4<|oS bT<|jG<|YA rfl (YQ [] #[.int .i64 0,.int .i64 0,.int .i64 0,.int .i64 0,.int .i64 0,.int .i64 0,.int .i64 0,.int .i64 0,.int .i64 0,.int .i64 0,.int .i64 0,.int .i64 0,.int .i64 0,.int .i64 0,.int .i64 0,.int .i64 0] rfl rfl (by kernel_rfl) rfl) T0 T0 T0<|oY<|oS bF<|kN 124 (YM c p) (WO p n f c)<|Zf<|jN<|ZY results16 (.cellS rfl rfl U62 rfl (z:=16) (by kernel_rfl) rfl (by decide)) (.tmp rfl) ?_
 have hr:(Rd.rdX p n f c)=false:=by simp only [Rd.rdX,Rd.rdB,hs1,hs2,hs3,hs4,hs5,decide_true,decide_false,Bool.and_true,Bool.true_and,Bool.false_and,Bool.and_false,Bool.not_true,Bool.not_false,if_true,if_false,true_or,or_true,or_self,not_true_eq_false,not_false_eq_true,ite_true,ite_false,or_false,false_or]
 rw [show (Rd.rdY p n f c)=false from hr,hr]
 exact rfl
 refine tD<|dW<|dW<|dS bF<|dW<|dW<|dW<|dW<|dW<|dW<|dW<|dn (dT' hs2)<|dW<|dS bF<|dW<|dW<|dW<|dW<|dW<|dk (Zo (Yh c.st<|Nat.le_trans HC.lst<|by decide) hs3) [Zc c.st,iv p.sz.length] rfl rfl<|dW<|dW<|dS bF<|dW<|dW<|dW<|dW<|dW<|dW<|dn (dF' hs4)<|dS bT<|eD<|kW 124 (YM c p) (ZdA p n f c)<|Zf<|jK<|YA rfl (YQ [] #[.int .i64 0,.int .i64 0,.int .i64 0,.int .i64 0,.int .i64 0,.int .i64 0,.int .i64 0,.int .i64 0,.int .i64 0,.int .i64 0,.int .i64 0,.int .i64 0,.int .i64 0,.int .i64 0,.int .i64 0,.int .i64 0] rfl rfl (by kernel_rfl) rfl) T0 T0 T0<|oY<|oS bF<|kN 124 (YM c p) (WO p n f c)<|Zf<|jN ?_
 refine ZY results16 (.cellS rfl rfl U62 rfl (z:=16) (by kernel_rfl) rfl (by decide)) (.tmp rfl) ?_
 have hr:(Rd.rdX p n f c)=false:=by simp only [Rd.rdX,Rd.rdB,hs1,hs2,hs3,hs4,decide_true,decide_false,Bool.and_true,Bool.true_and,Bool.false_and,Bool.and_false,Bool.not_true,Bool.not_false,if_true,if_false,true_or,or_true,or_self,not_true_eq_false,not_false_eq_true,ite_true,ite_false,or_false,false_or]
 rw [show (Rd.rdY p n f c)=false from hr,hr]
 exact rfl
 have hs3f:(Rd.belB c.st (p.sz.length:Int))=false:=by simpa using hs3
 refine tD<|dW<|dW<|dS bF<|dW<|dW<|dW<|dW<|dW<|dW<|dW<|dn (dT' hs2)<|dW<|dS bF<|dW<|dW<|dW<|dW<|dW<|dk (Zo (Yh c.st<|Nat.le_trans HC.lst<|by decide) hs3f) [Zc c.st,iv p.sz.length] rfl rfl<|dW<|dW<|dS bT<|dK<|dK<|dK<|dK<|dK<|dK<|dK<|dS bT<|eD<|kW 124 (YM c p) (ZdA p n f c)<|Zf<|jK<|YA rfl (YQ [] #[.int .i64 0,.int .i64 0,.int .i64 0,.int .i64 0,.int .i64 0,.int .i64 0,.int .i64 0,.int .i64 0,.int .i64 0,.int .i64 0,.int .i64 0,.int .i64 0,.int .i64 0,.int .i64 0,.int .i64 0,.int .i64 0] rfl rfl (by kernel_rfl) rfl) T0 T0 T0<|oY<|oS bF<|kN 124 (YM c p) (WO p n f c)<|Zf<|jN ?_
 refine ZY results16 (.cellS rfl rfl U62 rfl (z:=16) (by kernel_rfl) rfl (by decide)) (.tmp rfl) ?_
 have hr:(Rd.rdX p n f c)=false:=by simp only [Rd.rdX,Rd.rdB,hs1,hs2,hs3f,decide_true,decide_false,Bool.and_true,Bool.true_and,Bool.false_and,Bool.and_false,Bool.not_true,Bool.not_false,if_true,if_false,true_or,or_true,or_self,not_true_eq_false,not_false_eq_true,ite_true,ite_false,or_false,false_or]
 rw [show (Rd.rdY p n f c)=false from hr,hr]
 exact rfl
 refine tD<|dW<|dW<|dS bF<|dW<|dW<|dW<|dW<|dW<|dW<|dW<|dn (dF' hs2)<|dW<|dS bT<|dK<|dK<|dK<|dK<|dK<|dK<|dK<|dW<|dS bT<|dK<|dK<|dK<|dK<|dK<|dK<|dK<|dS bT<|eD<|kW 124 (YM c p) (ZdA p n f c)<|Zf<|jK<|YA rfl (YQ [] #[.int .i64 0,.int .i64 0,.int .i64 0,.int .i64 0,.int .i64 0,.int .i64 0,.int .i64 0,.int .i64 0,.int .i64 0,.int .i64 0,.int .i64 0,.int .i64 0,.int .i64 0,.int .i64 0,.int .i64 0,.int .i64 0] rfl rfl (by kernel_rfl) rfl) T0 T0 T0<|oY<|oS bF<|kN 124 (YM c p) (WO p n f c)<|Zf<|jN<|ZY results16 (.cellS rfl rfl U62 rfl (z:=16) (by kernel_rfl) rfl (by decide)) (.tmp rfl) ?_
 have hr:(Rd.rdX p n f c)=false:=by simp only [Rd.rdX,Rd.rdB,hs1,hs2,decide_true,decide_false,Bool.and_true,Bool.true_and,Bool.false_and,Bool.and_false,Bool.not_true,Bool.not_false,if_true,if_false,true_or,or_true,or_self,not_true_eq_false,not_false_eq_true,ite_true,ite_false,or_false,false_or]
 rw [show (Rd.rdY p n f c)=false from hr,hr]
 exact rfl
 have hs1f:(Rd.shB p.top (Ns.shT p.top<|Ns.cntE p n f) c.sh)=false:=by simpa using hs1
 rw [hs1f]
 refine kW 124 (YM c p) [(0,.el (Ns.sysC p n t f) 0),(3,bx 1),(4,bx 2),(5,bF),(6,bx 3),(7,iv (Rd.shI p.top (Ns.shT p.top<|Ns.cntE p n f) c.sh)),(8,bF)]<|tD<|dW<|dW<|dS bT<|dK<|dK<|dK<|dK<|dK<|dK<|dK<|dK<|dW<|dS bT<|dK<|dK<|dK<|dK<|dK<|dK<|dK<|dW<|dS bT<|dK<|dK<|dK<|dK<|dK<|dK<|dK<|dS bT<|eD ?_
 refine kW 124 (YM c p) (ZdA p n f c)<|Zf<|jK<|YA rfl (YQ [] #[.int .i64 0,.int .i64 0,.int .i64 0,.int .i64 0,.int .i64 0,.int .i64 0,.int .i64 0,.int .i64 0,.int .i64 0,.int .i64 0,.int .i64 0,.int .i64 0,.int .i64 0,.int .i64 0,.int .i64 0,.int .i64 0] rfl rfl (by kernel_rfl) rfl) T0 T0 T0<|oY<|oS bF<|kN 124 (YM c p) (WO p n f c)<|Zf<|jN<|ZY results16 (.cellS rfl rfl U62 rfl (z:=16) (by kernel_rfl) rfl (by decide)) (.tmp rfl) ?_
 have hr:(Rd.rdX p n f c)=false:=by simp only [Rd.rdX,Rd.rdB,hs1f,decide_true,decide_false,Bool.and_true,Bool.true_and,Bool.false_and,Bool.and_false,Bool.not_true,Bool.not_false,if_true,if_false,true_or,or_true,or_self,not_true_eq_false,not_false_eq_true,ite_true,ite_false,or_false,false_or]
 rw [show (Rd.rdY p n f c)=false from hr,hr]
 exact rfl
namespace En
def cfV (s:Int) (c:Cf):List AV :=
 [iv s,iv (c.st.getD 0 0),iv (c.st.getD 1 0),iv (c.st.getD 2 0),iv (c.st.getD 3 0),iv (c.st.getD 4 0),iv (c.st.getD 5 0),iv (c.st.getD 6 0),iv (c.st.getD 7 0),
  iv (c.se.getD 0 0),iv (c.se.getD 1 0),iv (c.se.getD 2 0),iv (c.fa.getD 0 0),iv (c.fa.getD 1 0),iv (c.fa.getD 2 0),iv c.val]
theorem plain_cfV (s:Int) (c:Cf):∀ X∈cfV s c,Plain X:=by
 intro X hX
 simp only [cfV,List.mem_cons,List.not_mem_nil,or_false] at hX
 rcases hX with rfl | rfl | rfl | rfl | rfl | rfl | rfl | rfl | rfl | rfl | rfl | rfl | rfl | rfl | rfl | rfl<;>exact .v _
variable {s:Int}{k:Nat}
theorem cfV_st (h:k<8):(cfV s c)[1+k*1]? = some (iv (c.st.getD k 0)):=by
 obtain rfl | rfl | rfl | rfl | rfl | rfl | rfl | rfl:k=0\/k=1\/k=2\/k=3\/k=4\/k=5\/k=6\/k=7:=by omega
 all_goals rfl
theorem cfV_fa (h:k<3):(cfV s c)[12+k*1]? = some (iv (c.fa.getD k 0)):=by
 obtain rfl | rfl | rfl:k=0\/k=1\/k=2:=by omega
 all_goals rfl
theorem cfV_row (h:c.st.length<=8):((cfV s c).drop 1).take c.st.length=c.st.map iv:=by
 apply List.ext_getElem?
 intro j
 rw [List.getElem?_take]
 by_cases hj:j<c.st.length
 ·rw [if_pos hj,List.getElem?_drop,List.getElem?_map,List.getElem?_eq_getElem hj,Option.map_some]
  have:=cfV_st (s:=s) (c:=c) (k:=j) (by omega)
  rw [Nat.mul_one,Ct.getD_at hj] at this
  exact this
 rw [if_neg hj,List.getElem?_map,List.getElem?_eq_none (by omega)];rfl
def hdV (p:Fm) (f:Int) (c:Cf) (m:Nat):Int:=if p.fzz=1\/p.fzz=2 then c.se.getD m 0+c.fa.getD m 0 else if p.fzz=3 then c.se.getD m 0+f else c.se.getD m 0
def hdJ (p:Fm) (f:Int) (c:Cf) (j m:Nat):Int:=if m<j then hdV p f c m else c.se.getD m 0
def msA (g:Nat->Int):List AV:=midF [] 3 (λm=>iv (g m)) []
theorem plain_msA (g:Nat->Int):∀ X∈msA g,Plain X:=by
 intro X hX
 unfold msA midF at hX
 rw [List.nil_append,List.append_nil] at hX
 obtain ⟨j,_,rfl⟩:=List.mem_map.1 hX;exact .v _
theorem msA_get {g:Nat->Int} (h:k<3):(msA g)[0+k*1]? = some (iv (g k)):=midF_get (i:=k) h (by show 0+k=_;omega)
variable {j:Nat}{x:Int}
theorem msA_step (h:j<3) (hx:x=hdV p f c j):setAll (msA (hdJ p f c j)) (0+j*1) [iv x]=msA (hdJ p f c (j+1)) :=
 midF_set (i:=j) h (by show 0+j=_;omega) (by unfold hdJ;rw [if_pos (by omega),hx]) λk _ hne=>by
  refine congrArg iv ?_
  unfold hdJ
  by_cases a:k<j
  ·rw [if_pos a,if_pos (by omega)]
  rw [if_neg a,if_neg (by omega)]
theorem hdJ_skip (h1:¬ p.fzz=1) (h2:¬ p.fzz=2) (h3:¬ p.fzz=3):hdJ p f c (j+1)=hdJ p f c j:=by
 funext k
 unfold hdJ
 by_cases a:k<j
 ·rw [if_pos a,if_pos (by omega)]
 rw [if_neg a]
 by_cases b:k<j+1
 ·rw [if_pos b];unfold hdV;rw [if_neg (by omega),if_neg h3]
 rw [if_neg b]
theorem hdJ_at :hdJ p f c j j=c.se.getD j 0:=by unfold hdJ;rw [if_neg (by omega)]
theorem hd_12 (h:p.fzz=1\/p.fzz=2):hdJ p f c j j+c.fa.getD j 0=hdV p f c j:=by rw [hdJ_at];unfold hdV;rw [if_pos h]
theorem hd_3 (h:¬ p.fzz=1) (h2:¬ p.fzz=2) (h3:p.fzz=3):hdJ p f c j j+f=hdV p f c j:=by rw [hdJ_at];unfold hdV;rw [if_neg (by omega),if_pos h3]
def hdG (p:Fm) (f:Int) (c:Cf) (fo:Bool):Nat->Int:=if fo=true then (if p.fzz=1 then hdJ p f c p.msgs.length else λm=>c.se.getD m 0) else hdJ p f c p.msgs.length
def isP (n:Nat) (i:Int):Bool:=decide (0<=i)&&decide (i<(n:Int))
def ptB (c:Cf) (r:Ru) (i:Nat) (k:Int):Bool:=if r.kind=2\/r.kind=5 then isP c.st.length k && !decide (k=(i:Int))&&decide (c.st.getD k.toNat 0=r.pf) else decide (k = -1)
def rdN (c:Cf) (r:Ru):Bool:=decide (0<=r.rd) && !decide (c.val=r.rd)
def gdN (n t f:Int) (g:Nat->Int) (q:Th):Bool:=decide (q.coef*g q.msg.toNat<evN q.bd.c q.bd.n q.bd.t q.bd.f n t f)
def faN (c:Cf) (r:Ru) (i j:Nat):Bool := !decide (j=i)&&(decide (0<r.fa.length) && !decide (c.st.getD j 0∈r.fa))
def exY (c:Cf) (r:Ru) (i j:Nat):Bool := !decide (j=i)&&decide (c.st.getD j 0∈r.ex)
def exU (c:Cf) (r:Ru) (i J:Nat):Bool:=decide ((r.ex.length:Int)=0)||(List.range J).any (exY c r i)
def noF (c:Cf) (r:Ru) (i J:Nat):Prop:=∀ j,j<J->faN c r i j=false
def loB (n t f:Int) (c:Cf) (r:Ru) (g:Nat->Int) (i:Nat):Bool := !rdN c r&&(!r.gz.any (gdN n t f g)&&(!(List.range c.st.length).any (faN c r i)&&exU c r i c.st.length))
variable {r:Ru}{i:Nat}
theorem noF_zero :noF c r i 0:=λ_ h=>absurd h (by omega)
theorem noF_succ {i J:Nat} (h:noF c r i J) (e:faN c r i J=false):noF c r i (J+1):=λj hj=>by
 by_cases a:j=J
 ·subst a;exact e
 exact h j (by omega)
theorem exU_zero :exU c r i 0=decide ((r.ex.length:Int)=0):=by unfold exU;simp
theorem Zdt {i J:Nat}:exU c r i (J+1)=(exU c r i J||exY c r i J):=by unfold exU;rw [List.range_succ,List.any_append];simp [Bool.or_assoc]
theorem exU_same {i J:Nat} (h:J=i):exU c r i (J+1)=exU c r i J:=by rw [Zdt];unfold exY;rw [decide_eq_true h];simp
theorem exU_t {i J:Nat} (h:exU c r i J=true):exU c r i (J+1)=true:=by rw [Zdt,h];rfl
theorem exU_f {i J:Nat} (hJ:J<c.st.length) (h:exU c r i J=false) (hne:¬ J=i):exU c r i (J+1)=decide (c.st[J]∈r.ex):=by rw [Zdt,h];unfold exY;rw [decide_eq_false hne,Ct.getD_at hJ];rfl
theorem lo_rd {g:Nat->Int} (h:rdN c r=true):loB n t f c r g i=false:=by unfold loB;rw [h];rfl
theorem lo_gd {g:Nat->Int} (hk:k<r.gz.length) (h:r.gz[k].coef*g r.gz[k].msg.toNat<gbV r n t f k):loB n t f c r g i=false:=by
 have:r.gz.any (gdN n t f g)=true:=by
  refine Rd.any_one hk ?_
  unfold gdN
  unfold gbV at h
  rw [List.getD_eq_getElem?_getD,List.getElem?_eq_getElem hk,Option.getD_some] at h
  exact decide_eq_true h
 unfold loB
 rw [this]
 simp
theorem gd_no {g:Nat->Int} (hk:k<r.gz.length) (h:¬ r.gz[k].coef*g r.gz[k].msg.toNat<gbV r n t f k):gdN n t f g r.gz[k]=false:=by
 unfold gdN
 unfold gbV at h
 rw [List.getD_eq_getElem?_getD,List.getElem?_eq_getElem hk,Option.getD_some] at h
 exact decide_eq_false h
theorem lo_fa {g:Nat->Int} (hj:j<c.st.length) (h:faN c r i j=true):loB n t f c r g i=false:=by
 have:(List.range c.st.length).any (faN c r i)=true:=List.any_eq_true.2 ⟨j,List.mem_range.2 hj,h⟩
 unfold loB
 rw [this]
 simp
theorem lo_ex {g:Nat->Int} (h:rdN c r=false) (hk:¬ k<r.gz.length) (h2:Rd.noP r.gz (gdN n t f g) k) (hj:¬ j<c.st.length) (hjl:j<=c.st.length) (h3:noF c r i j):loB n t f c r g i=exU c r i j:=by
 obtain rfl:j=c.st.length:=by omega
 have h4:(List.range c.st.length).any (faN c r i)=false:=List.any_eq_false.2 λx hx=>by
  have:=h3 x (List.mem_range.1 hx)
  simp [this]
 unfold loB
 rw [h,Rd.any_none hk h2,h4]
 rfl
theorem fa_same (h:j=i):faN c r i j=false:=by unfold faN;rw [decide_eq_true h];rfl
theorem fa_none (h:¬ 0<(r.fa.length:Int)):faN c r i j=false:=by unfold faN;rw [decide_eq_false (show ¬ 0<r.fa.length by omega)];simp
theorem fa_in (hj:j<c.st.length) (h:decide (c.st[j]∈r.fa)=true):faN c r i j=false:=by unfold faN;rw [Ct.getD_at hj,h];simp
theorem fa_out (hj:j<c.st.length) (hne:¬ j=i) (h0:0<(r.fa.length:Int)) (h:decide (c.st[j]∈r.fa)=false):faN c r i j=true:=by
 unfold faN;rw [Ct.getD_at hj,h,decide_eq_false hne,decide_eq_true (show 0<r.fa.length by omega)];rfl
def lkP (top:Int) (sh:List Int) (n i:Nat):Int:=if top=4 then (trun sh sh.length).pa i else (rowL top n i).2.2
def fitB (c:Cf) (w:Int) (l:List Int):Bool:=decide ((l.length:Int)=0)||(decide (0<=w)&&decide (c.st.getD w.toNat 0∈l))
def nbB (top:Int) (c:Cf) (r:Ru) (i:Nat):Bool :=
 !(decide (r.pos=1) && !decide ((i:Int)=0))&&(!(decide (r.pos=2)&&decide (0<=Jd.lkS top c.sh c.st.length i)) &&
   (fitB c (Jd.lkF top c.sh c.st.length i) r.left&&(fitB c (Jd.lkS top c.sh c.st.length i) r.right&&fitB c (lkP top c.sh c.st.length i) r.pz)))
def psB (top:Int) (c:Cf) (r:Ru) (i:Nat) (k:Int):Bool :=
 if r.dir=1 then decide (k=Jd.lkS top c.sh c.st.length i) else if r.dir=2 then decide (k=Jd.lkF top c.sh c.st.length i)
 else if r.dir=3 then decide (k=Jd.lkF top c.sh c.st.length i)||decide (k=Jd.lkS top c.sh c.st.length i) else decide (k=lkP top c.sh c.st.length i)
def enR (top n t f:Int) (c:Cf) (g:Nat->Int) (r:Ru) (i:Nat) (k:Int):Bool :=
 decide (c.st.getD i 0=r.frm)&&(ptB c r i k&&(if r.kind=1 then loB n t f c r g i else if r.kind=4 then nbB top c r i else if r.kind=5 then psB top c r i k else decide (r.rd<0)||decide (c.val=r.rd)))
def enB (p:Fm) (n t f:Int) (c:Cf) (g:Nat->Int) (x y k:Int):Bool :=
 isP p.rz.length x&&(isP c.st.length y&&enR p.top n t f c g (p.rz.getD x.toNat default) y.toNat k)
variable {top:Int}
theorem lk_el {n i:Nat} (h:i<n):(((List.range (n*3)).map λj=>iv (Jd.lkC top sh n j)).drop (i*3)).take 3=[iv (Jd.lkF top sh n i),iv (Jd.lkS top sh n i),iv (lkP top sh n i)]:=by
 have e2:Jd.lkC top sh n (i*3+2)=lkP top sh n i:=by
  unfold Jd.lkC lkP
  rw [if_neg (by omega),if_neg (by omega),show (i*3+2) / 3=i by omega,show (((i*3+2:Nat):Int)) / 3=(i:Int) by omega]
 apply List.ext_getElem?
 intro j
 rw [List.getElem?_take]
 by_cases hj:j<3
 ·rw [if_pos hj,List.getElem?_drop,List.getElem?_map,List.getElem?_range (by omega),Option.map_some]
  obtain rfl | rfl | rfl:j=0\/j=1\/j=2:=by omega
  ·rw [Nat.add_zero,Jd.lkC_F];rfl
  ·rw [Jd.lkC_S];rfl
  rw [e2];rfl
 rw [if_neg hj,List.getElem?_eq_none (by simp;omega)]
theorem links_at {n:Nat} (hs:(shS top n)[s.toNat]? = some c.sh) (hn:n=c.st.length):((shS top n).flatMap (cLkS top n))[s.toNat*1]? = some (Jd.lkA top c.sh c.st.length):=by
 obtain ⟨h1,h2⟩:=List.getElem?_eq_some_iff.1 hs
 have:=Wd (z:=1) (f:=cLkS top n) (λ_=>rfl) (shS top n) s.toNat 0 h1 (by decide)
 rw [Nat.add_zero] at this
 rw [this,h2,<- hn]
 rfl
variable {a b:Int}
theorem mulW (h1:1<=a) (h2:a<=100) (h3:0<=b) (h4:b<=3000000):IntKind.i64.wrap (a*b)=a*b:=by
 have h5:0<=a*b:=Int.mul_nonneg (by omega) h3
 have h6:a*b<=100*3000000:=Int.mul_le_mul h2 h4 h3 (by omega)
 exact w64 rfl (by omega) (by omega)
structure RuV (p:Fm) (r:Ru):Prop where
 kd:1<=r.kind/\r.kind<=5
 kt:r.kind<=3↔p.top=1
 gd:∀ g∈r.gz,0<=g.msg/\g.msg<p.msgs.length/\1<=g.coef/\g.coef<=100
 gl:r.gz.length<=2
 rd:r.rd = -1\/(0<=r.rd/\r.rd<p.vals.length)
 wr:r.wr = -1\/(0<=r.wr/\r.wr<p.vals.length)
 em:¬ r.kind=1->¬ r.kind=2->¬ r.kind=3->r.rd = -1/\r.wr = -1
 po:r.kind=4->r.pos≠0->p.top≠3
 pi:r.kind=4->0<=r.pos/\r.pos<=2
 dr:r.kind=5->(p.top=4->r.dir=3\/r.dir=4)/\(p.top≠4->r.dir=1\/r.dir=2)
 tf:(0<=r.to/\r.to<p.sz.length)/\(0<=r.frm/\r.frm<p.sz.length)
 pt:r.kind=2\/r.kind=5->0<=r.pt/\r.pt<p.sz.length
 re:r.kind=3->r.resp.length=p.sz.length/\∀ x∈r.resp,0<=x/\x<p.sz.length
 se:∀ x∈r.send,0<=x/\x<p.msgs.length
 sk:¬ r.kind=1->r.send=[]
theorem Zer {n:Nat} (h:ixB n x=true):0<=x/\x<n:=by
 unfold ixB inB at h
 simp only [Bool.and_eq_true,decide_eq_true_eq] at h
 omega
variable {xs:List Int}
theorem set_in {n:Nat} (h:setE n xs=0):∀ x∈xs,0<=x/\x<n:=by
 unfold setE at h
 split at h
 ·cases h
 rename_i h1
 intro x hx
 simp only [Bool.not_eq_false,allK,List.take_length,List.all_eq_true] at h1
 exact Zer (h1 x hx)
theorem gus_in {n:Nat}:∀ {gs:List Th},gusE n gs=0->∀ g∈gs,guE n g=0
 | [],_,g,hg=>by cases hg
 | a::l,h,g,hg=>by
   unfold gusE at h
   split at h
   ·rename_i h1
    rcases List.mem_cons.1 hg with rfl | hg
    ·exact h1
    exact gus_in h g hg
   rename_i h1;exact absurd h h1
theorem gu_in {n:Nat} {g:Th} (h:guE n g=0):0<=g.msg/\g.msg<n/\1<=g.coef/\g.coef<=100:=by
 unfold guE at h
 split at h
 ·cases h
 rename_i h1
 split at h
 ·cases h
 rename_i h2
 have h3:=Zer (by simpa using h1)
 unfold inB at h2
 simp only [Bool.not_eq_false,Bool.and_eq_true,decide_eq_true_eq] at h2
 omega
theorem sh_in {n:Nat} (h:shE n a b=0):(a = -1\/(0<=a/\a<n))/\(b = -1\/(0<=b/\b<n)):=by
 unfold shE at h
 split at h
 ·cases h
 rename_i h1
 simp only [not_or,not_and,Bool.not_eq_false] at h1
 constructor
 ·by_cases e:a = -1
  ·exact .inl e
  exact .inr (Zer (h1.1 e))
 by_cases e:b = -1
 ·exact .inl e
 exact .inr (Zer (h1.2 e))
theorem val_rule (h:valE p=0) (hr:r∈p.rz):∃ i,rruleE p i r=0:=by
 unfold valE at h
 split at h
 ·cases h
 split at h
 ·cases h
 split at h
 ·cases h
 rename_i hst
 split at h
 ·cases h
 split at h
 ·cases h
 split at h
 ·cases h
 split at h
 ·cases h
 have a3:=ZI (ZI (ZI h).2).2
 obtain ⟨j,hj,rfl⟩:=List.getElem_of_mem hr
 have:=Ns.rulesE_all _ _ a3.1 j (Nat.zero_le _) (by omega)
 rw [List.getD_eq_getElem?_getD,List.getElem?_eq_getElem hj,Option.getD_some] at this
 exact ⟨j,by rw [<- rule_eq p j _ (λe=>hst (by rw [e];rfl))];exact this⟩
theorem rule_in (h:rruleE p i r=0):RuV p r:=by
 unfold rruleE at h
 split at h
 ·cases h
 split at h
 ·cases h
 rename_i h1
 split at h
 ·cases h
 rename_i h2
 have hk:rkindB r p.top=true:=by simpa using h1
 unfold rkindB at hk
 rw [Bool.and_eq_true,Bool.and_eq_true] at hk
 obtain ⟨⟨k1,k2⟩,k3⟩:=hk
 have E:=(Zcp r p.top).1 (by simpa using k3)
 have hs:rstB r p.sz.length=true:=by simpa using h2
 unfold rstB at hs
 rw [Bool.and_eq_true,Bool.and_eq_true] at hs
 obtain ⟨⟨s1,s2⟩,s3⟩:=hs
 unfold inB at k1
 simp only [Bool.and_eq_true,decide_eq_true_eq] at k1
 have k2':r.kind<=3↔p.top=1:=by
  have:=eq_of_beq k2
  exact decide_eq_decide.1 this
 unfold rpartE at h
 have a0:=ZI h
 have a1:=ZI a0.2
 have a2:=ZI a1.2
 have a3:=ZI a2.2
 have a4:=ZI a3.2
 have a5:=ZI a4.2
 have a6:=ZI a5.2
 have a7:=ZI a6.2
 have a8:=ZI a7.2
 have a9:=ZI a8.2
 have hg:=a1.1
 unfold guardE at hg
 refine ⟨k1,k2',λg hgm => ?_,?_,(sh_in a4.1).1,(sh_in a4.1).2,λn1 n2 n3=>E.s n1 n2 n3,λk4 hp => ?_,λk4 => ?_,λk5 => ?_,⟨Zer s2,Zer s1⟩,λhpp => ?_,λk3 => ?_,set_in a5.1,λn1=>(E.g n1).2.2.2⟩
 ·split at hg
  ·rename_i g0
   exact gu_in (gus_in g0 g hgm)
  rename_i g0;exact absurd hg g0
 ·split at hg
  ·split at hg
   ·cases hg
   omega
  rename_i g0;exact absurd hg g0
 ·have hpo:=a9.1
  rw [if_pos k4] at hpo
  unfold posE at hpo
  split at hpo
  ·cases hpo
  rename_i hq
  intro h3
  exact hq (.inr ⟨hp,h3⟩)
 ·have hpo:=a9.1
  rw [if_pos k4] at hpo
  unfold posE at hpo
  split at hpo
  ·cases hpo
  rename_i hq
  have hq1:inB 0 2 r.pos=true:=by
   cases e:inB 0 2 r.pos with
   | true=>rfl
   | false=>exact absurd (.inl e) hq
  unfold inB at hq1
  simpa using hq1
 ·have hd:=a9.2
  rw [if_pos k5] at hd
  unfold dirE at hd
  constructor
  ·intro h4
   rw [if_pos h4] at hd
   split at hd
   ·assumption
   cases hd
  intro h4
  rw [if_neg h4] at hd
  split at hd
  ·assumption
  cases hd
 ·rw [Bool.or_eq_true] at s3
  rcases s3 with s3 | s3
  ·rw [Bool.not_eq_true',Bool.or_eq_false_iff,decide_eq_false_iff_not,decide_eq_false_iff_not] at s3
   omega
  rw [Bool.and_eq_true] at s3
  exact Zer s3.2
 have hre:=a0.1
 rw [if_pos k3] at hre
 unfold reE at hre
 split at hre
 ·cases hre
 rename_i hl
 split at hre
 ·cases hre
 rename_i h5
 refine ⟨by simpa using hl,λx hx => ?_⟩
 simp only [Bool.not_eq_false,allK,List.take_length,List.all_eq_true] at h5
 exact Zer (h5 x hx)
theorem val_in (h:valE p=0) (hr:r∈p.rz):RuV p r:=by
 obtain ⟨i,h⟩:=val_rule h hr
 exact rule_in h
theorem val_sizes (h:valE p=0):p.rz.length<=8/\p.sz.length<=6/\p.msgs.length<=3/\p.vals.length<=3:=by
 unfold valE at h
 split at h
 ·cases h
 split at h
 ·cases h
 split at h
 ·cases h
 split at h
 ·cases h
 rename_i g
 exact ZbA (by simpa using g)
structure CfV (p:Fm) (n f:Int) (c:Cf):Prop where
 ln:(c.st.length:Int)=Ns.cntE p n f
 st:∀ x∈c.st,0<=x/\x<p.sz.length
 co:c.cor=n-f
 ls:c.se.length=p.msgs.length
 se:∀ x∈c.se,0<=x/\x<=1048576
 lf:c.fa.length=p.msgs.length
 fa:∀ x∈c.fa,0<=x/\x<=1048576
 fz:¬ p.fzz=1->¬ p.fzz=2->∀ x∈c.fa,x=0
 va:0<=c.val/\c.val<max (p.vals.length:Int) 1
 sh:Rd.shB p.top (Ns.shT p.top (Ns.cntE p n f)) c.sh=true
theorem Zac {m:Int} (h:Rd.belB xs m=true):∀ x∈xs,0<=x/\x<m:=by
 intro x hx
 unfold Rd.belB at h
 rw [Bool.not_eq_true',List.any_eq_false] at h
 have:=h x hx
 unfold Rd.outB at this
 simp only [Bool.or_eq_true,decide_eq_true_eq,not_or] at this
 omega
theorem cf_in (h:Rd.rdX p n f c=true):CfV p n f c:=by
 unfold Rd.rdX Rd.rdB at h
 simp only [Bool.and_eq_true,Bool.not_eq_true',decide_eq_true_eq,decide_eq_false_iff_not] at h
 obtain ⟨⟨⟨⟨⟨⟨⟨⟨⟨h1,h2⟩,h3⟩,h4⟩,h5⟩,h6⟩,h7⟩,h8⟩,h9⟩,h10⟩:=h
 have hm:=Rd.mf_in p
 refine ⟨h2,Zac h3,h4,by omega,λx hx => ?_,by omega,λx hx => ?_,λn1 n2 x hx => ?_,by omega,h1⟩
 ·have:=Zac h6 x hx;omega
 ·have:=Zac h8 x hx;omega
 have:=Zac h8 x hx
 unfold Rd.mfE at this
 rw [if_neg (by omega)] at this
 omega
theorem CfV.se_at (h:CfV p n f c) (m:Nat):0<=c.se.getD m 0/\c.se.getD m 0<=1048576:=by
 by_cases hm:m<c.se.length
 ·rw [Ct.getD_at hm];exact h.se _ (List.getElem_mem hm)
 rw [List.getD_eq_getElem?_getD,List.getElem?_eq_none (by omega)];exact ⟨by decide,by decide⟩
theorem CfV.fa_at (h:CfV p n f c) (m:Nat):0<=c.fa.getD m 0/\c.fa.getD m 0<=1048576:=by
 by_cases hm:m<c.fa.length
 ·rw [Ct.getD_at hm];exact h.fa _ (List.getElem_mem hm)
 rw [List.getD_eq_getElem?_getD,List.getElem?_eq_none (by omega)];exact ⟨by decide,by decide⟩
theorem hdV_in (h:CfV p n f c) (hf:0<=f/\f<=1048576) (m:Nat):0<=hdV p f c m/\hdV p f c m<=3000000:=by
 have h1:=h.se_at m
 have h2:=h.fa_at m
 unfold hdV
 split
 ·omega
 split<;>omega
theorem hdJ_in (h:CfV p n f c) (hf:0<=f/\f<=1048576) (j m:Nat):0<=hdJ p f c j m/\hdJ p f c j m<=3000000:=by
 have h1:=h.se_at m
 have h2:=hdV_in h hf m
 unfold hdJ
 split
 ·exact h2
 omega
theorem hdG_in (h:CfV p n f c) (hf:0<=f/\f<=1048576) (fo:Bool) (m:Nat):0<=hdG p f c fo m/\hdG p f c fo m<=3000000:=by
 have h1:=h.se_at m
 have h2:=hdJ_in h hf p.msgs.length m
 unfold hdG
 split
 ·split
  ·exact h2
  dsimp only;omega
 exact h2
theorem shI_at (h:CfV p n f c) (h1:¬ p.top=1) (ht:1<=p.top/\p.top<=4) (h0:0<=Ns.cntE p n f):0<=Rd.shI p.top (Ns.shT p.top (Ns.cntE p n f)) c.sh/\Rd.shI p.top (Ns.shT p.top (Ns.cntE p n f)) c.sh<(((shS p.top (Ns.cntE p n f).toNat).length:Nat):Int)/\(shS p.top (Ns.cntE p n f).toNat)[(Rd.shI p.top (Ns.shT p.top (Ns.cntE p n f)) c.sh).toNat]? = some c.sh:=by
 have hs:=h.sh
 obtain ⟨m,hm⟩:=Int.eq_ofNat_of_zero_le h0
 rw [hm] at hs ⊢
 rw [Int.toNat_natCast]
 by_cases h4:p.top=4
 ·rw [Rd.shB_tree h4,decide_eq_true_iff] at hs
  rw [Rd.shI_tree h4]
  unfold shS
  rw [if_pos h4]
  rw [Ns.shT_tree h4] at hs ⊢
  rw [Int.max_eq_left hs]
  unfold Rd.ixP at hs ⊢
  split
  ·rename_i i hi
   obtain ⟨a,b,_⟩:=List.findIdx?_eq_some_iff_getElem.1 hi
   refine ⟨by omega,by omega,?_⟩
   rw [Int.toNat_natCast,List.getElem?_eq_getElem a]
   have:=of_decide_eq_true b
   rw [this]
  rename_i hi
  rw [hi] at hs
  exact absurd hs (by decide)
 rw [Rd.shB_no h4,decide_eq_true_iff] at hs
 rw [Rd.shI_no h4]
 unfold shS
 rw [if_neg h4,if_pos (by omega)]
 have:c.sh=[]:=List.eq_nil_of_length_eq_zero (by omega)
 rw [this]
 exact ⟨by decide,by decide,rfl⟩
theorem sh_tree (h:CfV p n f c) (h4:p.top=4):isShp c.sh (c.st.length:Int)=true:=by
 have hs:=h.sh
 have hl:=h.ln
 rw [Rd.shB_tree h4,decide_eq_true_iff,Ns.shT_tree h4,<- hl] at hs
 unfold Rd.ixP at hs
 split at hs
 ·rename_i i hi
  obtain ⟨a,b,_⟩:=List.findIdx?_eq_some_iff_getElem.1 hi
  have e:=of_decide_eq_true b
  have:=shX_is _ (List.getElem_mem a)
  rw [<- e] at this
  unfold isShp
  rw [this.2,decide_eq_true (by omega)];rfl
 exact absurd hs (by decide)
theorem lk_ok (h:CfV p n f c) (h1:¬ p.top=1) (ht:1<=p.top/\p.top<=4) (hi:i<c.st.length):Jd.lkF p.top c.sh c.st.length i<(c.st.length:Int)/\Jd.lkS p.top c.sh c.st.length i<(c.st.length:Int)/\lkP p.top c.sh c.st.length i<(c.st.length:Int):=by
 by_cases h4:p.top=4
 ·have hs:=sh_tree h h4
  unfold isShp at hs
  simp only [Bool.and_eq_true,decide_eq_true_eq] at hs
  have hl:c.sh.length=c.st.length:=by omega
  have:=Jd.lk_tree hs.2 i (by omega)
  rw [h4,<- hl]
  refine ⟨this.1,this.2,?_⟩
  unfold lkP
  rw [if_pos rfl]
  rcases (Zbz c.sh hs.2).1.par i (by omega) with e | ⟨q,hq,e,_⟩<;>omega
 have:=Jd.lk_row (sh:=c.sh) (n:=c.st.length) (show p.top=2\/p.top=3 by omega) i hi
 refine ⟨this.1,this.2,?_⟩
 unfold lkP
 rw [if_neg h4]
 unfold rowL
 dsimp only
 omega
end En
namespace Vi
def stS (p:Fm) (q:Pq):List Int:=if q.start=[] then p.init else q.start
def chI (p:Fm) (q:Pq) (cor:Int) (i:Nat):List Int:=if i=0/\0<(p.lz.length:Int) then p.lz else if (i:Int)<cor then stS p q else p.init
def zeB (l:List Int):Bool:=decide (∀ x∈l,x=0)
def inK (p:Fm) (q:Pq) (cor:Int) (st:List Int) (k:Nat):Prop:=∀ i (h:i<st.length),i<k->st[i]∈chI p q cor i
def inB (p:Fm) (q:Pq) (cor:Int) (c:Cf):Bool:=decide (c.val=0)&&(zeB c.se&&(zeB c.fa&&decide (∀ i (h:i<c.st.length),c.st[i]∈chI p q cor i)))
section
variable {p:Fm} {q:Pq} {cor:Int} {st:List Int} {c:Cf} {k i:Nat}
theorem ch_l (h:i=0) (h2:0<(p.lz.length:Int)):chI p q cor i=p.lz:=if_pos ⟨h,h2⟩
theorem ch_s (h:¬ (i=0/\0<(p.lz.length:Int))) (h2:(i:Int)<cor):chI p q cor i=stS p q:=by unfold chI;rw [if_neg h,if_pos h2]
theorem ch_i (h:¬ (i=0/\0<(p.lz.length:Int))) (h2:¬ (i:Int)<cor):chI p q cor i=p.init:=by unfold chI;rw [if_neg h,if_neg h2]
theorem in_zero:inK p q cor st 0:=λ_ _ h=>absurd h (by omega)
theorem in_succ (hk:k<st.length) (h:inK p q cor st k) (e:decide (st[k]∈chI p q cor k)=true):inK p q cor st (k+1):=λi hi hik=>by
 by_cases e1:i=k
 ·subst e1;exact of_decide_eq_true e
 exact h i hi (by omega)
theorem in_val (h:¬ c.val=0):inB p q cor c=false:=by unfold inB;rw [decide_eq_false h];rfl
variable {l:List Int}
theorem ze_no {k:Nat} (hk:k<l.length) (h:¬ l[k]=0):zeB l=false:=by
 unfold zeB;exact decide_eq_false λe=>h (e _ (List.getElem_mem hk))
theorem ze_yes {k:Nat} (hk:l.length<=k) (h:∀ i (hi:i<l.length),i<k->l[i]=0):zeB l=true:=by
 unfold zeB;exact decide_eq_true λx hx=>by
  obtain ⟨j,hj,rfl⟩:=List.getElem_of_mem hx
  exact h j hj (by omega)
theorem in_se (h:zeB c.se=false):inB p q cor c=false:=by unfold inB;rw [h];simp
theorem in_fa (h:zeB c.fa=false):inB p q cor c=false:=by unfold inB;rw [h];simp
theorem in_no (hk:k<c.st.length) (h:decide (c.st[k]∈chI p q cor k)=false):inB p q cor c=false:=by
 unfold inB
 rw [show decide (∀ i (h:i<c.st.length),c.st[i]∈chI p q cor i)=false from decide_eq_false λe=>of_decide_eq_false h (e k hk)]
 simp
theorem in_yes (hv:c.val=0) (h1:zeB c.se=true) (h2:zeB c.fa=true) (hk:c.st.length<=k) (h:inK p q cor c.st k):inB p q cor c=true:=by
 unfold inB
 rw [decide_eq_true hv,h1,h2,decide_eq_true λi hi=>h i hi (by omega)]
 rfl
end
end Vi
structure PqLen (q:Pq):Prop where
 start:q.start.length<=60
 lbad:q.bad.length<=60
 bad:∀ r∈q.bad,r.1.length<=60
 adj:q.adj.length<=60
 goal:q.goal.length<=60
variable {q:Pq}
theorem pqLen (h:bigQ q=false):PqLen q:=by
 obtain ⟨a,b,c,d,e⟩:=bigQ_no h
 exact ⟨a,b,c,d,e⟩
variable {xs:List Int}
theorem ownI {F:Nat->Prop} {lo:Nat} {w:World} {v:Value} (h:OwnV lo w v xs):Pu F w (nw w lo) (Zc xs) v:=by
 rcases h with ⟨rfl,rfl⟩ | ⟨g,cap,rfl,hl,hm,h1,h2,h3,cur,t,hg,hc⟩
 ·exact .sl0 (by simp [maxLen]) (by simp)
 refine .sl (b:=g) (off:=0) (f:=λj => .int .i64 (xs.getD j 0)) (by simp) hl hm ⟨h1,_,_,hg⟩ (Array.getElem?_eq_some_iff.1 hg).1 (λj hj => ?_) λj hj => ?_
 ·have hj':j<xs.length:=by simpa using hj
  rw [Nat.zero_add,Yn hg j (v := .int .i64 (xs.getD j 0)) (hc j hj')]
 have hj':j<xs.length:=by simpa using hj
 simp only [List.getElem_map,List.getD_eq_getElem?_getD,List.getElem?_eq_getElem hj',Option.getD_some]
 exact .v _
theorem Clone_c (xs:List Int) (hx:InOk xs) (hn:xs.length<=1000):Ctr Tryz.prog J 29 [Zc xs] (Zc xs):=ctr1 λw v _ h =>
 (ZeZ (Yf hx lo0 h) hn).mono λ_ _ ⟨v',he,ho,hb⟩=>⟨v',he,ownI ho,hb⟩
def stL (p:Fm) (q:Pq):List Int:=if vpE p q=0 then (if q.start=[] then p.init else q.start) else []
section
variable {p:Fm} {q:Pq}
theorem st_err (h:¬ vpE p q=0):AV.tup [.sl 1 0 [],iv (vpE p q)] = .tup [Zc (stL p q),iv (vpE p q)]:=by
 unfold stL;rw [if_neg h];rfl
theorem st_s (h:vpE p q=0) (h2:0<(q.start.length:Int)):AV.tup [Zc q.start,iv 0] = .tup [Zc (stL p q),iv (vpE p q)]:=by
 unfold stL;rw [if_pos h,if_neg (by rintro e;rw [e] at h2;simp at h2),h]
theorem st_i (h:vpE p q=0) (h2:¬ 0<(q.start.length:Int)):AV.tup [Zc p.init,iv 0] = .tup [Zc (stL p q),iv (vpE p q)]:=by
 unfold stL;rw [if_pos h,if_pos (List.eq_nil_of_length_eq_zero (by omega)),h]
end
theorem ZaG (xs:List Int) (x:Int) (hx:xs.length<=9223372036854775807):Ctr Tryz.prog J 44 [Zc xs,iv x] (bv<|decide<|x∈xs):=by
 refine Zn func44 rfl (pN (Zx _)<|pN (.v _) pZ) (n:=18) rfl (by simp)<|λw0 => jB<|oS bF<|jD<|jB<|oS (iv 0)<|jA<|Zh<|Zw (σ:={k:Nat // k<=xs.length/\noI xs x k}) (λs=>(ofL [],ofT 18 [(0,Zc xs),(1,iv x),(5,iv s.1)])) (λs=>xs.length-s.1) ⟨0,Nat.zero_le _,noI_zero _ _⟩ (Zk [] _)<|λs => ?_
 obtain ⟨k,hk0,hs0⟩:=s
 show ETri J w0 (ofL []) (ofT 18 [(0,Zc xs),(1,iv x),(5,iv k)]) _
 refine jM ?_
 by_cases hs1:(k:Int)<(xs.length:Int)
 refine Za<|W3<|ol (dT hs1)<|jH<|Zj<|jC<|Zh<|Zi ?_
 by_cases hs2:xs[k]=x
 exact Za<|oS (Zc xs)<|oS (iv k)<|oC (xS (k*1) 12 13 U24) I0 I0<|oL (iv xs[k]) (Zr xs<|by omega)<|oW<|oe (dT hs2)<|jG<|oS bT<|jE<|Ze<|Zb<|Zb<|Ze<|Zb<|Zd results44 (.tmp rfl)<|congrArg (λb:Bool=>AV.v (.bool b))<|(has_yes (k:=k) (by omega) hs2).symm
 exact Za<|oS (Zc xs)<|oS (iv k)<|oC (xS (k*1) 12 13 U24) I0 I0<|oL (iv xs[k]) (Zr xs<|by omega)<|oW<|oe (dF hs2)<|jI<|Zj<|Zs<|Zf<|Za<|oS (iv k)<|oV ((k+1:Nat):Int)<|oS (iv (k+1:Nat))<|jA<|Zp ⟨k+1,by omega,noI_succ' (by omega) hs0 hs2⟩ (show xs.length-(k+1)<xs.length-k by omega)<|Zk [] _
 exact Za<|W3<|ol (dF hs1)<|jI<|jO<|jC<|Za<|oS bF<|jE<|Zd results44 (.tmp rfl)<|congrArg (λb:Bool=>AV.v (.bool b))<|(has_no (k:=k) (by omega) hs0).symm
theorem index_c (xs:List Int) (x:Int) (hx:xs.length<=9223372036854775807):Ctr Tryz.prog J 63 [Zc xs,iv x] (iv<|idxI xs x):=by
 refine Zn func63 rfl (pN (Zx _)<|pN (.v _) pZ) (n:=19) rfl (by simp)<|λw0 => jB<|oS (iv 0)<|kN 19 [] [(0,Zc xs),(1,iv x),(4,iv 0)]<|jC<|jB<|oF (iv xs.length)<|oS (iv 0)<|jA<|Zh<|Zw (σ:={k:Nat // k<=xs.length/\noI xs x k}) (λs=>(ofL [],ofT 19 [(0,Zc xs),(1,iv x),(7,iv xs.length),(8,iv s.1)])) (λs=>xs.length-s.1) ⟨0,Nat.zero_le _,noI_zero _ _⟩ (Zk [] _)<|λs => ?_
 obtain ⟨k,hk0,hs0⟩:=s
 show ETri J w0 (ofL []) (ofT 19 [(0,Zc xs),(1,iv x),(7,iv xs.length),(8,iv k)]) _
 refine Zi ?_
 by_cases hs1:(k:Int)<(xs.length:Int)
 refine Za<|ol (dT hs1)<|jD<|ZM rfl<|Zj<|jC<|Zh<|jB<|oF (iv k)<|jD ?_
 by_cases hs2:x=xs[k]
 exact Za<|oW<|oS (Zc xs)<|oS (iv k)<|oC (xS (k*1) 12 13 U24) I0 I0<|oL (iv xs[k]) (Zr xs<|by omega)<|oe (dT hs2)<|jG<|oF (iv k)<|jE<|Ze<|Zb<|Zb<|Ze<|Zb<|Zd results63 (.tmp rfl)<|congrArg (λx:Int=>AV.v (.int .i64 x))<|idx_yes (by omega) hs0 hs2
 exact Za<|oW<|oS (Zc xs)<|oS (iv k)<|oC (xS (k*1) 12 13 U24) I0 I0<|oL (iv xs[k]) (Zr xs<|by omega)<|oe (dF hs2)<|jI<|Zj<|Zs<|Zf<|Za<|oV ((k+1:Nat):Int)<|oS (iv (k+1:Nat))<|jA<|Zp ⟨k+1,by omega,noI_succ (by omega) hs0 hs2⟩ (show xs.length-(k+1)<xs.length-k by omega)<|Zk [] _
 exact Za<|ol (dF hs1)<|jD<|Zu rfl<|jO<|jC<|Za<|oS (iv<|-1)<|jE<|Zd results63 (.tmp rfl)<|congrArg (λx:Int=>AV.v (.int .i64 x))<|idx_no (k:=k) (by omega) hs0
theorem Ym (xs:List Int) (x:Int) (hx:xs.length<=9223372036854775807):Ctr Tryz.prog J 36 [Zc xs,iv x] (bv<|decide<|x∈xs):=by
 exact Zn func36 rfl (pN (Zx _)<|pN (.v _) pZ) (n:=9) rfl (by simp)<|λw0 => jB<|oS bF<|jD<|Za<|W2<|oK (index_c xs x hx) [Zc xs,iv x] rfl rfl<|oC (ZbD rfl rfl) I0 I0<|oS (bv<|decide<|0<=idxI xs x)<|jE<|Zd results36 (.tmp rfl)<|congrArg (λb:Bool=>AV.v (.bool b))<|idx_has xs x
theorem ZcT (HP:FmOk p) (xs:List Int):Ctr Tryz.prog J 99 [.agg (cFm p),Zc xs] (iv<|adjE p xs):=by
 refine Zn func99 rfl (pN (Zg<|Zy p)<|pN (Zx _) pZ) (n:=36) rfl (by simp)<|λw0 => jB<|oX 1 (.agg (cFm p))<|oS (iv 0)<|jD<|Zh<|Zi ?_
 by_cases hs1:(xs.length:Int)=0
 exact Za<|W2<|oe (dT hs1)<|oS bT<|jG<|oS (iv 0)<|jE<|Ze<|Zb<|Zd results99 (.tmp rfl)<|congrArg (λx:Int=>AV.v (.int .i64 x))<|(adj_0 hs1).symm
 refine Za<|W2<|oe (dF hs1)<|oS bF<|kN 36 [(1,.box 27 (cFm p))] [(1,Zc xs),(2,bx 1),(4,iv 0),(5,bF)]<|Zf<|Zu rfl<|Zi ?_
 by_cases hs2:p.top=1
 exact Za<|W2<|oe (dT hs2)<|oS bT<|jG<|oS (iv 6)<|jE<|Ze<|Zb<|Zd results99 (.tmp rfl)<|congrArg (λx:Int=>AV.v (.int .i64 x))<|(adj_6 hs1 hs2).symm
 refine Za<|W2<|oe (dF hs2)<|oS bF<|jI<|Zi ?_
 by_cases hs3:(xs.length:Int)=2
 refine Za<|W2<|on (dT' hs3)<|oS bF<|jI<|Zi ?_
 by_cases hs4:(ixB p.sz.length xs[0])=true
 by_cases hs5:(ixB p.sz.length xs[1])=true
 refine tD<|dS (Zc xs)<|dC (ZZ (off:=0*1) (.tmp 18) (.const (.int .i64 0)) rfl U24 (by kernel_rfl) (by omega) (by omega) rfl) I0 I0<|dL (iv xs[0]) (Zr xs<|by omega)<|dW<|dW<|dW<|dk (Zo (WK xs[0] p.sz.length HP.lstates) hs4) [iv xs[0],iv p.sz.length] rfl rfl<|dW<|dS bF<|dS (Zc xs)<|dC (ZZ (off:=1*1) (.tmp 27) (.const (.int .i64 1)) rfl U24 (by kernel_rfl) (by omega) (by omega) rfl) I0 I0<|dL (iv xs[1]) (Zr xs<|by omega)<|dW<|dW<|dW<|dk (Zo (WK xs[1] p.sz.length HP.lstates) hs5) [iv xs[1],iv p.sz.length] rfl rfl<|dW<|dW<|dS bF<|eD<|Zf<|Zu rfl<|Zj<|Zs<|jC<|Za<|oS (iv 0)<|jE ?_
 exact Zd results99 (.tmp rfl)<|congrArg (λx:Int=>AV.v (.int .i64 x))<|(adj_k hs1 hs2 hs3<|adj_two hs3 hs4 hs5).symm
 have hs5f:(ixB p.sz.length xs[1])=false:=by simpa using hs5
 refine tD<|dS (Zc xs)<|dC (ZZ (off:=0*1) (.tmp 18) (.const (.int .i64 0)) rfl U24 (by kernel_rfl) (by omega) (by omega) rfl) I0 I0<|dL (iv xs[0]) (Zr xs<|by omega)<|dW<|dW<|dW<|dk (Zo (WK xs[0] p.sz.length HP.lstates) hs4) [iv xs[0],iv p.sz.length] rfl rfl<|dW<|dS bF<|dS (Zc xs)<|dC (ZZ (off:=1*1) (.tmp 27) (.const (.int .i64 1)) rfl U24 (by kernel_rfl) (by omega) (by omega) rfl) I0 I0<|dL (iv xs[1]) (Zr xs<|by omega)<|dW<|dW<|dW<|dk (Zo (WK xs[1] p.sz.length HP.lstates) hs5f) [iv xs[1],iv p.sz.length] rfl rfl<|dW<|dW<|dS bT<|eD<|Zf<|jK<|oS (iv 5)<|jE<|Ze<|Zb ?_
 exact Zd results99 (.tmp rfl)<|congrArg (λx:Int=>AV.v (.int .i64 x))<|(adj_5 hs1 hs2 hs3 (k:=1) (by omega) hs5f).symm
 have hs4f:(ixB p.sz.length xs[0])=false:=by simpa using hs4
 exact tD<|dS (Zc xs)<|dC (ZZ (off:=0*1) (.tmp 18) (.const (.int .i64 0)) rfl U24 (by kernel_rfl) (by omega) (by omega) rfl) I0 I0<|dL (iv xs[0]) (Zr xs<|by omega)<|dW<|dW<|dW<|dk (Zo (WK xs[0] p.sz.length HP.lstates) hs4f) [iv xs[0],iv p.sz.length] rfl rfl<|dW<|dS bT<|dK<|dK<|dK<|dK<|dK<|dK<|dK<|dK<|dW<|dS bT<|eD<|Zf<|jK<|oS (iv 5)<|jE<|Ze<|Zb<|Zd results99 (.tmp rfl)<|congrArg (λx:Int=>AV.v (.int .i64 x))<|(adj_5 hs1 hs2 hs3 (k:=0) (by omega) hs4f).symm
 exact Za<|W2<|on (dF' hs3)<|oS bT<|jG<|oS (iv 1)<|jE<|Ze<|Zb<|Zd results99 (.tmp rfl)<|congrArg (λx:Int=>AV.v (.int .i64 x))<|(adj_1 hs1 hs2 hs3).symm
abbrev Kj (x0:Fm) (x1:Pq):List (Nat × ABlk):=[(1,.box 27 (cFm x0)),(2,.box 30 (cPq x1))]
abbrev XPv_h2 (x0:Pq) (x1:Nat):List (Nat × AV):=[(2,bx 1),(3,bx 2),(23,slA 2 cRw x0.bad),(24,iv x0.bad.length),(25,iv x1)]
abbrev XPv_h3 (x0:Pq) (x1:Nat):List (Nat × AV):=[(2,bx 1),(3,bx 2),(6,bx 3),(23,slA 2 cRw x0.bad),(24,iv x0.bad.length),(25,iv x1),(26,bT)]
abbrev XPv_h4 (x0:Pq) (x1:Nat):List (Nat × AV):=[(2,bx 1),(3,bx 2),(23,slA 2 cRw x0.bad),(24,iv x0.bad.length),(25,iv x1),(26,bF)]
theorem badError_c (HP:FmOk p) (HQ:PqOk q):Ctr Tryz.prog J 53 [.agg (cFm p),.agg (cPq q)] (iv<|badE p q):=by
 have l1:=HQ.lbad
 refine Zn func53 rfl (pN (Zg<|Zy p)<|pN (Zg<|Yd q) pZ) (n:=47) rfl (by simp)<|λw0 => jB<|oX 1 (.agg (cFm p))<|oX 2 (.agg (cPq q))<|oS (iv 0)<|jD<|Zi ?_
 by_cases hs1:(q.bad.length:Int)=0
 by_cases hs2:(q.adj.length:Int)=0
 exact Za<|W3<|oe (dT hs1)<|oS bT<|W3<|oe (dT hs2)<|oS bT<|jG<|oS (iv 1)<|jE<|Zb<|Zd results53 (.tmp rfl)<|congrArg (λx:Int=>AV.v (.int .i64 x))<|(bad_0 hs1 hs2).symm
 refine Za<|W3<|oe (dT hs1)<|oS bT<|W3<|oe (dF hs2)<|oS bF<|jF<|jM<|Za<|oW<|oF (iv q.bad.length)<|oC (WC rfl<|dF (show ¬ 3<(q.bad.length:Int) by omega)) I0 I0<|jA<|jL<|jM<|Za<|oF (slA 2 cRw q.bad)<|oS (iv q.bad.length)<|oS (iv 0)<|jA<|Ye (cntOk p.sz.length q.bad q.bad.length) (ofL<|Kj p q) (ofT 47 [(2,bx 1),(3,bx 2)]) ?_<|λCNT => ?_
 refine Zh<|Zw (σ:={k:Nat // k<=q.bad.length/\cntOk p.sz.length q.bad k}) (λs=>(ofL (Kj p q),ofT 47 [(2,bx 1),(3,bx 2),(23,slA 2 cRw q.bad),(24,iv q.bad.length),(25,iv s.1)])) (λs=>q.bad.length-s.1) ⟨0,Nat.zero_le _,WX _ _⟩ (Zk _ _)<|λs => ?_
 obtain ⟨k,hk0,hs0⟩:=s
 show ETri J w0 (ofL<|Kj p q) (ofT 47<|XPv_h2 q k) _
 refine Zi ?_
 by_cases hs3:(k:Int)<(q.bad.length:Int)
 refine Za<|ol (dT hs3)<|jD<|ZM rfl<|Zj<|jC<|Zh<|jB<|oC (xS (k*2) 23 25 U28) I0 I0<|oA (Zl (z:=2) (.tmp 27) rfl U82 rfl (by kernel_rfl) (ZJ lenRw q.bad k<|by omega) rfl) I0<|oZ 3 Z82<|oY<|kN 47 [(1,.box 27 (cFm p)),(2,.box 30 (cPq q)),(3,.box 82 (cRw q.bad[k]))] (XPv_h3 q k)<|jC<|jB<|W3<|oW<|oW<|oK (KX p.sz.length HP.lstates q.bad[k].1 (HQ.bad q.bad[k] (List.getElem_mem<|by omega)).1) [Zc q.bad[k].1,iv p.sz.length] rfl rfl<|oS (iv<|someE p.sz.length q.bad[k].1)<|jD ?_
 by_cases hs4:someE p.sz.length q.bad[k].1=0
 refine Za<|oW<|on (dT' hs4)<|jF<|Zi ?_
 by_cases hs5:(inB 1 3 q.bad[k].2)=true
 exact Za<|W2<|oK (Zo (ZaK q.bad[k].2 1 3) hs5) [iv q.bad[k].2,iv 1,iv 3] rfl rfl<|oS bF<|jI<|Zj<|Zs<|Zf<|Za<|oV ((k+1:Nat):Int)<|oS (iv (k+1:Nat))<|jA<|Zp ⟨k+1,by omega,WY (by omega) hs0 (cnt_0 (Za7 hs4).1 (Za7 hs4).2 hs5)⟩ (show q.bad.length-(k+1)<q.bad.length-k by omega)<|Zk _ _
 have hs5f:(inB 1 3 q.bad[k].2)=false:=by simpa using hs5
 exact Za<|W2<|oK (Zo (ZaK q.bad[k].2 1 3) hs5f) [iv q.bad[k].2,iv 1,iv 3] rfl rfl<|oS bT<|jG<|oS (iv 1)<|jE<|Ze<|Zb<|Zb<|Ze<|ZW<|Zb<|Zd results53 (.tmp rfl)<|congrArg (λx:Int=>AV.v (.int .i64 x))<|(Zcm ⟨(λh=>hs2 h.2),(show ¬ 3<(q.bad.length:Int) by omega)⟩ (k:=k) (by omega) hs0 (cnt_b (Za7 hs4).1 (Za7 hs4).2 hs5f)<|by decide).symm
 exact Za<|oW<|on (dF' hs4)<|jG<|oF (iv<|someE p.sz.length q.bad[k].1)<|jE<|Zb<|Ze<|Zb<|Zb<|Ze<|ZW<|Zb<|Zd results53 (.tmp rfl)<|congrArg (λx:Int=>AV.v (.int .i64 x))<|(Zcm ⟨(λh=>hs2 h.2),(show ¬ 3<(q.bad.length:Int) by omega)⟩ (k:=k) (by omega) hs0 (some_ne hs4) hs4).symm
 refine Za<|ol (dF hs3)<|kN 47 (Kj p q) (XPv_h4 q k)<|jC<|Zu rfl<|jO ?_
 exact YN (by have:k=q.bad.length:=(by omega);subst this;exact hs0)<|Zk _ _
 exact jC<|Za<|W3<|oK (ZcT HP q.adj) [.agg (cFm p),Zc q.adj] rfl rfl<|oS (iv<|adjE p q.adj)<|jE<|Zd results53 (.tmp rfl)<|congrArg (λx:Int=>AV.v (.int .i64 x))<|(Zb4 ⟨(λh=>hs2 h.2),(show ¬ 3<(q.bad.length:Int) by omega)⟩ CNT).symm
 refine Za<|W3<|oe (dF hs1)<|oS bF<|V4<|oS bF<|jF<|jM ?_
 by_cases hs6:3<(q.bad.length:Int)
 exact Za<|W3<|og (dT hs6)<|jG<|oS (iv 4)<|jE<|Zb<|Zd results53 (.tmp rfl)<|congrArg (λx:Int=>AV.v (.int .i64 x))<|(bad_4 (λh=>hs1 h.1) hs6).symm
 refine Za<|W3<|og (dF hs6)<|jF<|jM<|Za<|oF (slA 2 cRw q.bad)<|oS (iv q.bad.length)<|oS (iv 0)<|jA<|Ye (cntOk p.sz.length q.bad q.bad.length) (ofL<|Kj p q) (ofT 47 [(2,bx 1),(3,bx 2)]) ?_<|λCNT => ?_
 refine Zh<|Zw (σ:={k:Nat // k<=q.bad.length/\cntOk p.sz.length q.bad k}) (λs=>(ofL (Kj p q),ofT 47 [(2,bx 1),(3,bx 2),(23,slA 2 cRw q.bad),(24,iv q.bad.length),(25,iv s.1)])) (λs=>q.bad.length-s.1) ⟨0,Nat.zero_le _,WX _ _⟩ (Zk _ _)<|λs => ?_
 obtain ⟨k,hk0,hs0⟩:=s
 show ETri J w0 (ofL<|Kj p q) (ofT 47<|XPv_h2 q k) _
 refine Zi ?_
 by_cases hs7:(k:Int)<(q.bad.length:Int)
 refine Za<|ol (dT hs7)<|jD<|ZM rfl<|Zj<|jC<|Zh<|jB<|oC (xS (k*2) 23 25 U28) I0 I0<|oA (Zl (z:=2) (.tmp 27) rfl U82 rfl (by kernel_rfl) (ZJ lenRw q.bad k<|by omega) rfl) I0<|oZ 3 Z82<|oY<|kN 47 [(1,.box 27 (cFm p)),(2,.box 30 (cPq q)),(3,.box 82 (cRw q.bad[k]))] (XPv_h3 q k)<|jC<|jB<|W3<|oW<|oW<|oK (KX p.sz.length HP.lstates q.bad[k].1 (HQ.bad q.bad[k] (List.getElem_mem<|by omega)).1) [Zc q.bad[k].1,iv p.sz.length] rfl rfl<|oS (iv<|someE p.sz.length q.bad[k].1)<|jD ?_
 by_cases hs8:someE p.sz.length q.bad[k].1=0
 refine Za<|oW<|on (dT' hs8)<|jF<|Zi ?_
 by_cases hs9:(inB 1 3 q.bad[k].2)=true
 exact Za<|W2<|oK (Zo (ZaK q.bad[k].2 1 3) hs9) [iv q.bad[k].2,iv 1,iv 3] rfl rfl<|oS bF<|jI<|Zj<|Zs<|Zf<|Za<|oV ((k+1:Nat):Int)<|oS (iv (k+1:Nat))<|jA<|Zp ⟨k+1,by omega,WY (by omega) hs0 (cnt_0 (Za7 hs8).1 (Za7 hs8).2 hs9)⟩ (show q.bad.length-(k+1)<q.bad.length-k by omega)<|Zk _ _
 have hs9f:(inB 1 3 q.bad[k].2)=false:=by simpa using hs9
 exact Za<|W2<|oK (Zo (ZaK q.bad[k].2 1 3) hs9f) [iv q.bad[k].2,iv 1,iv 3] rfl rfl<|oS bT<|jG<|oS (iv 1)<|jE<|Ze<|Zb<|Zb<|Ze<|ZW<|Zb<|Zd results53 (.tmp rfl)<|congrArg (λx:Int=>AV.v (.int .i64 x))<|(Zcm ⟨(λh=>hs1 h.1),hs6⟩ (k:=k) (by omega) hs0 (cnt_b (Za7 hs8).1 (Za7 hs8).2 hs9f)<|by decide).symm
 exact Za<|oW<|on (dF' hs8)<|jG<|oF (iv<|someE p.sz.length q.bad[k].1)<|jE<|Zb<|Ze<|Zb<|Zb<|Ze<|ZW<|Zb<|Zd results53 (.tmp rfl)<|congrArg (λx:Int=>AV.v (.int .i64 x))<|(Zcm ⟨(λh=>hs1 h.1),hs6⟩ (k:=k) (by omega) hs0 (some_ne hs8) hs8).symm
 refine Za<|ol (dF hs7)<|kN 47 (Kj p q) (XPv_h4 q k)<|jC<|Zu rfl<|jO ?_
 exact YN (by have:k=q.bad.length:=(by omega);subst this;exact hs0)<|Zk _ _
 exact jC<|Za<|W3<|oK (ZcT HP q.adj) [.agg (cFm p),Zc q.adj] rfl rfl<|oS (iv<|adjE p q.adj)<|jE<|Zd results53 (.tmp rfl)<|congrArg (λx:Int=>AV.v (.int .i64 x))<|(Zb4 ⟨(λh=>hs1 h.1),hs6⟩ CNT).symm
abbrev XPv_h5 (x0:Pq) (x1:Nat):List (Nat × AV):=[(2,bx 1),(3,bx 2),(64,Zc x0.start),(65,iv x0.start.length),(66,iv x1)]
abbrev XPv_h6 (x0:Pq) (x1:Nat):List (Nat × AV):=[(2,bx 1),(3,bx 2),(64,Zc x0.start),(65,iv x0.start.length),(66,iv x1),(67,bF)]
theorem YD (HP:FmOk p) (HQ:PqOk q):Ctr Tryz.prog J 31 [.agg (cFm p),.agg (cPq q)] (iv<|vpE p q):=by
 have l1:=HQ.lstart
 refine Zn func31 rfl (pN (Zg<|Zy p)<|pN (Zg<|Yd q) pZ) (n:=88) rfl (by simp)<|λw0 => jB<|oX 1 (.agg (cFm p))<|oX 2 (.agg (cPq q))<|oS (iv 0)<|jD<|jB<|oW<|oK (KP HP) [.agg (cFm p)] rfl rfl<|oS (iv<|valE p)<|jD ?_
 by_cases hs1:valE p=0
 refine Za<|oW<|on (dT' hs1)<|jF<|Zi<|Zh<|Zi ?_
 by_cases hs2:(nameB q.nm.toList)=true
 refine Za<|W2<|oK (Zo (Zbb q.nm HQ.nm) hs2) [sv q.nm] rfl rfl<|oF bF<|jI<|Zi ?_
 by_cases hs3:q.kind=1
 refine Za<|W2<|on (dT' hs3)<|oS bF<|V3<|oF bF<|jI<|Zi ?_
 by_cases hs4:0<(q.goal.length:Int)
 exact Za<|W2<|oe (dT hs3)<|oS bT<|W3<|og (dT hs4)<|oF bT<|jG<|oS (iv 1)<|jE<|Ze<|Zb<|Zd results31 (.tmp rfl)<|congrArg (λx:Int=>AV.v (.int .i64 x))<|((WA hs1 hs2).trans (v2_g hs3 hs4)).symm
 refine Za<|W2<|oe (dT hs3)<|oS bT<|W3<|og (dF hs4)<|oF bF<|jI<|jB<|oF (iv q.kind)<|oC (ZH rfl<|dF (show ¬ q.kind=2 by omega)) I0 I0<|oS bF<|V5<|qK<|qK<|V3<|oF bF<|jI<|Zj<|Zs<|jC<|jB<|W4<|oW<|oK (Zct p.sz.length HP.lstates q.start HQ.start) [Zc q.start,iv p.sz.length] rfl rfl<|oS (iv<|setE p.sz.length q.start)<|kN 88 (Kj p q) [(2,bx 1),(3,bx 2),(4,iv 0),(6,iv (setE p.sz.length q.start))]<|jC ?_
 by_cases hs5:setE p.sz.length q.start=0
 refine Za<|oW<|on (dT' hs5)<|jF<|jM<|Za<|oF (Zc q.start)<|oS (iv q.start.length)<|oS (iv 0)<|jA<|Ye (subB p.init q.start q.start.length=true) (ofL<|Kj p q) (ofT 88 [(2,bx 1),(3,bx 2)]) ?_<|λSUB => ?_
 refine Zh<|Zw (σ:={k:Nat // k<=q.start.length/\subB p.init q.start k=true}) (λs=>(ofL (Kj p q),ofT 88 [(2,bx 1),(3,bx 2),(64,Zc q.start),(65,iv q.start.length),(66,iv s.1)])) (λs=>q.start.length-s.1) ⟨0,Nat.zero_le _,rfl⟩ (Zk _ _)<|λs => ?_
 obtain ⟨k,hk0,hs0⟩:=s
 show ETri J w0 (ofL<|Kj p q) (ofT 88<|XPv_h5 q k) _
 refine Zi ?_
 by_cases hs6:(k:Int)<(q.start.length:Int)
 refine Za<|ol (dT hs6)<|jD<|ZM rfl<|Zj<|jC<|Zh<|jB<|oC (xS (k*1) 64 66 U24) I0 I0<|oL (iv q.start[k]) (Zr q.start<|by omega)<|oS (iv q.start[k])<|jD ?_
 by_cases hs7:(decide<|q.start[k]∈p.init)=true
 exact Za<|W3<|oK (Zo (Ym p.init q.start[k] HP.linit) hs7) [Zc p.init,iv q.start[k]] rfl rfl<|oS bF<|jI<|Zj<|Zs<|Zf<|Za<|oV ((k+1:Nat):Int)<|oS (iv (k+1:Nat))<|jA<|Zp ⟨k+1,by omega,Zau (by omega) hs0 hs7⟩ (show q.start.length-(k+1)<q.start.length-k by omega)<|Zk _ _
 have hs7f:(decide<|q.start[k]∈p.init)=false:=by simpa using hs7
 exact Za<|W3<|oK (Zo (Ym p.init q.start[k] HP.linit) hs7f) [Zc p.init,iv q.start[k]] rfl rfl<|oS bT<|jG<|oS (iv 5)<|jE<|Ze<|Zb<|Zb<|Ze<|ZW<|Zb<|Zd results31 (.tmp rfl)<|congrArg (λx:Int=>AV.v (.int .i64 x))<|((WA hs1 hs2).trans ((Zcf hs3 hs4).trans (v3_i hs5 (k:=k) (by omega) hs7f))).symm
 refine Za<|ol (dF hs6)<|kN 88 (Kj p q) (XPv_h6 q k)<|jC<|Zu rfl<|jO ?_
 exact YN (by have:k=q.start.length:=(by omega);subst this;exact hs0)<|Zk _ _
 exact jC<|jB<|oF (iv q.kind)<|oC (ZH rfl<|dF (show ¬ q.kind=2 by omega)) I0 I0<|jF<|jB<|W2<|oK (badError_c HP HQ) [.agg (cFm p),.agg (cPq q)] rfl rfl<|oS (iv<|badE p q)<|jE<|Zd results31 (.tmp rfl)<|congrArg (λx:Int=>AV.v (.int .i64 x))<|((WA hs1 hs2).trans ((Zcf hs3 hs4).trans (Zce hs5 SUB))).symm
 exact Za<|oW<|on (dF' hs5)<|jG<|oF (iv<|setE p.sz.length q.start)<|jE<|Zb<|Zd results31 (.tmp rfl)<|congrArg (λx:Int=>AV.v (.int .i64 x))<|((WA hs1 hs2).trans ((Zcf hs3 hs4).trans (v3_s hs5))).symm
 by_cases hs8:q.kind=2
 refine Za<|W2<|on (dF' hs3)<|oS bT<|W2<|on (dT' hs8)<|oF bF<|jI<|jB<|W2<|oe (dF hs3)<|oS bF<|V4<|oF bF<|ZL<|Zf<|Zu rfl<|Zi ?_
 by_cases hs9:0<(q.bad.length:Int)
 exact Za<|W2<|oe (dT hs8)<|oS bT<|W3<|og (dT hs9)<|oS bT<|V4<|oW<|oF bT<|jG<|oS (iv 1)<|jA<|ZQ<|Ze<|Zb<|Zd results31 (.tmp rfl)<|congrArg (λx:Int=>AV.v (.int .i64 x))<|((WA hs1 hs2).trans (v2_b hs3 hs8 hs9)).symm
 by_cases hs10:0<(q.adj.length:Int)
 exact Za<|W2<|oe (dT hs8)<|oS bT<|W3<|og (dF hs9)<|oS bF<|W3<|og (dT hs10)<|oW<|oF bT<|jG<|oS (iv 1)<|jA<|ZQ<|Ze<|Zb<|Zd results31 (.tmp rfl)<|congrArg (λx:Int=>AV.v (.int .i64 x))<|((WA hs1 hs2).trans (v2_a hs3 hs8 hs9 hs10)).symm
 refine Za<|W2<|oe (dT hs8)<|oS bT<|W3<|og (dF hs9)<|oS bF<|W3<|og (dF hs10)<|oW<|oF bF<|jI<|Zj<|Zs<|jC<|Zi<|Za<|W4<|oW<|oK (Zct p.sz.length HP.lstates q.start HQ.start) [Zc q.start,iv p.sz.length] rfl rfl<|oS (iv<|setE p.sz.length q.start)<|jD ?_
 by_cases hs11:setE p.sz.length q.start=0
 refine Za<|oW<|on (dT' hs11)<|kN 88 (Kj p q) [(2,bx 1),(3,bx 2),(4,iv 0),(6,iv (setE p.sz.length q.start)),(61,bF)]<|jJ<|jM<|Za<|oF (Zc q.start)<|oS (iv q.start.length)<|oS (iv 0)<|jA<|Ye (subB p.init q.start q.start.length=true) (ofL<|Kj p q) (ofT 88 [(2,bx 1),(3,bx 2)]) ?_<|λSUB => ?_
 refine Zh<|Zw (σ:={k:Nat // k<=q.start.length/\subB p.init q.start k=true}) (λs=>(ofL (Kj p q),ofT 88 [(2,bx 1),(3,bx 2),(64,Zc q.start),(65,iv q.start.length),(66,iv s.1)])) (λs=>q.start.length-s.1) ⟨0,Nat.zero_le _,rfl⟩ (Zk _ _)<|λs => ?_
 obtain ⟨k,hk0,hs0⟩:=s
 show ETri J w0 (ofL<|Kj p q) (ofT 88<|XPv_h5 q k) _
 refine Zi ?_
 by_cases hs12:(k:Int)<(q.start.length:Int)
 refine Za<|ol (dT hs12)<|jD<|ZM rfl<|Zj<|jC<|Zh<|jB<|oC (xS (k*1) 64 66 U24) I0 I0<|oL (iv q.start[k]) (Zr q.start<|by omega)<|oS (iv q.start[k])<|jD ?_
 by_cases hs13:(decide<|q.start[k]∈p.init)=true
 exact Za<|W3<|oK (Zo (Ym p.init q.start[k] HP.linit) hs13) [Zc p.init,iv q.start[k]] rfl rfl<|oS bF<|jI<|Zj<|Zs<|Zf<|Za<|oV ((k+1:Nat):Int)<|oS (iv (k+1:Nat))<|jA<|Zp ⟨k+1,by omega,Zau (by omega) hs0 hs13⟩ (show q.start.length-(k+1)<q.start.length-k by omega)<|Zk _ _
 have hs13f:(decide<|q.start[k]∈p.init)=false:=by simpa using hs13
 exact Za<|W3<|oK (Zo (Ym p.init q.start[k] HP.linit) hs13f) [Zc p.init,iv q.start[k]] rfl rfl<|oS bT<|jG<|oS (iv 5)<|jE<|Ze<|Zb<|Zb<|Ze<|ZW<|Zb<|Zd results31 (.tmp rfl)<|congrArg (λx:Int=>AV.v (.int .i64 x))<|((WA hs1 hs2).trans ((v2_2 hs3 hs8 hs9 hs10).trans (v3_i hs11 (k:=k) (by omega) hs13f))).symm
 refine Za<|ol (dF hs12)<|kN 88 (Kj p q) (XPv_h6 q k)<|jC<|Zu rfl<|jO ?_
 exact YN (by have:k=q.start.length:=(by omega);subst this;exact hs0)<|Zk _ _
 exact jC<|jB<|W2<|oe (dT hs8)<|jG<|W4<|oW<|oK (KX p.sz.length HP.lstates q.goal HQ.goal) [Zc q.goal,iv p.sz.length] rfl rfl<|oS (iv<|someE p.sz.length q.goal)<|jE<|Zb<|Zd results31 (.tmp rfl)<|congrArg (λx:Int=>AV.v (.int .i64 x))<|((WA hs1 hs2).trans ((v2_2 hs3 hs8 hs9 hs10).trans (Zce hs11 SUB))).symm
 exact Za<|oW<|on (dF' hs11)<|jG<|oF (iv<|setE p.sz.length q.start)<|jE<|Zb<|Zd results31 (.tmp rfl)<|congrArg (λx:Int=>AV.v (.int .i64 x))<|((WA hs1 hs2).trans ((v2_2 hs3 hs8 hs9 hs10).trans (v3_s hs11))).symm
 exact Za<|W2<|on (dF' hs3)<|oS bT<|W2<|on (dF' hs8)<|oF bT<|jG<|oS (iv 1)<|jE<|Ze<|Zb<|Zd results31 (.tmp rfl)<|congrArg (λx:Int=>AV.v (.int .i64 x))<|((WA hs1 hs2).trans (v2_k hs3 hs8)).symm
 have hs2f:(nameB q.nm.toList)=false:=by simpa using hs2
 exact Za<|W2<|oK (Zo (Zbb q.nm HQ.nm) hs2f) [sv q.nm] rfl rfl<|oF bT<|jG<|oS (iv 2)<|jE<|Ze<|Zb<|Zd results31 (.tmp rfl)<|congrArg (λx:Int=>AV.v (.int .i64 x))<|(vp_n hs1 hs2f).symm
 exact Za<|oW<|on (dF' hs1)<|jG<|oF (iv<|valE p)<|jE<|Zb<|Zd results31 (.tmp rfl)<|congrArg (λx:Int=>AV.v (.int .i64 x))<|(vp_v hs1).symm
end Go.Proofs.YtmpgnibfhjdfpaaGreat
