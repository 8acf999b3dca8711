import Derived.Test.YtmpgnibfhjdfpaaGreatGrpcpddaaie
import Derived.Test.YtmpgnibfhjdfpaaGreatGrphmlokojd
import Derived.Test.YtmpgnibfhjdfpaaGreatGrpcjplndde
import Derived.Test.YtmpgnibfhjdfpaaGreatGrpblkdaogj
import Derived.Test.YtmpgnibfhjdfpaaGreatGrppoikgaho
import Derived.Test.YtmpgnibfhjdfpaaGreatGrphhmpajpk
import Derived.Test.YtmpgnibfhjdfpaaGreatGrpmjilcokc
import Derived.Test.YtmpgnibfhjdfpaaGreatGrplfdmpooj
import Derived.Test.YtmpgnibfhjdfpaaGreatGrpfeghdkpi
import Derived.Test.YtmpgnibfhjdfpaaGreatGrpikjlcdag
set_option linter.all false
namespace Go.Proofs.YtmpgnibfhjdfpaaGreat
open Go.RowKit Go.Deep Tryz
variable {J:World->Prop}
abbrev XAp1_h1 (x0:Int) (x1:Int) (x2:Int) (x3:Cf) (x4:Ru) (x5:Nat) (x6:Int) (x7:Nat):List (Nat × ABlk):=[(1,.box 62 (En.cfV x0 (Ap.mid (x1-x2) x3 x4 x5 x6 (x7+1)))),(2,.box 62 [iv 0,iv 0,iv 0,iv 0,iv 0,iv 0,iv 0,iv 0,iv 0,iv 0,iv 0,iv 0,iv 0,iv 0,iv 0,iv 0])]
abbrev XAp1_h2 (x0:Fm) (x1:Int) (x2:Int) (x3:Int) (x4:Nat) (x5:Nat) (x6:Int) (x7:Ru) (x8:Nat):List (Nat × AV):=[(0,.el (En.sysP x0 x1 x2 x3) 0),(4,bx 1),(5,.el ([iv x4,iv x5,iv x6]) 0),(6,bx 2),(7,.el (x0.rz.flatMap cRu) (x4*18)),(69,Zc x7.send),(70,iv (x7.send.length:Nat)),(71,iv ((x8+1):Nat))]
variable {p:Fm}{n t f kp:Int}{c:Cf}{i:Nat}
set_option maxRecDepth 100000 in
set_option maxHeartbeats 6400000 in
theorem after_c (HL:FamLen p) (hc:En.CfV p n f c) (hv:valE p=0) (l8:c.st.length<=8) {sx:Int} {r:Nat} (hr:r<p.rz.length) (hi:i<c.st.length) (hpt:p.rz[r].kind=2\/p.rz[r].kind=5->0<=kp/\kp<(c.st.length:Int)):Ctr Tryz.prog J 39 [.el (En.sysP p n t f) 0,.agg (En.cfV sx c),.agg [iv r,iv i,iv kp]] (.agg (En.cfV sx<|Ap.af (n-f) c p.rz[r] i kp)):=by
 have R:=En.val_in hv<|List.getElem_mem hr
 have hz:=En.val_sizes hv
 have hn:=hc.ln.symm
 have hls:=hc.ls
 have hlf:=hc.lf
 have hsl:=(HL.rz _<|List.getElem_mem hr).send
 refine Zn func39 rfl (pN (show Plain (.el (En.sysP p n t f) 0) from .el (ZE<|En.plain_sysP p n t f))<|pN (Zg<|En.plain_cfV _ c)<|pN (Zg<|pN (.v _)<|pN (.v _)<|pN (.v _) pZ) pZ) (n:=108) rfl (by simp)<|λw0 => jB<|oX 1 (.agg (En.cfV sx c))<|oA (ZC (X := .agg [iv r,iv i,iv kp]) (.tmp 2) rfl rfl rfl) I0<|oZ 2 Z62<|jD<|tD<|dW<|dW<|dW<|dW<|dS (slA 18 cRu p.rz)<|dW<|dS (iv r)<|dC (xS (r*18) 16 18 U25) I0 I0<|dS (.el (p.rz.flatMap cRu) (r*18))<|eD<|jC<|jB<|W3<|oL (iv p.rz[r].kind) (fT lenRu p.rz r 1)<|oC (ZH rfl rfl) I0 I0<|jA ?_
 refine Ye (True) (ofL [(1,.box 62 (En.cfV sx<|Ap.wst c<|Ap.st0 c p.rz[r])),(2,.box 62 [iv 0,iv 0,iv 0,iv 0,iv 0,iv 0,iv 0,iv 0,iv 0,iv 0,iv 0,iv 0,iv 0,iv 0,iv 0,iv 0])]) (ofT 108 [(0,.el (En.sysP p n t f) 0),(4,bx 1),(5,.el ([iv r,iv i,iv kp]) 0),(6,bx 2),(7,.el (p.rz.flatMap cRu) (r*18))]) ?_<|λ_ => ?_
 by_cases hs1:p.rz[r].kind=3
 rw [dT hs1]
 refine jK<|oS (.box 1 1)<|W2<|oF (iv<|Ns.cntE p n f)<|oC (ZdT (n:=c.st.length) (.tmp 25) (.tmp 29) rfl U58 (by kernel_rfl) (by omega) rfl hn) I0 I0<|oA (sp_lenBsl (.tmp 30) rfl U24) I0<|oS (iv 0)<|kN 108 [(1,.box 62 (En.cfV sx c)),(2,.box 62 [iv 0,iv 0,iv 0,iv 0,iv 0,iv 0,iv 0,iv 0,iv 0,iv 0,iv 0,iv 0,iv 0,iv 0,iv 0,iv 0])] [(0,.el (En.sysP p n t f) 0),(4,bx 1),(5,.el ([iv r,iv i,iv kp]) 0),(6,bx 2),(7,.el (p.rz.flatMap cRu) (r*18)),(30,.bsl 1 1 c.st.length),(31,iv c.st.length),(32,iv 0)]<|Zf<|Zh ?_
 rw [show En.cfV sx c=En.cfV sx (Ap.wst c<|Ap.brL p.rz[r] c.st 0) by rw [Ap.brL_zero];rfl]
 refine Zw (σ:={j:Nat // j<=c.st.length}) (λs=>(ofL [(1,.box 62 (En.cfV sx<|Ap.wst c<|Ap.brL p.rz[r] c.st s.1)),(2,.box 62 [iv 0,iv 0,iv 0,iv 0,iv 0,iv 0,iv 0,iv 0,iv 0,iv 0,iv 0,iv 0,iv 0,iv 0,iv 0,iv 0])],ofT 108 [(0,.el (En.sysP p n t f) 0),(4,bx 1),(5,.el ([iv r,iv i,iv kp]) 0),(6,bx 2),(7,.el (p.rz.flatMap cRu) (r*18)),(30,.bsl 1 1 c.st.length),(31,iv c.st.length),(32,iv s.1)])) (λs=>c.st.length-s.1) ⟨0,Nat.zero_le _⟩ (Zk _ _)<|λs => ?_
 obtain ⟨j,hj0⟩:=s
 show ETri J w0 (ofL [(1,.box 62 (En.cfV sx<|Ap.wst c<|Ap.brL p.rz[r] c.st j)),(2,.box 62 [iv 0,iv 0,iv 0,iv 0,iv 0,iv 0,iv 0,iv 0,iv 0,iv 0,iv 0,iv 0,iv 0,iv 0,iv 0,iv 0])]) (ofT 108 [(0,.el (En.sysP p n t f) 0),(4,bx 1),(5,.el ([iv r,iv i,iv kp]) 0),(6,bx 2),(7,.el (p.rz.flatMap cRu) (r*18)),(30,.bsl 1 1 c.st.length),(31,iv c.st.length),(32,iv j)]) _
 refine Zi ?_
 by_cases hs2:(j:Int)<(c.st.length:Int)
 have hj1:j<c.st.length:=by omega
 have hst:=Ap.cst_in hc hj1
 have hre:=R.re<|by assumption
 have hrs:(c.st.getD j 0).toNat<p.rz[r].resp.length:=by omega
 refine Za<|ol (dT hs2)<|jD<|ZM rfl<|Zj<|jC<|Zh<|jB<|oW<|oC (Ze1 (off':=1+j*1) (.tmp 30) (.tmp 32) rfl U24 (by kernel_rfl) (by omega) (by omega) rfl) I0 I0<|oB (lB (.box 62 (En.cfV sx<|Ap.wst c<|Ap.brL p.rz[r] c.st j)) (iv<|c.st.getD j 0) (.tmp 35) rfl U3 rfl<|Ap.br_load hj1 l8) I0 rfl<|oS (iv j)<|oS (iv<|c.st.getD j 0)<|jA<|Za<|oS (iv j)<|W3 ?_
 refine oL (Zc p.rz[r].resp) (fT lenRu p.rz r 6)<|oS (iv<|c.st.getD j 0)<|oC (xS (((c.st.getD j 0).toNat)*1) 41 42 U24) I0 I0<|oL (iv<|p.rz[r].resp[(c.st.getD j 0).toNat]) (Zr p.rz[r].resp (by omega))<|oS (.box 1 1)<|oC (Z9 (off':=1+j*1) (.tmp 45) (.tmp 37) rfl U58 (by kernel_rfl) (by omega) (by omega) rfl) I0 I0<|YA rfl (Yo (T0:=62) (X:=iv (p.rz[r].resp[(c.st.getD j 0).toNat])) (off:=1+j*1) (cs:=En.cfV sx (Ap.wst c<|Ap.brL p.rz[r] c.st j)) (ds:=En.cfV sx (Ap.wst c<|Ap.brL p.rz[r] c.st (j+1))) (z:=1) (.tmp 46) (.tmp 44) rfl (by kernel_rfl) (by kernel_rfl) (by kernel_rfl) (by show _<=16;omega)<|Ap.br_step hj1 l8<|Ap.brd_at hrs) ⟨I0,I0,T0⟩ ⟨rfl,T0⟩ rfl<|ZL<|Zs<|Zf<|Za<|oV ((j+1:Nat):Int)<|oS (iv (j+1:Nat))<|jA ?_
 refine Zp ⟨j+1,by omega⟩ (show c.st.length-(j+1)<c.st.length-j by omega) ?_
 show Wk _ _ (ofL [(1,.box 62 (En.cfV sx<|Ap.wst c<|Ap.brL p.rz[r] c.st (j+1))),(2,.box 62 [iv 0,iv 0,iv 0,iv 0,iv 0,iv 0,iv 0,iv 0,iv 0,iv 0,iv 0,iv 0,iv 0,iv 0,iv 0,iv 0])]) (ofT 108 [(0,.el (En.sysP p n t f) 0),(4,bx 1),(5,.el ([iv r,iv i,iv kp]) 0),(6,bx 2),(7,.el (p.rz.flatMap cRu) (r*18)),(30,.bsl 1 1 c.st.length),(31,iv c.st.length),(32,iv ((j+1):Nat))])
 exact Zk _ _
 refine Za<|ol (dF hs2)<|kN 108 [(1,.box 62 (En.cfV sx<|Ap.wst c<|Ap.brL p.rz[r] c.st j)),(2,.box 62 [iv 0,iv 0,iv 0,iv 0,iv 0,iv 0,iv 0,iv 0,iv 0,iv 0,iv 0,iv 0,iv 0,iv 0,iv 0,iv 0])] [(0,.el (En.sysP p n t f) 0),(4,bx 1),(5,.el ([iv r,iv i,iv kp]) 0),(6,bx 2),(7,.el (p.rz.flatMap cRu) (r*18)),(30,.bsl 1 1 c.st.length),(31,iv c.st.length),(32,iv j),(33,bF)]<|jC<|Zu rfl<|jO ?_
 rw [show En.cfV sx (Ap.wst c<|Ap.st0 c p.rz[r])=En.cfV sx (Ap.wst c<|Ap.brL p.rz[r] c.st j) by rw [Ap.brL_all _ _ (by omega)];unfold Ap.st0;rw [if_pos hs1]]
 exact tM T0
 rw [dF hs1]
 refine Zu rfl<|Zj ?_
 rw [show En.cfV sx (Ap.wst c<|Ap.st0 c p.rz[r])=En.cfV sx c by unfold Ap.st0;rw [if_neg hs1];rfl]
 exact tM T0
 refine jC ?_
 refine tD<|dW<|dS (iv i)<|dW<|dW<|dW<|dL (iv p.rz[r].to) (fT lenRu p.rz r 3)<|dS (.box 1 1)<|dC (Z9 (off':=1+i*1) (.tmp 54) (.tmp 49) rfl U58 (by kernel_rfl) (by omega) (by omega) rfl) I0 I0<|dR (Yo (T0:=62) (X:=iv p.rz[r].to) (off:=1+i*1) (cs:=En.cfV sx (Ap.wst c<|Ap.st0 c p.rz[r])) (ds:=En.cfV sx (Ap.wst c<|Ap.st1 c p.rz[r] i)) (z:=1) (.tmp 55) (.tmp 53) rfl (by kernel_rfl) (by kernel_rfl) (by kernel_rfl) (by show _<=16;omega)<|Ap.cfV_setSt (c:=(Ap.wst c<|Ap.st0 c p.rz[r])) (by omega)<|by show i<(Ap.st0 c p.rz[r]).length;rw [Ap.st0_len];exact hi) ⟨I0,I0,T0⟩ ⟨rfl,T0⟩ rfl<|eD ?_
 refine jC<|jB<|oW<|oK (ZbY hr) [.el (p.rz.flatMap cRu) (r*18)] rfl rfl<|jA<|Ye (True) (ofL [(1,.box 62 (En.cfV sx<|Ap.mid (n-f) c p.rz[r] i kp 0)),(2,.box 62 [iv 0,iv 0,iv 0,iv 0,iv 0,iv 0,iv 0,iv 0,iv 0,iv 0,iv 0,iv 0,iv 0,iv 0,iv 0,iv 0])]) (ofT 108 [(0,.el (En.sysP p n t f) 0),(4,bx 1),(5,.el ([iv r,iv i,iv kp]) 0),(6,bx 2),(7,.el (p.rz.flatMap cRu) (r*18))]) ?_<|λ_ => ?_
 by_cases hs3:(decide (p.rz[r].kind=2)||decide (p.rz[r].kind=5))=true
 have hkp:=hpt<|En.or_t hs3
 rw [hs3]
 refine ZM rfl ?_
 refine tD<|dW<|dS (iv kp)<|dW<|dW<|dW<|dL (iv p.rz[r].pt) (fT lenRu p.rz r 5)<|dS (.box 1 1)<|dC (Z9 (off':=1+kp.toNat*1) (.tmp 64) (.tmp 59) rfl U58 (by kernel_rfl) (by omega) (by omega) rfl) I0 I0<|dR (Yo (T0:=62) (X:=iv p.rz[r].pt) (off:=1+kp.toNat*1) (cs:=En.cfV sx (Ap.wst c<|Ap.st1 c p.rz[r] i)) (ds:=En.cfV sx (Ap.wst c<|(Ap.st1 c p.rz[r] i).set kp.toNat p.rz[r].pt)) (z:=1) (.tmp 65) (.tmp 63) rfl (by kernel_rfl) (by kernel_rfl) (by kernel_rfl) (by show _<=16;omega)<|Ap.cfV_setSt (c:=(Ap.wst c<|Ap.st1 c p.rz[r] i)) (by omega)<|by show kp.toNat<(Ap.st1 c p.rz[r] i).length;rw [Ap.st1_len];omega) ⟨I0,I0,T0⟩ ⟨rfl,T0⟩ rfl<|eD ?_
 refine kW 108 [(1,.box 62 (En.cfV sx<|Ap.wst c<|(Ap.st1 c p.rz[r] i).set kp.toNat p.rz[r].pt)),(2,.box 62 [iv 0,iv 0,iv 0,iv 0,iv 0,iv 0,iv 0,iv 0,iv 0,iv 0,iv 0,iv 0,iv 0,iv 0,iv 0,iv 0])] [(0,.el (En.sysP p n t f) 0),(4,bx 1),(5,.el ([iv r,iv i,iv kp]) 0),(6,bx 2),(7,.el (p.rz.flatMap cRu) (r*18))] ?_
 rw [show En.cfV sx (Ap.mid (n-f) c p.rz[r] i kp 0)=En.cfV sx (Ap.wst c<|(Ap.st1 c p.rz[r] i).set kp.toNat p.rz[r].pt) by rw [Ap.mid_zero];unfold Ap.stA;rw [if_pos (En.or_t hs3)]]
 exact tM T0
 have hs3f:(decide (p.rz[r].kind=2)||decide (p.rz[r].kind=5))=false:=by simpa using hs3
 rw [hs3f]
 refine Zu rfl<|Zj ?_
 rw [show En.cfV sx (Ap.mid (n-f) c p.rz[r] i kp 0)=En.cfV sx (Ap.wst c<|Ap.st1 c p.rz[r] i) by rw [Ap.mid_zero];unfold Ap.stA;rw [if_neg (En.or_f hs3f)]]
 exact tM T0
 refine jC<|jB<|W3<|oL (Zc p.rz[r].send) (fT lenRu p.rz r 12)<|oS (iv (p.rz[r].send.length:Nat))<|oS (iv 0)<|jA<|Zh<|Zw (σ:={k:Nat // k<=p.rz[r].send.length}) (λs=>(ofL [(1,.box 62 (En.cfV sx<|Ap.mid (n-f) c p.rz[r] i kp s.1)),(2,.box 62 [iv 0,iv 0,iv 0,iv 0,iv 0,iv 0,iv 0,iv 0,iv 0,iv 0,iv 0,iv 0,iv 0,iv 0,iv 0,iv 0])],ofT 108 [(0,.el (En.sysP p n t f) 0),(4,bx 1),(5,.el ([iv r,iv i,iv kp]) 0),(6,bx 2),(7,.el (p.rz.flatMap cRu) (r*18)),(69,Zc p.rz[r].send),(70,iv (p.rz[r].send.length:Nat)),(71,iv s.1)])) (λs=>p.rz[r].send.length-s.1) ⟨0,Nat.zero_le _⟩ (Zk _ _)<|λs => ?_
 obtain ⟨k,hk0⟩:=s
 show ETri J w0 (ofL [(1,.box 62 (En.cfV sx<|Ap.mid (n-f) c p.rz[r] i kp k)),(2,.box 62 [iv 0,iv 0,iv 0,iv 0,iv 0,iv 0,iv 0,iv 0,iv 0,iv 0,iv 0,iv 0,iv 0,iv 0,iv 0,iv 0])]) (ofT 108 [(0,.el (En.sysP p n t f) 0),(4,bx 1),(5,.el ([iv r,iv i,iv kp]) 0),(6,bx 2),(7,.el (p.rz.flatMap cRu) (r*18)),(69,Zc p.rz[r].send),(70,iv (p.rz[r].send.length:Nat)),(71,iv k)]) _
 refine Zi ?_
 by_cases hs4:(k:Int)<((p.rz[r].send.length:Nat):Int)
 have hk1:k<p.rz[r].send.length:=by omega
 have hsm:=R.se _<|List.getElem_mem hk1
 have hb1:=Ap.getD_in (Ap.seA_in (cor:=(n-f)) (r:=p.rz[r]) (i:=i) (k:=k) hc.se) (by omega) p.rz[r].send[k].toNat
 have hb2:=Ap.getD_in (Ap.faA_in (cor:=(n-f)) (r:=p.rz[r]) (i:=i) (k:=k) hc.fa) (by omega) p.rz[r].send[k].toNat
 refine Za<|ol (dT hs4)<|jD<|ZM rfl<|Zj<|jC<|Zh<|jB<|oC (xS (k*1) 69 71 U24) I0 I0<|oL (iv p.rz[r].send[k]) (Zr p.rz[r].send (by omega))<|oS (iv p.rz[r].send[k])<|jD ?_
 by_cases hs5:(i:Int)<(n-f)
 refine tD<|dW<|dW<|dW<|dW<|dW<|dW<|dl (dT hs5)<|eD ?_
 refine Zf<|ZM rfl<|Za<|oS (iv p.rz[r].send[k])<|oS (.box 1 9)<|oC (Z9 (off':=9+p.rz[r].send[k].toNat*1) (.tmp 83) (.tmp 82) rfl U60 (by kernel_rfl) (by omega) (by omega) rfl) I0 I0<|oB (lB (.box 62 (En.cfV sx<|Ap.mid (n-f) c p.rz[r] i kp k)) (iv<|(Ap.seA (n-f) c p.rz[r] i k).getD p.rz[r].send[k].toNat 0) (.tmp 84) rfl U3 rfl<|Ap.cfV_se (c:=(Ap.mid (n-f) c p.rz[r] i kp k))<|by omega) I0 rfl<|oV (((Ap.seA (n-f) c p.rz[r] i k).getD p.rz[r].send[k].toNat 0)+1)<|oS (.box 1 9)<|oC (Z9 (off':=9+p.rz[r].send[k].toNat*1) (.tmp 87) (.tmp 82) rfl U60 (by kernel_rfl) (by omega) (by omega) rfl) I0 I0<|YA rfl (Yo (T0:=62) (X:=iv (((Ap.seA (n-f) c p.rz[r] i k).getD p.rz[r].send[k].toNat 0)+1)) (off:=9+p.rz[r].send[k].toNat*1) (cs:=En.cfV sx (Ap.mid (n-f) c p.rz[r] i kp k)) (ds:=En.cfV sx (Ap.mid (n-f) c p.rz[r] i kp (k+1))) (z:=1) (.tmp 88) (.tmp 86) rfl (by kernel_rfl) (by kernel_rfl) (by kernel_rfl) (by show _<=16;omega)<|Ap.se_step hs5 hk1 (by omega)<|by omega) ⟨I0,I0,T0⟩ ⟨rfl,T0⟩ rfl<|ZL<|Zs<|Zf<|Za<|oV ((k+1:Nat):Int)<|oS (iv (k+1:Nat))<|jA ?_
 refine Zp ⟨k+1,by omega⟩ (show p.rz[r].send.length-(k+1)<p.rz[r].send.length-k by omega) ?_
 show Wk _ _ (ofL<|XAp1_h1 sx n f c p.rz[r] i kp k) (ofT 108<|XAp1_h2 p n t f r i kp p.rz[r] k)
 exact Zk _ _
 refine tD<|dW<|dW<|dW<|dW<|dW<|dW<|dl (dF hs5)<|eD ?_
 refine Zf<|Zu rfl<|Za<|oS (iv p.rz[r].send[k])<|oS (.box 1 12)<|oC (Z9 (off':=12+p.rz[r].send[k].toNat*1) (.tmp 90) (.tmp 89) rfl U60 (by kernel_rfl) (by omega) (by omega) rfl) I0 I0<|oB (lB (.box 62 (En.cfV sx<|Ap.mid (n-f) c p.rz[r] i kp k)) (iv<|(Ap.faA (n-f) c p.rz[r] i k).getD p.rz[r].send[k].toNat 0) (.tmp 91) rfl U3 rfl<|En.cfV_fa (c:=(Ap.mid (n-f) c p.rz[r] i kp k))<|by omega) I0 rfl<|oV (((Ap.faA (n-f) c p.rz[r] i k).getD p.rz[r].send[k].toNat 0)+1)<|oS (.box 1 12)<|oC (Z9 (off':=12+p.rz[r].send[k].toNat*1) (.tmp 94) (.tmp 89) rfl U60 (by kernel_rfl) (by omega) (by omega) rfl) I0 I0<|YA rfl (Yo (T0:=62) (X:=iv (((Ap.faA (n-f) c p.rz[r] i k).getD p.rz[r].send[k].toNat 0)+1)) (off:=12+p.rz[r].send[k].toNat*1) (cs:=En.cfV sx (Ap.mid (n-f) c p.rz[r] i kp k)) (ds:=En.cfV sx (Ap.mid (n-f) c p.rz[r] i kp (k+1))) (z:=1) (.tmp 95) (.tmp 93) rfl (by kernel_rfl) (by kernel_rfl) (by kernel_rfl) (by show _<=16;omega)<|Ap.fa_step hs5 hk1 (by omega)<|by omega) ⟨I0,I0,T0⟩ ⟨rfl,T0⟩ rfl<|ZL<|Zs<|Zf<|Za<|oV ((k+1:Nat):Int)<|oS (iv (k+1:Nat))<|jA ?_
 refine Zp ⟨k+1,by omega⟩ (show p.rz[r].send.length-(k+1)<p.rz[r].send.length-k by omega) ?_
 show Wk _ _ (ofL<|XAp1_h1 sx n f c p.rz[r] i kp k) (ofT 108<|XAp1_h2 p n t f r i kp p.rz[r] k)
 exact Zk _ _
 refine Za<|ol (dF hs4)<|jD<|Zu rfl<|jO<|jC<|Zi ?_
 by_cases hs6:0<=p.rz[r].wr
 refine Za<|W3<|oL (iv p.rz[r].wr) (fT lenRu p.rz r 11)<|oh (dT hs6)<|jH<|Za<|W3<|oL (iv p.rz[r].wr) (fT lenRu p.rz r 11)<|oW<|oY<|kN 108 [(1,.box 62 [iv sx,iv ((Ap.mid (n-f) c p.rz[r] i kp k).st.getD 0 0),iv ((Ap.mid (n-f) c p.rz[r] i kp k).st.getD 1 0),iv ((Ap.mid (n-f) c p.rz[r] i kp k).st.getD 2 0),iv ((Ap.mid (n-f) c p.rz[r] i kp k).st.getD 3 0),iv ((Ap.mid (n-f) c p.rz[r] i kp k).st.getD 4 0),iv ((Ap.mid (n-f) c p.rz[r] i kp k).st.getD 5 0),iv ((Ap.mid (n-f) c p.rz[r] i kp k).st.getD 6 0),iv ((Ap.mid (n-f) c p.rz[r] i kp k).st.getD 7 0),iv ((Ap.mid (n-f) c p.rz[r] i kp k).se.getD 0 0),iv ((Ap.mid (n-f) c p.rz[r] i kp k).se.getD 1 0),iv ((Ap.mid (n-f) c p.rz[r] i kp k).se.getD 2 0),iv ((Ap.mid (n-f) c p.rz[r] i kp k).fa.getD 0 0),iv ((Ap.mid (n-f) c p.rz[r] i kp k).fa.getD 1 0),iv ((Ap.mid (n-f) c p.rz[r] i kp k).fa.getD 2 0),iv p.rz[r].wr]),(2,.box 62 [iv 0,iv 0,iv 0,iv 0,iv 0,iv 0,iv 0,iv 0,iv 0,iv 0,iv 0,iv 0,iv 0,iv 0,iv 0,iv 0])] [(4,bx 1),(6,bx 2)]<|jC<|Za<|oW<|oY<|kN 108 [(2,.box 62 [iv sx,iv ((Ap.mid (n-f) c p.rz[r] i kp k).st.getD 0 0),iv ((Ap.mid (n-f) c p.rz[r] i kp k).st.getD 1 0),iv ((Ap.mid (n-f) c p.rz[r] i kp k).st.getD 2 0),iv ((Ap.mid (n-f) c p.rz[r] i kp k).st.getD 3 0),iv ((Ap.mid (n-f) c p.rz[r] i kp k).st.getD 4 0),iv ((Ap.mid (n-f) c p.rz[r] i kp k).st.getD 5 0),iv ((Ap.mid (n-f) c p.rz[r] i kp k).st.getD 6 0),iv ((Ap.mid (n-f) c p.rz[r] i kp k).st.getD 7 0),iv ((Ap.mid (n-f) c p.rz[r] i kp k).se.getD 0 0),iv ((Ap.mid (n-f) c p.rz[r] i kp k).se.getD 1 0),iv ((Ap.mid (n-f) c p.rz[r] i kp k).se.getD 2 0),iv ((Ap.mid (n-f) c p.rz[r] i kp k).fa.getD 0 0),iv ((Ap.mid (n-f) c p.rz[r] i kp k).fa.getD 1 0),iv ((Ap.mid (n-f) c p.rz[r] i kp k).fa.getD 2 0),iv p.rz[r].wr])] [(6,bx 2)]<|Zf ?_
 refine ZQ<|Zd results39 (.cellS rfl rfl U62 rfl (z:=16) (by kernel_rfl) rfl (by decide)) ?_
 obtain rfl:k=p.rz[r].send.length:=by omega
 unfold Ap.af;rw [if_pos hs6]
 exact rfl
 refine Za<|W3<|oL (iv p.rz[r].wr) (fT lenRu p.rz r 11)<|oh (dF hs6)<|jF<|jB<|oW<|oY<|kN 108 [(2,.box 62 (En.cfV sx<|Ap.mid (n-f) c p.rz[r] i kp k))] [(6,bx 2)]<|Zf<|ZQ<|Zd results39 (.cellS rfl rfl U62 rfl (z:=16) (by kernel_rfl) rfl (by decide)) ?_
 obtain rfl:k=p.rz[r].send.length:=by omega
 unfold Ap.af;rw [if_neg hs6]
 exact rfl
set_option maxRecDepth 100000
set_option maxHeartbeats 6400000
abbrev XAp3_h1 (x0:Fm) (x1:Int) (x2:Int) (x3:Cf) (x4:Ru) (x5:Nat) (x6:Int):List (Nat × ABlk):=[(1,.box 62 [iv (Rd.shI x0.top (Ns.shT x0.top (Ns.cntE x0 x1 x2)) x3.sh),iv ((Ap.af (x1-x2) x3 x4 x5 x6).st.getD 0 0),iv ((Ap.af (x1-x2) x3 x4 x5 x6).st.getD 1 0),iv ((Ap.af (x1-x2) x3 x4 x5 x6).st.getD 2 0),iv ((Ap.af (x1-x2) x3 x4 x5 x6).st.getD 3 0),iv ((Ap.af (x1-x2) x3 x4 x5 x6).st.getD 4 0),iv ((Ap.af (x1-x2) x3 x4 x5 x6).st.getD 5 0),iv ((Ap.af (x1-x2) x3 x4 x5 x6).st.getD 6 0),iv ((Ap.af (x1-x2) x3 x4 x5 x6).st.getD 7 0),iv ((Ap.af (x1-x2) x3 x4 x5 x6).se.getD 0 0),iv ((Ap.af (x1-x2) x3 x4 x5 x6).se.getD 1 0),iv ((Ap.af (x1-x2) x3 x4 x5 x6).se.getD 2 0),iv ((Ap.af (x1-x2) x3 x4 x5 x6).fa.getD 0 0),iv ((Ap.af (x1-x2) x3 x4 x5 x6).fa.getD 1 0),iv ((Ap.af (x1-x2) x3 x4 x5 x6).fa.getD 2 0),iv ((Ap.af (x1-x2) x3 x4 x5 x6).val)]),(2,.box 62 [iv 0,iv 0,iv 0,iv 0,iv 0,iv 0,iv 0,iv 0,iv 0,iv 0,iv 0,iv 0,iv 0,iv 0,iv 0,iv 0])]
abbrev XAp3_h2 (x0:Fm) (x1:Int) (x2:Int) (x3:Cf) (x4:Ru) (x5:Nat) (x6:Int):List (Nat × ABlk):=[(2,.box 62 ([iv (Rd.shI x0.top (Ns.shT x0.top (Ns.cntE x0 x1 x2)) x3.sh),iv ((Ap.af (x1-x2) x3 x4 x5 x6).st.getD 0 0),iv ((Ap.af (x1-x2) x3 x4 x5 x6).st.getD 1 0),iv ((Ap.af (x1-x2) x3 x4 x5 x6).st.getD 2 0),iv ((Ap.af (x1-x2) x3 x4 x5 x6).st.getD 3 0),iv ((Ap.af (x1-x2) x3 x4 x5 x6).st.getD 4 0),iv ((Ap.af (x1-x2) x3 x4 x5 x6).st.getD 5 0),iv ((Ap.af (x1-x2) x3 x4 x5 x6).st.getD 6 0),iv ((Ap.af (x1-x2) x3 x4 x5 x6).st.getD 7 0),iv ((Ap.af (x1-x2) x3 x4 x5 x6).se.getD 0 0),iv ((Ap.af (x1-x2) x3 x4 x5 x6).se.getD 1 0),iv ((Ap.af (x1-x2) x3 x4 x5 x6).se.getD 2 0),iv ((Ap.af (x1-x2) x3 x4 x5 x6).fa.getD 0 0),iv ((Ap.af (x1-x2) x3 x4 x5 x6).fa.getD 1 0),iv ((Ap.af (x1-x2) x3 x4 x5 x6).fa.getD 2 0),iv ((Ap.af (x1-x2) x3 x4 x5 x6).val)]))]
theorem apply_ok (HL:FamLen p) (hc:En.CfV p n f c) (hv:valE p=0) (l8:c.st.length<=8) (hf:0<=f/\f<=1048576) {r:Nat} (hr:r<p.rz.length) (hi:i<c.st.length) (he:En.enB p n t f c (En.hdJ p f c p.msgs.length) (r:Int) (i:Int) kp=true) (hl:Rd.belB (Ap.af (n-f) c p.rz[r] i kp).se 1048577=true/\Rd.belB (Ap.af (n-f) c p.rz[r] i kp).fa 1048577=true):Ctr Tryz.prog J 18 [.el (En.sysP p n t f) 0,.agg (En.cfV (Rd.shI p.top (Ns.shT p.top<|Ns.cntE p n f) c.sh) c),.agg [iv r,iv i,iv kp]] (.tup [.agg (En.cfV (Rd.shI p.top (Ns.shT p.top<|Ns.cntE p n f) c.sh)<|Ap.af (n-f) c p.rz[r] i kp),iv 0]):=by
 have hz:=En.val_sizes hv
 have hls:=hc.ls
 have hlf:=hc.lf
 refine Zn func18 rfl (pN (show Plain (.el (En.sysP p n t f) 0) from .el (ZE<|En.plain_sysP p n t f))<|pN (Zg<|En.plain_cfV _ c)<|pN (Zg<|pN (.v _)<|pN (.v _)<|pN (.v _) pZ) pZ) (n:=33) rfl (by simp)<|λw0 => jB<|oX 1 (.agg (En.cfV (Rd.shI p.top (Ns.shT p.top<|Ns.cntE p n f) c.sh) c))<|oA (ZC (X := .agg [iv r,iv i,iv kp]) (.tmp 2) rfl rfl rfl) I0<|oZ 2 Z62<|oS (iv 0)<|jD<|Zi ?_
 refine tD<|dS (.el (En.sysP p n t f) 0)<|dS (.agg (En.cfV (Rd.shI p.top (Ns.shT p.top<|Ns.cntE p n f) c.sh) c))<|dA (Zl (z:=3) (.tmp 5) rfl U67 rfl (by kernel_rfl) rfl rfl) I0<|dW<|dW<|dk (Zfn hc hf hz.2.2.1) [.el (En.sysP p n t f) 0,.agg (En.cfV (Rd.shI p.top (Ns.shT p.top<|Ns.cntE p n f) c.sh) c)] rfl rfl<|dR (sc #[.tmp 8,.tmp 9,.tmp 10,.tmp 13] [] (Zo (Zb2 HL hc hv l8<|λm=>En.hdJ_in hc hf _ m) he) [.el (En.sysP p n t f) 0,.agg (En.cfV (Rd.shI p.top (Ns.shT p.top<|Ns.cntE p n f) c.sh) c),.agg ([iv r,iv i,iv kp]),.agg (En.msA<|En.hdJ p f c p.msgs.length)] rfl rfl rfl) ⟨I0,I0,I0,I0,.inr (.inl rfl),T0⟩ T0 T0<|dS bF<|eD ?_
 refine jJ<|jB<|W2<|oA (Zl (z:=3) (.tmp 5) rfl U67 rfl (by kernel_rfl) rfl rfl) I0<|oK (after_c HL hc hv l8 hr hi (kp:=kp)<|Ap.hpt_of he) [.el (En.sysP p n t f) 0,.agg (En.cfV (Rd.shI p.top (Ns.shT p.top<|Ns.cntE p n f) c.sh) c),.agg ([iv r,iv i,iv kp])] rfl rfl<|YA rfl (sB 16 4 (.tmp 20)<|.agg [iv (Rd.shI p.top (Ns.shT p.top<|Ns.cntE p n f) c.sh),iv ((Ap.af (n-f) c p.rz[r] i kp).st.getD 0 0),iv ((Ap.af (n-f) c p.rz[r] i kp).st.getD 1 0),iv ((Ap.af (n-f) c p.rz[r] i kp).st.getD 2 0),iv ((Ap.af (n-f) c p.rz[r] i kp).st.getD 3 0),iv ((Ap.af (n-f) c p.rz[r] i kp).st.getD 4 0),iv ((Ap.af (n-f) c p.rz[r] i kp).st.getD 5 0),iv ((Ap.af (n-f) c p.rz[r] i kp).st.getD 6 0),iv ((Ap.af (n-f) c p.rz[r] i kp).st.getD 7 0),iv ((Ap.af (n-f) c p.rz[r] i kp).se.getD 0 0),iv ((Ap.af (n-f) c p.rz[r] i kp).se.getD 1 0),iv ((Ap.af (n-f) c p.rz[r] i kp).se.getD 2 0),iv ((Ap.af (n-f) c p.rz[r] i kp).fa.getD 0 0),iv ((Ap.af (n-f) c p.rz[r] i kp).fa.getD 1 0),iv ((Ap.af (n-f) c p.rz[r] i kp).fa.getD 2 0),iv ((Ap.af (n-f) c p.rz[r] i kp).val)]) ⟨I0,.inr (.inr (.inl ⟨_,rfl,rfl⟩)),T0⟩ ⟨rfl,T0⟩ rfl<|jD<|Zi<|kW 33 (XAp3_h1 p n f c p.rz[r] i kp) [(4,bx 1),(6,bx 2),(7,iv 0)] ?_
 refine Yp (Zar 4 1 0 rfl rfl rfl rfl) ?_
 refine Za<|oS (.el ([iv (Rd.shI p.top (Ns.shT p.top<|Ns.cntE p n f) c.sh),iv ((Ap.af (n-f) c p.rz[r] i kp).st.getD 0 0),iv ((Ap.af (n-f) c p.rz[r] i kp).st.getD 1 0),iv ((Ap.af (n-f) c p.rz[r] i kp).st.getD 2 0),iv ((Ap.af (n-f) c p.rz[r] i kp).st.getD 3 0),iv ((Ap.af (n-f) c p.rz[r] i kp).st.getD 4 0),iv ((Ap.af (n-f) c p.rz[r] i kp).st.getD 5 0),iv ((Ap.af (n-f) c p.rz[r] i kp).st.getD 6 0),iv ((Ap.af (n-f) c p.rz[r] i kp).st.getD 7 0),iv ((Ap.af (n-f) c p.rz[r] i kp).se.getD 0 0),iv ((Ap.af (n-f) c p.rz[r] i kp).se.getD 1 0),iv ((Ap.af (n-f) c p.rz[r] i kp).se.getD 2 0),iv ((Ap.af (n-f) c p.rz[r] i kp).fa.getD 0 0),iv ((Ap.af (n-f) c p.rz[r] i kp).fa.getD 1 0),iv ((Ap.af (n-f) c p.rz[r] i kp).fa.getD 2 0),iv ((Ap.af (n-f) c p.rz[r] i kp).val)]) 9)<|oA (Yu (len:=3) (off:=9) (ds:=(([(Ap.af (n-f) c p.rz[r] i kp).se.getD 0 0,(Ap.af (n-f) c p.rz[r] i kp).se.getD 1 0,(Ap.af (n-f) c p.rz[r] i kp).se.getD 2 0]).map iv)) (.tmp 21) rfl U60 (by kernel_rfl) rfl rfl (by kernel_rfl) rfl) I0<|oK (Zo (Zo (Yh ([(Ap.af (n-f) c p.rz[r] i kp).se.getD 0 0,(Ap.af (n-f) c p.rz[r] i kp).se.getD 1 0,(Ap.af (n-f) c p.rz[r] i kp).se.getD 2 0])<|by simp)<|Ap.bel3 (l:=(Ap.af (n-f) c p.rz[r] i kp).se) (by show (Ap.seA _ _ _ _ _).length<=3;rw [Ap.seA_len];omega)<|by decide) hl.1) [Zc ([(Ap.af (n-f) c p.rz[r] i kp).se.getD 0 0,(Ap.af (n-f) c p.rz[r] i kp).se.getD 1 0,(Ap.af (n-f) c p.rz[r] i kp).se.getD 2 0]),iv 1048577] rfl rfl<|oF bF<|oS (.el ([iv (Rd.shI p.top (Ns.shT p.top<|Ns.cntE p n f) c.sh),iv ((Ap.af (n-f) c p.rz[r] i kp).st.getD 0 0),iv ((Ap.af (n-f) c p.rz[r] i kp).st.getD 1 0),iv ((Ap.af (n-f) c p.rz[r] i kp).st.getD 2 0),iv ((Ap.af (n-f) c p.rz[r] i kp).st.getD 3 0),iv ((Ap.af (n-f) c p.rz[r] i kp).st.getD 4 0),iv ((Ap.af (n-f) c p.rz[r] i kp).st.getD 5 0),iv ((Ap.af (n-f) c p.rz[r] i kp).st.getD 6 0),iv ((Ap.af (n-f) c p.rz[r] i kp).st.getD 7 0),iv ((Ap.af (n-f) c p.rz[r] i kp).se.getD 0 0),iv ((Ap.af (n-f) c p.rz[r] i kp).se.getD 1 0),iv ((Ap.af (n-f) c p.rz[r] i kp).se.getD 2 0),iv ((Ap.af (n-f) c p.rz[r] i kp).fa.getD 0 0),iv ((Ap.af (n-f) c p.rz[r] i kp).fa.getD 1 0),iv ((Ap.af (n-f) c p.rz[r] i kp).fa.getD 2 0),iv ((Ap.af (n-f) c p.rz[r] i kp).val)]) 12)<|gA (Yu (len:=3) (off:=12) (ds:=(([(Ap.af (n-f) c p.rz[r] i kp).fa.getD 0 0,(Ap.af (n-f) c p.rz[r] i kp).fa.getD 1 0,(Ap.af (n-f) c p.rz[r] i kp).fa.getD 2 0]).map iv)) (.tmp 26) rfl U60 (by kernel_rfl) rfl rfl (by kernel_rfl) rfl) I0<|oK (Zo (Zo (Yh ([(Ap.af (n-f) c p.rz[r] i kp).fa.getD 0 0,(Ap.af (n-f) c p.rz[r] i kp).fa.getD 1 0,(Ap.af (n-f) c p.rz[r] i kp).fa.getD 2 0])<|by simp)<|Ap.bel3 (l:=(Ap.af (n-f) c p.rz[r] i kp).fa) (by show (Ap.faA _ _ _ _ _).length<=3;rw [Ap.faA_len];omega)<|by decide) hl.2) [Zc ([(Ap.af (n-f) c p.rz[r] i kp).fa.getD 0 0,(Ap.af (n-f) c p.rz[r] i kp).fa.getD 1 0,(Ap.af (n-f) c p.rz[r] i kp).fa.getD 2 0]),iv 1048577] rfl rfl<|oW<|oS bF<|jF<|jB<|oA (Zl (z:=16) (.tmp 4) rfl U62 rfl (by kernel_rfl) rfl rfl) I0<|oY<|oS (iv 0)<|kN 33 (XAp3_h2 p n f c p.rz[r] i kp) [(6,bx 2),(7,iv 0)]<|Zf<|ZQ ?_
 exact ZY results18 (.cellS rfl rfl U62 rfl (z:=16) (by kernel_rfl) rfl (by decide)) (.tmp rfl)<|rfl
abbrev ZfI:List (Nat × ABlk):=[(2,.box 62 [iv 0,iv 0,iv 0,iv 0,iv 0,iv 0,iv 0,iv 0,iv 0,iv 0,iv 0,iv 0,iv 0,iv 0,iv 0,iv 0])]
abbrev XAp3_h4 (x0:Fm) (x1:Int) (x2:Int) (x3:Cf) (x4:Ru) (x5:Nat) (x6:Int):List (Nat × AV):=[(4,.el ([iv (Rd.shI x0.top (Ns.shT x0.top (Ns.cntE x0 x1 x2)) x3.sh),iv ((Ap.af (x1-x2) x3 x4 x5 x6).st.getD 0 0),iv ((Ap.af (x1-x2) x3 x4 x5 x6).st.getD 1 0),iv ((Ap.af (x1-x2) x3 x4 x5 x6).st.getD 2 0),iv ((Ap.af (x1-x2) x3 x4 x5 x6).st.getD 3 0),iv ((Ap.af (x1-x2) x3 x4 x5 x6).st.getD 4 0),iv ((Ap.af (x1-x2) x3 x4 x5 x6).st.getD 5 0),iv ((Ap.af (x1-x2) x3 x4 x5 x6).st.getD 6 0),iv ((Ap.af (x1-x2) x3 x4 x5 x6).st.getD 7 0),iv ((Ap.af (x1-x2) x3 x4 x5 x6).se.getD 0 0),iv ((Ap.af (x1-x2) x3 x4 x5 x6).se.getD 1 0),iv ((Ap.af (x1-x2) x3 x4 x5 x6).se.getD 2 0),iv ((Ap.af (x1-x2) x3 x4 x5 x6).fa.getD 0 0),iv ((Ap.af (x1-x2) x3 x4 x5 x6).fa.getD 1 0),iv ((Ap.af (x1-x2) x3 x4 x5 x6).fa.getD 2 0),iv ((Ap.af (x1-x2) x3 x4 x5 x6).val)]) 0),(6,bx 2),(7,iv 4)]
theorem apply_lg (HL:FamLen p) (hc:En.CfV p n f c) (hv:valE p=0) (l8:c.st.length<=8) (hf:0<=f/\f<=1048576) {r:Nat} (hr:r<p.rz.length) (hi:i<c.st.length) (he:En.enB p n t f c (En.hdJ p f c p.msgs.length) (r:Int) (i:Int) kp=true) (hl:¬ (Rd.belB (Ap.af (n-f) c p.rz[r] i kp).se 1048577=true/\Rd.belB (Ap.af (n-f) c p.rz[r] i kp).fa 1048577=true)):Ctr Tryz.prog J 18 [.el (En.sysP p n t f) 0,.agg (En.cfV (Rd.shI p.top (Ns.shT p.top<|Ns.cntE p n f) c.sh) c),.agg [iv r,iv i,iv kp]] (.tup [.agg Ap.z16,iv 4]):=by
 have hz:=En.val_sizes hv
 have hls:=hc.ls
 have hlf:=hc.lf
 refine Zn func18 rfl (pN (show Plain (.el (En.sysP p n t f) 0) from .el (ZE<|En.plain_sysP p n t f))<|pN (Zg<|En.plain_cfV _ c)<|pN (Zg<|pN (.v _)<|pN (.v _)<|pN (.v _) pZ) pZ) (n:=33) rfl (by simp)<|λw0 => jB<|oX 1 (.agg (En.cfV (Rd.shI p.top (Ns.shT p.top<|Ns.cntE p n f) c.sh) c))<|oA (ZC (X := .agg [iv r,iv i,iv kp]) (.tmp 2) rfl rfl rfl) I0<|oZ 2 Z62<|oS (iv 0)<|jD<|Zi ?_
 refine tD<|dS (.el (En.sysP p n t f) 0)<|dS (.agg (En.cfV (Rd.shI p.top (Ns.shT p.top<|Ns.cntE p n f) c.sh) c))<|dA (Zl (z:=3) (.tmp 5) rfl U67 rfl (by kernel_rfl) rfl rfl) I0<|dW<|dW<|dk (Zfn hc hf hz.2.2.1) [.el (En.sysP p n t f) 0,.agg (En.cfV (Rd.shI p.top (Ns.shT p.top<|Ns.cntE p n f) c.sh) c)] rfl rfl<|dR (sc #[.tmp 8,.tmp 9,.tmp 10,.tmp 13] [] (Zo (Zb2 HL hc hv l8<|λm=>En.hdJ_in hc hf _ m) he) [.el (En.sysP p n t f) 0,.agg (En.cfV (Rd.shI p.top (Ns.shT p.top<|Ns.cntE p n f) c.sh) c),.agg ([iv r,iv i,iv kp]),.agg (En.msA<|En.hdJ p f c p.msgs.length)] rfl rfl rfl) ⟨I0,I0,I0,I0,.inr (.inl rfl),T0⟩ T0 T0<|dS bF<|eD ?_
 refine jJ<|jB<|W2<|oA (Zl (z:=3) (.tmp 5) rfl U67 rfl (by kernel_rfl) rfl rfl) I0<|oK (after_c HL hc hv l8 hr hi (kp:=kp)<|Ap.hpt_of he) [.el (En.sysP p n t f) 0,.agg (En.cfV (Rd.shI p.top (Ns.shT p.top<|Ns.cntE p n f) c.sh) c),.agg ([iv r,iv i,iv kp])] rfl rfl<|YA rfl (sB 16 4 (.tmp 20)<|.agg [iv (Rd.shI p.top (Ns.shT p.top<|Ns.cntE p n f) c.sh),iv ((Ap.af (n-f) c p.rz[r] i kp).st.getD 0 0),iv ((Ap.af (n-f) c p.rz[r] i kp).st.getD 1 0),iv ((Ap.af (n-f) c p.rz[r] i kp).st.getD 2 0),iv ((Ap.af (n-f) c p.rz[r] i kp).st.getD 3 0),iv ((Ap.af (n-f) c p.rz[r] i kp).st.getD 4 0),iv ((Ap.af (n-f) c p.rz[r] i kp).st.getD 5 0),iv ((Ap.af (n-f) c p.rz[r] i kp).st.getD 6 0),iv ((Ap.af (n-f) c p.rz[r] i kp).st.getD 7 0),iv ((Ap.af (n-f) c p.rz[r] i kp).se.getD 0 0),iv ((Ap.af (n-f) c p.rz[r] i kp).se.getD 1 0),iv ((Ap.af (n-f) c p.rz[r] i kp).se.getD 2 0),iv ((Ap.af (n-f) c p.rz[r] i kp).fa.getD 0 0),iv ((Ap.af (n-f) c p.rz[r] i kp).fa.getD 1 0),iv ((Ap.af (n-f) c p.rz[r] i kp).fa.getD 2 0),iv ((Ap.af (n-f) c p.rz[r] i kp).val)]) ⟨I0,.inr (.inr (.inl ⟨_,rfl,rfl⟩)),T0⟩ ⟨rfl,T0⟩ rfl<|jD<|Zi<|kW 33 (XAp3_h1 p n f c p.rz[r] i kp) [(4,bx 1),(6,bx 2),(7,iv 0)] ?_
 refine Yp (Zar 4 1 0 rfl rfl rfl rfl) ?_
 refine kW 33 ZfI [(4,.el ([iv (Rd.shI p.top (Ns.shT p.top<|Ns.cntE p n f) c.sh),iv ((Ap.af (n-f) c p.rz[r] i kp).st.getD 0 0),iv ((Ap.af (n-f) c p.rz[r] i kp).st.getD 1 0),iv ((Ap.af (n-f) c p.rz[r] i kp).st.getD 2 0),iv ((Ap.af (n-f) c p.rz[r] i kp).st.getD 3 0),iv ((Ap.af (n-f) c p.rz[r] i kp).st.getD 4 0),iv ((Ap.af (n-f) c p.rz[r] i kp).st.getD 5 0),iv ((Ap.af (n-f) c p.rz[r] i kp).st.getD 6 0),iv ((Ap.af (n-f) c p.rz[r] i kp).st.getD 7 0),iv ((Ap.af (n-f) c p.rz[r] i kp).se.getD 0 0),iv ((Ap.af (n-f) c p.rz[r] i kp).se.getD 1 0),iv ((Ap.af (n-f) c p.rz[r] i kp).se.getD 2 0),iv ((Ap.af (n-f) c p.rz[r] i kp).fa.getD 0 0),iv ((Ap.af (n-f) c p.rz[r] i kp).fa.getD 1 0),iv ((Ap.af (n-f) c p.rz[r] i kp).fa.getD 2 0),iv ((Ap.af (n-f) c p.rz[r] i kp).val)]) 0),(6,bx 2),(7,iv 0)] ?_
 by_cases hs1:(Rd.belB (Ap.af (n-f) c p.rz[r] i kp).se 1048577)=true
 by_cases hs2:(Rd.belB (Ap.af (n-f) c p.rz[r] i kp).fa 1048577)=true
 refine Za<|oS (.el ([iv (Rd.shI p.top (Ns.shT p.top<|Ns.cntE p n f) c.sh),iv ((Ap.af (n-f) c p.rz[r] i kp).st.getD 0 0),iv ((Ap.af (n-f) c p.rz[r] i kp).st.getD 1 0),iv ((Ap.af (n-f) c p.rz[r] i kp).st.getD 2 0),iv ((Ap.af (n-f) c p.rz[r] i kp).st.getD 3 0),iv ((Ap.af (n-f) c p.rz[r] i kp).st.getD 4 0),iv ((Ap.af (n-f) c p.rz[r] i kp).st.getD 5 0),iv ((Ap.af (n-f) c p.rz[r] i kp).st.getD 6 0),iv ((Ap.af (n-f) c p.rz[r] i kp).st.getD 7 0),iv ((Ap.af (n-f) c p.rz[r] i kp).se.getD 0 0),iv ((Ap.af (n-f) c p.rz[r] i kp).se.getD 1 0),iv ((Ap.af (n-f) c p.rz[r] i kp).se.getD 2 0),iv ((Ap.af (n-f) c p.rz[r] i kp).fa.getD 0 0),iv ((Ap.af (n-f) c p.rz[r] i kp).fa.getD 1 0),iv ((Ap.af (n-f) c p.rz[r] i kp).fa.getD 2 0),iv ((Ap.af (n-f) c p.rz[r] i kp).val)]) 9)<|oA (Yu (len:=3) (off:=9) (ds:=(([(Ap.af (n-f) c p.rz[r] i kp).se.getD 0 0,(Ap.af (n-f) c p.rz[r] i kp).se.getD 1 0,(Ap.af (n-f) c p.rz[r] i kp).se.getD 2 0]).map iv)) (.tmp 21) rfl U60 (by kernel_rfl) rfl rfl (by kernel_rfl) rfl) I0<|oK (Zo (Zo (Yh ([(Ap.af (n-f) c p.rz[r] i kp).se.getD 0 0,(Ap.af (n-f) c p.rz[r] i kp).se.getD 1 0,(Ap.af (n-f) c p.rz[r] i kp).se.getD 2 0])<|by simp)<|Ap.bel3 (l:=(Ap.af (n-f) c p.rz[r] i kp).se) (by show (Ap.seA _ _ _ _ _).length<=3;rw [Ap.seA_len];omega)<|by decide) hs1) [Zc ([(Ap.af (n-f) c p.rz[r] i kp).se.getD 0 0,(Ap.af (n-f) c p.rz[r] i kp).se.getD 1 0,(Ap.af (n-f) c p.rz[r] i kp).se.getD 2 0]),iv 1048577] rfl rfl<|oF bF<|oS (.el ([iv (Rd.shI p.top (Ns.shT p.top<|Ns.cntE p n f) c.sh),iv ((Ap.af (n-f) c p.rz[r] i kp).st.getD 0 0),iv ((Ap.af (n-f) c p.rz[r] i kp).st.getD 1 0),iv ((Ap.af (n-f) c p.rz[r] i kp).st.getD 2 0),iv ((Ap.af (n-f) c p.rz[r] i kp).st.getD 3 0),iv ((Ap.af (n-f) c p.rz[r] i kp).st.getD 4 0),iv ((Ap.af (n-f) c p.rz[r] i kp).st.getD 5 0),iv ((Ap.af (n-f) c p.rz[r] i kp).st.getD 6 0),iv ((Ap.af (n-f) c p.rz[r] i kp).st.getD 7 0),iv ((Ap.af (n-f) c p.rz[r] i kp).se.getD 0 0),iv ((Ap.af (n-f) c p.rz[r] i kp).se.getD 1 0),iv ((Ap.af (n-f) c p.rz[r] i kp).se.getD 2 0),iv ((Ap.af (n-f) c p.rz[r] i kp).fa.getD 0 0),iv ((Ap.af (n-f) c p.rz[r] i kp).fa.getD 1 0),iv ((Ap.af (n-f) c p.rz[r] i kp).fa.getD 2 0),iv ((Ap.af (n-f) c p.rz[r] i kp).val)]) 12)<|gA (Yu (len:=3) (off:=12) (ds:=(([(Ap.af (n-f) c p.rz[r] i kp).fa.getD 0 0,(Ap.af (n-f) c p.rz[r] i kp).fa.getD 1 0,(Ap.af (n-f) c p.rz[r] i kp).fa.getD 2 0]).map iv)) (.tmp 26) rfl U60 (by kernel_rfl) rfl rfl (by kernel_rfl) rfl) I0<|oK (Zo (Zo (Yh ([(Ap.af (n-f) c p.rz[r] i kp).fa.getD 0 0,(Ap.af (n-f) c p.rz[r] i kp).fa.getD 1 0,(Ap.af (n-f) c p.rz[r] i kp).fa.getD 2 0])<|by simp)<|Ap.bel3 (l:=(Ap.af (n-f) c p.rz[r] i kp).fa) (by show (Ap.faA _ _ _ _ _).length<=3;rw [Ap.faA_len];omega)<|by decide) hs2) [Zc ([(Ap.af (n-f) c p.rz[r] i kp).fa.getD 0 0,(Ap.af (n-f) c p.rz[r] i kp).fa.getD 1 0,(Ap.af (n-f) c p.rz[r] i kp).fa.getD 2 0]),iv 1048577] rfl rfl<|oW<|oS bF<|jF<|jB<|oA (Zl (z:=16) (.tmp 4) rfl U62 rfl (by kernel_rfl) rfl rfl) I0<|oY<|oS (iv 0)<|kN 33 (XAp3_h2 p n f c p.rz[r] i kp) [(6,bx 2),(7,iv 0)]<|Zf<|ZQ ?_
 exact ZY results18 (.cellS rfl rfl U62 rfl (z:=16) (by kernel_rfl) rfl (by decide)) (.tmp rfl)<|absurd ⟨hs1,hs2⟩ hl
 have hs2f:(Rd.belB (Ap.af (n-f) c p.rz[r] i kp).fa 1048577)=false:=by simpa using hs2
 refine Za<|oS (.el ([iv (Rd.shI p.top (Ns.shT p.top<|Ns.cntE p n f) c.sh),iv ((Ap.af (n-f) c p.rz[r] i kp).st.getD 0 0),iv ((Ap.af (n-f) c p.rz[r] i kp).st.getD 1 0),iv ((Ap.af (n-f) c p.rz[r] i kp).st.getD 2 0),iv ((Ap.af (n-f) c p.rz[r] i kp).st.getD 3 0),iv ((Ap.af (n-f) c p.rz[r] i kp).st.getD 4 0),iv ((Ap.af (n-f) c p.rz[r] i kp).st.getD 5 0),iv ((Ap.af (n-f) c p.rz[r] i kp).st.getD 6 0),iv ((Ap.af (n-f) c p.rz[r] i kp).st.getD 7 0),iv ((Ap.af (n-f) c p.rz[r] i kp).se.getD 0 0),iv ((Ap.af (n-f) c p.rz[r] i kp).se.getD 1 0),iv ((Ap.af (n-f) c p.rz[r] i kp).se.getD 2 0),iv ((Ap.af (n-f) c p.rz[r] i kp).fa.getD 0 0),iv ((Ap.af (n-f) c p.rz[r] i kp).fa.getD 1 0),iv ((Ap.af (n-f) c p.rz[r] i kp).fa.getD 2 0),iv ((Ap.af (n-f) c p.rz[r] i kp).val)]) 9)<|oA (Yu (len:=3) (off:=9) (ds:=(([(Ap.af (n-f) c p.rz[r] i kp).se.getD 0 0,(Ap.af (n-f) c p.rz[r] i kp).se.getD 1 0,(Ap.af (n-f) c p.rz[r] i kp).se.getD 2 0]).map iv)) (.tmp 21) rfl U60 (by kernel_rfl) rfl rfl (by kernel_rfl) rfl) I0<|oK (Zo (Zo (Yh ([(Ap.af (n-f) c p.rz[r] i kp).se.getD 0 0,(Ap.af (n-f) c p.rz[r] i kp).se.getD 1 0,(Ap.af (n-f) c p.rz[r] i kp).se.getD 2 0])<|by simp)<|Ap.bel3 (l:=(Ap.af (n-f) c p.rz[r] i kp).se) (by show (Ap.seA _ _ _ _ _).length<=3;rw [Ap.seA_len];omega)<|by decide) hs1) [Zc ([(Ap.af (n-f) c p.rz[r] i kp).se.getD 0 0,(Ap.af (n-f) c p.rz[r] i kp).se.getD 1 0,(Ap.af (n-f) c p.rz[r] i kp).se.getD 2 0]),iv 1048577] rfl rfl<|oF bF<|oS (.el ([iv (Rd.shI p.top (Ns.shT p.top<|Ns.cntE p n f) c.sh),iv ((Ap.af (n-f) c p.rz[r] i kp).st.getD 0 0),iv ((Ap.af (n-f) c p.rz[r] i kp).st.getD 1 0),iv ((Ap.af (n-f) c p.rz[r] i kp).st.getD 2 0),iv ((Ap.af (n-f) c p.rz[r] i kp).st.getD 3 0),iv ((Ap.af (n-f) c p.rz[r] i kp).st.getD 4 0),iv ((Ap.af (n-f) c p.rz[r] i kp).st.getD 5 0),iv ((Ap.af (n-f) c p.rz[r] i kp).st.getD 6 0),iv ((Ap.af (n-f) c p.rz[r] i kp).st.getD 7 0),iv ((Ap.af (n-f) c p.rz[r] i kp).se.getD 0 0),iv ((Ap.af (n-f) c p.rz[r] i kp).se.getD 1 0),iv ((Ap.af (n-f) c p.rz[r] i kp).se.getD 2 0),iv ((Ap.af (n-f) c p.rz[r] i kp).fa.getD 0 0),iv ((Ap.af (n-f) c p.rz[r] i kp).fa.getD 1 0),iv ((Ap.af (n-f) c p.rz[r] i kp).fa.getD 2 0),iv ((Ap.af (n-f) c p.rz[r] i kp).val)]) 12)<|gA (Yu (len:=3) (off:=12) (ds:=(([(Ap.af (n-f) c p.rz[r] i kp).fa.getD 0 0,(Ap.af (n-f) c p.rz[r] i kp).fa.getD 1 0,(Ap.af (n-f) c p.rz[r] i kp).fa.getD 2 0]).map iv)) (.tmp 26) rfl U60 (by kernel_rfl) rfl rfl (by kernel_rfl) rfl) I0<|oK (Zo (Zo (Yh ([(Ap.af (n-f) c p.rz[r] i kp).fa.getD 0 0,(Ap.af (n-f) c p.rz[r] i kp).fa.getD 1 0,(Ap.af (n-f) c p.rz[r] i kp).fa.getD 2 0])<|by simp)<|Ap.bel3 (l:=(Ap.af (n-f) c p.rz[r] i kp).fa) (by show (Ap.faA _ _ _ _ _).length<=3;rw [Ap.faA_len];omega)<|by decide) hs2f) [Zc ([(Ap.af (n-f) c p.rz[r] i kp).fa.getD 0 0,(Ap.af (n-f) c p.rz[r] i kp).fa.getD 1 0,(Ap.af (n-f) c p.rz[r] i kp).fa.getD 2 0]),iv 1048577] rfl rfl<|oW<|oS bT<|jG<|YA rfl (YQ [] #[.int .i64 0,.int .i64 0,.int .i64 0,.int .i64 0,.int .i64 0,.int .i64 0,.int .i64 0,.int .i64 0,.int .i64 0,.int .i64 0,.int .i64 0,.int .i64 0,.int .i64 0,.int .i64 0,.int .i64 0,.int .i64 0] rfl rfl (by kernel_rfl) rfl) T0 T0 T0<|oY<|oS (iv 4)<|kN 33 ZfI (XAp3_h4 p n f c p.rz[r] i kp)<|Zf<|jN ?_
 exact ZY results18 (.cellS rfl rfl U62 rfl (z:=16) (by kernel_rfl) rfl (by decide)) (.tmp rfl)<|rfl
 have hs1f:(Rd.belB (Ap.af (n-f) c p.rz[r] i kp).se 1048577)=false:=by simpa using hs1
 refine Za<|oS (.el ([iv (Rd.shI p.top (Ns.shT p.top<|Ns.cntE p n f) c.sh),iv ((Ap.af (n-f) c p.rz[r] i kp).st.getD 0 0),iv ((Ap.af (n-f) c p.rz[r] i kp).st.getD 1 0),iv ((Ap.af (n-f) c p.rz[r] i kp).st.getD 2 0),iv ((Ap.af (n-f) c p.rz[r] i kp).st.getD 3 0),iv ((Ap.af (n-f) c p.rz[r] i kp).st.getD 4 0),iv ((Ap.af (n-f) c p.rz[r] i kp).st.getD 5 0),iv ((Ap.af (n-f) c p.rz[r] i kp).st.getD 6 0),iv ((Ap.af (n-f) c p.rz[r] i kp).st.getD 7 0),iv ((Ap.af (n-f) c p.rz[r] i kp).se.getD 0 0),iv ((Ap.af (n-f) c p.rz[r] i kp).se.getD 1 0),iv ((Ap.af (n-f) c p.rz[r] i kp).se.getD 2 0),iv ((Ap.af (n-f) c p.rz[r] i kp).fa.getD 0 0),iv ((Ap.af (n-f) c p.rz[r] i kp).fa.getD 1 0),iv ((Ap.af (n-f) c p.rz[r] i kp).fa.getD 2 0),iv ((Ap.af (n-f) c p.rz[r] i kp).val)]) 9)<|oA (Yu (len:=3) (off:=9) (ds:=(([(Ap.af (n-f) c p.rz[r] i kp).se.getD 0 0,(Ap.af (n-f) c p.rz[r] i kp).se.getD 1 0,(Ap.af (n-f) c p.rz[r] i kp).se.getD 2 0]).map iv)) (.tmp 21) rfl U60 (by kernel_rfl) rfl rfl (by kernel_rfl) rfl) I0<|oK (Zo (Zo (Yh ([(Ap.af (n-f) c p.rz[r] i kp).se.getD 0 0,(Ap.af (n-f) c p.rz[r] i kp).se.getD 1 0,(Ap.af (n-f) c p.rz[r] i kp).se.getD 2 0])<|by simp)<|Ap.bel3 (l:=(Ap.af (n-f) c p.rz[r] i kp).se) (by show (Ap.seA _ _ _ _ _).length<=3;rw [Ap.seA_len];omega)<|by decide) hs1f) [Zc ([(Ap.af (n-f) c p.rz[r] i kp).se.getD 0 0,(Ap.af (n-f) c p.rz[r] i kp).se.getD 1 0,(Ap.af (n-f) c p.rz[r] i kp).se.getD 2 0]),iv 1048577] rfl rfl<|oF bT<|V4<|oS bT<|jG<|YA rfl (YQ [] #[.int .i64 0,.int .i64 0,.int .i64 0,.int .i64 0,.int .i64 0,.int .i64 0,.int .i64 0,.int .i64 0,.int .i64 0,.int .i64 0,.int .i64 0,.int .i64 0,.int .i64 0,.int .i64 0,.int .i64 0,.int .i64 0] rfl rfl (by kernel_rfl) rfl) T0 T0 T0<|oY<|oS (iv 4)<|kN 33 ZfI (XAp3_h4 p n f c p.rz[r] i kp)<|Zf<|jN ?_
 exact ZY results18 (.cellS rfl rfl U62 rfl (z:=16) (by kernel_rfl) rfl (by decide)) (.tmp rfl)<|rfl
theorem apply_no (HL:FamLen p) (hc:En.CfV p n f c) (hv:valE p=0) (l8:c.st.length<=8) (hf:0<=f/\f<=1048576) {x y kp:Int} (he:En.enB p n t f c (En.hdJ p f c p.msgs.length) x y kp=false):Ctr Tryz.prog J 18 [.el (En.sysP p n t f) 0,.agg (En.cfV (Rd.shI p.top (Ns.shT p.top<|Ns.cntE p n f) c.sh) c),.agg [iv x,iv y,iv kp]] (.tup [.agg Ap.z16,iv 9]):=by
 have hz:=En.val_sizes hv
 have hls:=hc.ls
 have hlf:=hc.lf
 refine Zn func18 rfl (pN (show Plain (.el (En.sysP p n t f) 0) from .el (ZE<|En.plain_sysP p n t f))<|pN (Zg<|En.plain_cfV _ c)<|pN (Zg<|pN (.v _)<|pN (.v _)<|pN (.v _) pZ) pZ) (n:=33) rfl (by simp)<|λw0 => jB<|oA (ZC (X := .agg (En.cfV (Rd.shI p.top (Ns.shT p.top<|Ns.cntE p n f) c.sh) c)) (.tmp 1) rfl rfl rfl) I0<|oA (ZC (X := .agg [iv x,iv y,iv kp]) (.tmp 2) rfl rfl rfl) I0<|oZ 1 Z62<|oS (iv 0)<|jD<|Zi ?_
 refine tD<|dS (.el (En.sysP p n t f) 0)<|dA (Zl (z:=16) (.tmp 4) rfl U62 rfl (by kernel_rfl) rfl rfl) I0<|dA (Zl (z:=3) (.tmp 5) rfl U67 rfl (by kernel_rfl) rfl rfl) I0<|dW<|dA (Zl (z:=16) (.tmp 4) rfl U62 rfl (by kernel_rfl) rfl rfl) I0<|dk (Zfn hc hf hz.2.2.1) [.el (En.sysP p n t f) 0,.agg (En.cfV (Rd.shI p.top (Ns.shT p.top<|Ns.cntE p n f) c.sh) c)] rfl rfl<|dR (sc #[.tmp 8,.tmp 9,.tmp 10,.tmp 13] [] (Zo (Zb2 HL hc hv l8<|λm=>En.hdJ_in hc hf _ m) he) [.el (En.sysP p n t f) 0,.agg (En.cfV (Rd.shI p.top (Ns.shT p.top<|Ns.cntE p n f) c.sh) c),.agg ([iv x,iv y,iv kp]),.agg (En.msA<|En.hdJ p f c p.msgs.length)] rfl rfl rfl) ⟨I0,I0,I0,I0,.inr (.inl rfl),T0⟩ T0 T0<|dS bT<|eD ?_
 refine Zf<|jK<|YA rfl (YQ [] #[.int .i64 0,.int .i64 0,.int .i64 0,.int .i64 0,.int .i64 0,.int .i64 0,.int .i64 0,.int .i64 0,.int .i64 0,.int .i64 0,.int .i64 0,.int .i64 0,.int .i64 0,.int .i64 0,.int .i64 0,.int .i64 0] rfl rfl (by kernel_rfl) rfl) T0 T0 T0<|oY<|oS (iv 9)<|kN 33 [(1,.box 62 [iv 0,iv 0,iv 0,iv 0,iv 0,iv 0,iv 0,iv 0,iv 0,iv 0,iv 0,iv 0,iv 0,iv 0,iv 0,iv 0])] [(0,.el (En.sysP p n t f) 0),(4,.el (En.cfV (Rd.shI p.top (Ns.shT p.top<|Ns.cntE p n f) c.sh) c) 0),(5,.el ([iv x,iv y,iv kp]) 0),(6,bx 1),(7,iv 9)]<|Zf<|jN ?_
 exact ZY results18 (.cellS rfl rfl U62 rfl (z:=16) (by kernel_rfl) rfl (by decide)) (.tmp rfl)<|rfl
variable {k:Nat}
theorem applyK0 (HL:FamLen p) (HC:Rd.CgOk c) (hs:Ns.sysE p n t f=0) (hc:En.CfV p n f c) {ss:List Rp.Sp} (hk:k<=ss.length) (ok:Rp.okK p n t f c ss k) (hk1:k<ss.length) (e:(Rp.ee p n t f (Rp.cK p n f c ss k) ss[k])=0):Ctr Tryz.prog J 18 [.el (En.sysP p n t f) 0,.agg (En.cfV (Rd.shI p.top (Ns.shT p.top (Ns.cntE p n f)) c.sh) (Rp.cK p n f c ss k)),.agg (Rp.cSp ss[k])] (.tup [.agg (En.cfV (Rd.shI p.top (Ns.shT p.top (Ns.cntE p n f)) c.sh) (Rp.cK p n f c ss (k+1))),iv 0]):=by
 have h1:=Rp.cK_cf hs hc k hk ok
 have h2:=Rp.cK_ok HL hs hc HC k hk ok
 obtain ⟨hv,ha,h8⟩:=Ns.sys_ok hs
 have hai:=Ns.adm_in ha
 have l8:=En.cf_len h1 hai h8
 obtain ⟨r,i,hr,hi,e1,e2,he,hl,eq⟩:=Rp.ee_ok hs h1 e
 rw [eq] at hl
 rw [e1,e2] at he
 have h:=apply_ok (J:=J) HL h1 hv l8 ⟨by omega,by omega⟩ hr hi he (Ap.lg_and.1 hl)
 rw [Rp.cK_sh,<- eq,<- Rp.cK_succ hk1] at h
 show Ctr _ _ _ [_,_,.agg [iv ss[k].1,iv ss[k].2.1,iv ss[k].2.2]] _
 rw [e1,e2]
 exact h
theorem applyK1 (HL:FamLen p) (HC:Rd.CgOk c) (hs:Ns.sysE p n t f=0) (hc:En.CfV p n f c) {ss:List Rp.Sp} (hk:k<=ss.length) (ok:Rp.okK p n t f c ss k) (hk1:k<ss.length) (e:¬ (Rp.ee p n t f (Rp.cK p n f c ss k) ss[k])=0):Ctr Tryz.prog J 18 [.el (En.sysP p n t f) 0,.agg (En.cfV (Rd.shI p.top (Ns.shT p.top (Ns.cntE p n f)) c.sh) (Rp.cK p n f c ss k)),.agg (Rp.cSp ss[k])] (.tup [.agg Ap.z16,iv (Rp.ee p n t f (Rp.cK p n f c ss k) ss[k])]):=by
 have h1:=Rp.cK_cf hs hc k hk ok
 have h2:=Rp.cK_ok HL hs hc HC k hk ok
 obtain ⟨hv,ha,h8⟩:=Ns.sys_ok hs
 have hai:=Ns.adm_in ha
 have l8:=En.cf_len h1 hai h8
 have hz:=Rp.vc_of hs h1
 show Ctr _ _ _ [_,_,.agg [iv ss[k].1,iv ss[k].2.1,iv ss[k].2.2]] _
 cases he:En.enB p n t f (Rp.cK p n f c ss k) (En.hdJ p f (Rp.cK p n f c ss k) p.msgs.length) ss[k].1 ss[k].2.1 ss[k].2.2 with
 | false =>
   have h:=apply_no (J:=J) HL h1 hv l8 ⟨by omega,by omega⟩ he
   rw [Rp.cK_sh] at h
   rw [show (Rp.ee p n t f (Rp.cK p n f c ss k) ss[k])=9 from Ap.apE_no hz he]
   exact h
 | true =>
   obtain ⟨r,i,hr,hi,e1,e2⟩:=Ap.en_at he
   have he2:=he
   rw [e1,e2] at he2
   have e9:(Rp.ee p n t f (Rp.cK p n f c ss k) ss[k])=Ap.apE p n t f (Rp.cK p n f c ss k) (r:Int) (i:Int) ss[k].2.2:=by unfold Rp.ee;rw [e1,e2]
   by_cases hl:Rd.belB (Ap.af (n-f) (Rp.cK p n f c ss k) p.rz[r] i ss[k].2.2).se 1048577=true/\Rd.belB (Ap.af (n-f) (Rp.cK p n f c ss k) p.rz[r] i ss[k].2.2).fa 1048577=true
   ·exact absurd (e9.trans (Ap.apE_ok hz he2 hr hl)) e
   have h:=apply_lg (J:=J) HL h1 hv l8 ⟨by omega,by omega⟩ hr hi he2 hl
   rw [Rp.cK_sh] at h
   rw [e9,Ap.apE_lg hz he2 hr hl,e1,e2]
   exact h
namespace En
end En
variable {q:Pq}
theorem sysBadK (HQ:PqOk q) {ss:List Rp.Sp} (hs:Ns.sysE p n t f=0) (hc:En.CfV p n f c) (hk:k<=ss.length) (ok:Rp.okK p n t f c ss k) (hvp:vpE p q=0) (hkd:q.kind=1):Ctr Tryz.prog J 19 [.el (En.sysP p n t f) 0,.agg (cPq q),.agg (En.cfV (Rd.shI p.top (Ns.shT p.top (Ns.cntE p n f)) c.sh) (Rp.cK p n f c ss k))] (bv (Jd.bdV p q (Rp.cK p n f c ss k))):=by
 have h:=sysBad_c (J:=J) HQ hs (Rp.cK_cf hs hc k hk ok) hvp hkd
 rw [Rp.cK_sh] at h
 exact h
theorem viol_err (HP:FmOk p) (LP:FamLen p) (HQ:PqOk q) (LQ:PqLen q) (HC:Rd.CgOk c) {ss:List Rp.Sp} (hvp:¬ vpE p q=0):Ctr Tryz.prog J 7 [.agg (cFm p),.agg (cPq q),.agg (cSz n t f),.agg (Rp.cRun c ss)] (bv<|Vi.viB p q n t f c ss):=by
 refine Zn func7 rfl (pN (Zg<|Zy p)<|pN (Zg<|Yd q)<|pN (Zg<|ZT n t f)<|pN (Zg<|λX hX=>by rcases List.mem_append.1 hX with h | h;exact Rd.plain_cg c X h;rw [List.mem_singleton.1 h];exact Yj Rp.plain_cSp _) pZ) (n:=66) rfl (by simp)<|λw0 => ?_
 refine jB<|oA (ZC (X := .agg (cFm p)) (.tmp 0) rfl rfl rfl) I0<|oA (ZC (X := .agg (cPq q)) (.tmp 1) rfl rfl rfl) I0<|oA (ZC (X := .agg (cSz n t f)) (.tmp 2) rfl rfl rfl) I0<|oA (ZC (X := .agg (Rp.cRun c ss)) (.tmp 3) rfl rfl rfl) I0<|oS bF<|jD<|Za<|oA (Zl (z:=10) (.tmp 4) rfl U27 rfl (by kernel_rfl) rfl rfl) I0<|oA (Zl (z:=6) (.tmp 5) rfl U30 rfl (by kernel_rfl) rfl rfl) I0<|oA (Zl (z:=3) (.tmp 6) rfl U32 rfl (by kernel_rfl) rfl rfl) I0<|YA rfl (Kp (c := .func 15) (xs := #[.tmp 16,.tmp 17,.tmp 18]) (nsFor_err HP HQ hvp) rfl (by kernel_rfl) rfl (Xs:=[.agg (cFm p),.agg (cPq q),.agg (cSz n t f)]) rfl rfl) ⟨I0,I0,I0,I0,T0⟩ T0 T0<|oS (.tup [.v (.pointer none),iv (vpE p q)])<|W2<|oS (.v (.pointer none))<|oS (iv<|vpE p q)<|jD<|Zi ?_
 exact Za<|oS (iv<|vpE p q)<|oC (Yg rfl<|dF' hvp) I0 I0<|oS bT<|V3<|oS bT<|jG<|oS bF<|jE<|Zb<|Zd results7 (.tmp rfl)<|cB<|(Vi.vi_vp hvp).symm
theorem viol_sys (HP:FmOk p) (LP:FamLen p) (HQ:PqOk q) (LQ:PqLen q) (HC:Rd.CgOk c) {ss:List Rp.Sp} (hvp:vpE p q=0) (hs:¬ Ns.sysE p n t f=0):Ctr Tryz.prog J 7 [.agg (cFm p),.agg (cPq q),.agg (cSz n t f),.agg (Rp.cRun c ss)] (bv<|Vi.viB p q n t f c ss):=by
 refine Zn func7 rfl (pN (Zg<|Zy p)<|pN (Zg<|Yd q)<|pN (Zg<|ZT n t f)<|pN (Zg<|λX hX=>by rcases List.mem_append.1 hX with h | h;exact Rd.plain_cg c X h;rw [List.mem_singleton.1 h];exact Yj Rp.plain_cSp _) pZ) (n:=66) rfl (by simp)<|λw0 => ?_
 refine jB<|oA (ZC (X := .agg (cFm p)) (.tmp 0) rfl rfl rfl) I0<|oA (ZC (X := .agg (cPq q)) (.tmp 1) rfl rfl rfl) I0<|oA (ZC (X := .agg (cSz n t f)) (.tmp 2) rfl rfl rfl) I0<|oA (ZC (X := .agg (Rp.cRun c ss)) (.tmp 3) rfl rfl rfl) I0<|oS bF<|jD<|Za<|oA (Zl (z:=10) (.tmp 4) rfl U27 rfl (by kernel_rfl) rfl rfl) I0<|oA (Zl (z:=6) (.tmp 5) rfl U30 rfl (by kernel_rfl) rfl rfl) I0<|oA (Zl (z:=3) (.tmp 6) rfl U32 rfl (by kernel_rfl) rfl rfl) I0<|YA rfl (Kp (c := .func 15) (xs := #[.tmp 16,.tmp 17,.tmp 18]) (nsFor_sys HP HQ hvp hs) rfl (by kernel_rfl) rfl (Xs:=[.agg (cFm p),.agg (cPq q),.agg (cSz n t f)]) rfl rfl) ⟨I0,I0,I0,I0,T0⟩ T0 T0<|oS (.tup [.v (.pointer none),iv (Ns.sysE p n t f)])<|W2<|oS (.v (.pointer none))<|oS (iv<|Ns.sysE p n t f)<|jD<|Zi ?_
 exact Za<|oS (iv<|Ns.sysE p n t f)<|oC (Yg rfl<|dF' hs) I0 I0<|oS bT<|V3<|oS bT<|jG<|oS bF<|jE<|Zb<|Zd results7 (.tmp rfl)<|cB<|(Vi.vi_sys hs).symm
theorem viol_run (HP:FmOk p) (LP:FamLen p) (HQ:PqOk q) (LQ:PqLen q) (HC:Rd.CgOk c) {ss:List Rp.Sp} (hvp:vpE p q=0) (hs:Ns.sysE p n t f=0) (hx:Rd.rdX p n f c=false):Ctr Tryz.prog J 7 [.agg (cFm p),.agg (cPq q),.agg (cSz n t f),.agg (Rp.cRun c ss)] (bv<|Vi.viB p q n t f c ss):=by
 refine Zn func7 rfl (pN (Zg<|Zy p)<|pN (Zg<|Yd q)<|pN (Zg<|ZT n t f)<|pN (Zg<|λX hX=>by rcases List.mem_append.1 hX with h | h;exact Rd.plain_cg c X h;rw [List.mem_singleton.1 h];exact Yj Rp.plain_cSp _) pZ) (n:=66) rfl (by simp)<|λw0 => ?_
 refine jB<|oA (ZC (X := .agg (cFm p)) (.tmp 0) rfl rfl rfl) I0<|oA (ZC (X := .agg (cPq q)) (.tmp 1) rfl rfl rfl) I0<|oA (ZC (X := .agg (cSz n t f)) (.tmp 2) rfl rfl rfl) I0<|oA (ZC (X := .agg (Rp.cRun c ss)) (.tmp 3) rfl rfl rfl) I0<|oS bF<|jD<|Za<|oA (Zl (z:=10) (.tmp 4) rfl U27 rfl (by kernel_rfl) rfl rfl) I0<|oA (Zl (z:=6) (.tmp 5) rfl U30 rfl (by kernel_rfl) rfl rfl) I0<|oA (Zl (z:=3) (.tmp 6) rfl U32 rfl (by kernel_rfl) rfl rfl) I0<|YA rfl (Kp (c := .func 15) (xs := #[.tmp 16,.tmp 17,.tmp 18]) (nsFor_ok HP HQ hvp hs) rfl (by kernel_rfl) rfl (Xs:=[.agg (cFm p),.agg (cPq q),.agg (cSz n t f)]) rfl rfl) ⟨I0,I0,I0,I0,T0⟩ T0 T0<|oS (.tup [.el (En.sysP p n t f) 0,iv 0])<|W2<|oS (.el (En.sysP p n t f) 0)<|oS (iv 0)<|jD<|Zi ?_
 by_cases hs1:q.kind=1
 refine Za<|oS (iv 0)<|oC (Yg (r:=false) rfl<|by decide) I0 I0<|oS bF<|W2<|on (dT' hs1)<|oS bF<|kN 66 [] [(5,.el (cPq q) 0),(7,.el (Rp.cRun c ss) 0),(8,bF),(9,.el (En.sysP p n t f) 0),(10,iv 0),(28,bF)]<|jJ<|jB<|oW<|oS (.el (Rp.cRun c ss) 0)<|oA (Zl (z:=6) (ds:=[Zc c.sh,Zc c.st,iv c.cor,Zc c.se,Zc c.fa,iv c.val]) (.tmp 31) rfl U36 rfl (by kernel_rfl) (by kernel_rfl) rfl) I0<|oK (En.read_q HC hx) [.el (En.sysP p n t f) 0,.agg [Zc c.sh,Zc c.st,iv c.cor,Zc c.se,Zc c.fa,iv c.val]] rfl rfl<|oS (.tup [.fr (.agg (Rd.cfZ false (Rd.shI p.top (Ns.shT p.top<|Ns.cntE p n f) c.sh) c)),bF])<|oS (.fr (.agg (Rd.cfZ false (Rd.shI p.top (Ns.shT p.top<|Ns.cntE p n f) c.sh) c)))<|oW<|oZ 1 Z62<|YA rfl (sB 16 11 (.tmp 34)<|.agg [iv (Rd.zz false<|Rd.shI p.top (Ns.shT p.top<|Ns.cntE p n f) c.sh),iv (Rd.zz false<|c.st.getD 0 0),iv (Rd.zz false<|c.st.getD 1 0),iv (Rd.zz false<|c.st.getD 2 0),iv (Rd.zz false<|c.st.getD 3 0),iv (Rd.zz false<|c.st.getD 4 0),iv (Rd.zz false<|c.st.getD 5 0),iv (Rd.zz false<|c.st.getD 6 0),iv (Rd.zz false<|c.st.getD 7 0),iv (Rd.zz false<|c.se.getD 0 0),iv (Rd.zz false<|c.se.getD 1 0),iv (Rd.zz false<|c.se.getD 2 0),iv (Rd.zz false<|c.fa.getD 0 0),iv (Rd.zz false<|c.fa.getD 1 0),iv (Rd.zz false<|c.fa.getD 2 0),iv (Rd.zz false c.val)]) ⟨I0,.inr (.inr (.inl ⟨_,rfl,rfl⟩)),T0⟩ ⟨rfl,T0⟩ rfl ?_
 exact oS bF<|jD<|jB<|oW<|oF bT<|V5<|oS bT<|jG<|oS bF<|jE<|Zb<|Zd results7 (.tmp rfl)<|cB<|(Vi.vi_rv hs hx).symm
 exact Za<|oS (iv 0)<|oC (Yg (r:=false) rfl<|by decide) I0 I0<|oS bF<|W2<|on (dF' hs1)<|oS bT<|jG<|oS bF<|jE<|Zb<|Zd results7 (.tmp rfl)<|cB<|(Vi.vi_kd hs1).symm
theorem viol_go (HP:FmOk p) (LP:FamLen p) (HQ:PqOk q) (LQ:PqLen q) (HC:Rd.CgOk c) {ss:List Rp.Sp} (hvp:vpE p q=0) (hs:Ns.sysE p n t f=0) (hx:Rd.rdX p n f c=true) (hl:ss.length<=300):Ctr Tryz.prog J 7 [.agg (cFm p),.agg (cPq q),.agg (cSz n t f),.agg (Rp.cRun c ss)] (bv<|Vi.viB p q n t f c ss):=by
 have hc:=En.cf_in hx
 obtain ⟨hv,ha,h8⟩:=Ns.sys_ok hs
 have l8:=En.cf_len hc (Ns.adm_in ha) h8
 have hz3:=(En.val_sizes hv).2.2.1
 refine Zn func7 rfl (pN (Zg<|Zy p)<|pN (Zg<|Yd q)<|pN (Zg<|ZT n t f)<|pN (Zg<|λX hX=>by rcases List.mem_append.1 hX with h | h;exact Rd.plain_cg c X h;rw [List.mem_singleton.1 h];exact Yj Rp.plain_cSp _) pZ) (n:=66) rfl (by simp)<|λw0 => ?_
 refine jB<|oA (ZC (X := .agg (cFm p)) (.tmp 0) rfl rfl rfl) I0<|oA (ZC (X := .agg (cPq q)) (.tmp 1) rfl rfl rfl) I0<|oA (ZC (X := .agg (cSz n t f)) (.tmp 2) rfl rfl rfl) I0<|oA (ZC (X := .agg (Rp.cRun c ss)) (.tmp 3) rfl rfl rfl) I0<|oS bF<|jD<|Za<|oA (Zl (z:=10) (.tmp 4) rfl U27 rfl (by kernel_rfl) rfl rfl) I0<|oA (Zl (z:=6) (.tmp 5) rfl U30 rfl (by kernel_rfl) rfl rfl) I0<|oA (Zl (z:=3) (.tmp 6) rfl U32 rfl (by kernel_rfl) rfl rfl) I0<|YA rfl (Kp (c := .func 15) (xs := #[.tmp 16,.tmp 17,.tmp 18]) (nsFor_ok HP HQ hvp hs) rfl (by kernel_rfl) rfl (Xs:=[.agg (cFm p),.agg (cPq q),.agg (cSz n t f)]) rfl rfl) ⟨I0,I0,I0,I0,T0⟩ T0 T0<|oS (.tup [.el (En.sysP p n t f) 0,iv 0])<|W2<|oS (.el (En.sysP p n t f) 0)<|oS (iv 0)<|jD<|Zi ?_
 by_cases hs1:q.kind=1
 refine Za<|oS (iv 0)<|oC (Yg (r:=false) rfl<|by decide) I0 I0<|oS bF<|W2<|on (dT' hs1)<|oS bF<|jF<|jB<|oW<|oS (.el (Rp.cRun c ss) 0)<|oA (Zl (z:=6) (ds:=[Zc c.sh,Zc c.st,iv c.cor,Zc c.se,Zc c.fa,iv c.val]) (.tmp 31) rfl U36 rfl (by kernel_rfl) (by kernel_rfl) rfl) I0<|oK (En.read_p HC hx) [.el (En.sysP p n t f) 0,.agg [Zc c.sh,Zc c.st,iv c.cor,Zc c.se,Zc c.fa,iv c.val]] rfl rfl<|oS (.tup [.fr (.agg (En.cfV (Rd.shI p.top (Ns.shT p.top<|Ns.cntE p n f) c.sh) c)),bT])<|oS (.fr (.agg (En.cfV (Rd.shI p.top (Ns.shT p.top<|Ns.cntE p n f) c.sh) c)))<|oW<|oZ 1 Z62<|YA rfl (sB 16 11 (.tmp 34)<|.agg [iv (Rd.shI p.top (Ns.shT p.top<|Ns.cntE p n f) c.sh),iv (c.st.getD 0 0),iv (c.st.getD 1 0),iv (c.st.getD 2 0),iv (c.st.getD 3 0),iv (c.st.getD 4 0),iv (c.st.getD 5 0),iv (c.st.getD 6 0),iv (c.st.getD 7 0),iv (c.se.getD 0 0),iv (c.se.getD 1 0),iv (c.se.getD 2 0),iv (c.fa.getD 0 0),iv (c.fa.getD 1 0),iv (c.fa.getD 2 0),iv c.val]) ⟨I0,.inr (.inr (.inl ⟨_,rfl,rfl⟩)),T0⟩ ⟨rfl,T0⟩ rfl ?_
 refine oS bT<|jD<|Zi ?_
 by_cases hs2:(Vi.inB p q (n-f) c)=true
 refine Za<|oW<|oF bF<|oW<|gA (Zl (z:=6) (.tmp 5) rfl U30 rfl (by kernel_rfl) rfl rfl) I0<|oW<|oK (Zo (isInit_c HP LP HQ LQ hvp hc l8 hz3) hs2) [.el (En.sysP p n t f) 0,.agg (cPq q),.agg [iv (Rd.shI p.top (Ns.shT p.top<|Ns.cntE p n f) c.sh),iv (c.st.getD 0 0),iv (c.st.getD 1 0),iv (c.st.getD 2 0),iv (c.st.getD 3 0),iv (c.st.getD 4 0),iv (c.st.getD 5 0),iv (c.st.getD 6 0),iv (c.st.getD 7 0),iv (c.se.getD 0 0),iv (c.se.getD 1 0),iv (c.se.getD 2 0),iv (c.fa.getD 0 0),iv (c.fa.getD 1 0),iv (c.fa.getD 2 0),iv c.val]] rfl rfl<|oW<|oS bF<|jF<|jM<|Za<|oF (slA 3 Rp.cSp ss)<|oS (iv ss.length)<|oS (iv 0)<|jA<|Zh ?_
 refine Zw (σ:={k:Nat // k<=ss.length/\Rp.okK p n t f c ss k}) (λs=>(ofL [(1,.box 62 (En.cfV (Rd.shI p.top (Ns.shT p.top<|Ns.cntE p n f) c.sh)<|Rp.cK p n f c ss s.1))],ofT 66 [(5,.el (cPq q) 0),(9,.el (En.sysP p n t f) 0),(11,bx 1),(46,slA 3 Rp.cSp ss),(47,iv ss.length),(48,iv s.1)])) (λs=>ss.length-s.1) ⟨0,Nat.zero_le _,Rp.ok_zero⟩ (Zk _ _)<|λs => ?_
 obtain ⟨k,hk0,ok⟩:=s
 show ETri J w0 (ofL [(1,.box 62 (En.cfV (Rd.shI p.top (Ns.shT p.top<|Ns.cntE p n f) c.sh)<|Rp.cK p n f c ss k))]) (ofT 66 [(5,.el (cPq q) 0),(9,.el (En.sysP p n t f) 0),(11,bx 1),(46,slA 3 Rp.cSp ss),(47,iv ss.length),(48,iv k)]) _
 refine Zi ?_
 by_cases hs3:(k:Int)<(ss.length:Int)
 have hk1:k<ss.length:=by omega
 refine Za<|ol (dT hs3)<|jD<|ZM rfl<|Zj<|jC<|Zh<|jB<|oC (xS (k*3) 46 48 U37) I0 I0<|oA (Zl (z:=3) (.tmp 50) rfl U67 rfl (by kernel_rfl) (ZJ Rp.len_cSp ss k<|by omega) rfl) I0<|oZ 2 Z67<|oY<|kN 66 [(1,.box 62 (En.cfV (Rd.shI p.top (Ns.shT p.top<|Ns.cntE p n f) c.sh)<|Rp.cK p n f c ss k)),(2,.box 67 (Rp.cSp ss[k]))] [(5,.el (cPq q) 0),(9,.el (En.sysP p n t f) 0),(11,bx 1),(14,bx 2),(46,slA 3 Rp.cSp ss),(47,iv ss.length),(48,iv k),(49,bT)]<|jC ?_
 by_cases hs4:(Rp.ee p n t f (Rp.cK p n f c ss k) ss[k])=0
 refine Za<|W3<|oK (applyK0 LP HC hs hc hk0 ok hk1 hs4) [.el (En.sysP p n t f) 0,.agg (En.cfV (Rd.shI p.top (Ns.shT p.top<|Ns.cntE p n f) c.sh)<|Rp.cK p n f c ss k),.agg (Rp.cSp ss[k])] rfl rfl<|oS (.tup [.fr (.agg (En.cfV (Rd.shI p.top (Ns.shT p.top<|Ns.cntE p n f) c.sh)<|Rp.cK p n f c ss<|k+1)),iv 0])<|oS (.fr (.agg (En.cfV (Rd.shI p.top (Ns.shT p.top<|Ns.cntE p n f) c.sh)<|Rp.cK p n f c ss<|k+1)))<|oW<|YA rfl (sB 16 11 (.tmp 57)<|.agg [iv (Rd.shI p.top (Ns.shT p.top<|Ns.cntE p n f) c.sh),iv ((Rp.cK p n f c ss<|k+1).st.getD 0 0),iv ((Rp.cK p n f c ss<|k+1).st.getD 1 0),iv ((Rp.cK p n f c ss<|k+1).st.getD 2 0),iv ((Rp.cK p n f c ss<|k+1).st.getD 3 0),iv ((Rp.cK p n f c ss<|k+1).st.getD 4 0),iv ((Rp.cK p n f c ss<|k+1).st.getD 5 0),iv ((Rp.cK p n f c ss<|k+1).st.getD 6 0),iv ((Rp.cK p n f c ss<|k+1).st.getD 7 0),iv ((Rp.cK p n f c ss<|k+1).se.getD 0 0),iv ((Rp.cK p n f c ss<|k+1).se.getD 1 0),iv ((Rp.cK p n f c ss<|k+1).se.getD 2 0),iv ((Rp.cK p n f c ss<|k+1).fa.getD 0 0),iv ((Rp.cK p n f c ss<|k+1).fa.getD 1 0),iv ((Rp.cK p n f c ss<|k+1).fa.getD 2 0),iv ((Rp.cK p n f c ss<|k+1).val)]) ⟨I0,.inr (.inr (.inl ⟨_,rfl,rfl⟩)),T0⟩ ⟨rfl,T0⟩ rfl<|oS (iv 0)<|jD<|Za<|oS (iv 0)<|oC (Yg (r:=false) rfl<|by decide) I0 I0<|jI<|Zj<|Zs<|Zf<|Za<|oV ((k+1:Nat):Int) ?_
 refine oS (iv (k+1:Nat))<|jA<|Zp ⟨k+1,by omega,Rp.ok_succ hk1 ok hs4⟩ (show ss.length-(k+1)<ss.length-k by omega) ?_
 show Wk _ _ (ofL [(1,.box 62 (En.cfV (Rd.shI p.top (Ns.shT p.top<|Ns.cntE p n f) c.sh)<|Rp.cK p n f c ss<|k+1))]) (ofT 66 [(5,.el (cPq q) 0),(9,.el (En.sysP p n t f) 0),(11,bx 1),(46,slA 3 Rp.cSp ss),(47,iv ss.length),(48,iv ((k+1):Nat))])
 exact Zk _ _
 refine Za<|W3<|oK (applyK1 LP HC hs hc hk0 ok hk1 hs4) [.el (En.sysP p n t f) 0,.agg (En.cfV (Rd.shI p.top (Ns.shT p.top<|Ns.cntE p n f) c.sh)<|Rp.cK p n f c ss k),.agg (Rp.cSp ss[k])] rfl rfl<|oS (.tup [.fr (.agg Ap.z16),iv (Rp.ee p n t f (Rp.cK p n f c ss k) ss[k])])<|oS (.fr (.agg Ap.z16))<|oW<|YA rfl (sB 16 11 (.tmp 57)<|.agg [iv 0,iv 0,iv 0,iv 0,iv 0,iv 0,iv 0,iv 0,iv 0,iv 0,iv 0,iv 0,iv 0,iv 0,iv 0,iv 0]) ⟨I0,.inr (.inr (.inl ⟨_,rfl,rfl⟩)),T0⟩ ⟨rfl,T0⟩ rfl<|oS (iv<|Rp.ee p n t f (Rp.cK p n f c ss k) ss[k])<|jD<|Za<|oW<|on (dF' hs4)<|jG<|oS bF<|jA<|ZQ<|Ze<|Zb<|Zb<|Ze<|Zb ?_
 refine Zd results7 (.tmp rfl) ?_
 exact cB<|(Vi.vi_rp<|by rw [Rp.rp_err hs hx hk1 ok hs4];exact hs4).symm
 refine Za<|ol (dF hs3)<|jD<|Zu rfl<|jO<|jC<|Za<|oW<|oA (Zl (z:=6) (.tmp 5) rfl U30 rfl (by kernel_rfl) rfl rfl) I0<|oW<|oK (sysBadK HQ hs hc hk0 ok hvp hs1) [.el (En.sysP p n t f) 0,.agg (cPq q),.agg (En.cfV (Rd.shI p.top (Ns.shT p.top<|Ns.cntE p n f) c.sh)<|Rp.cK p n f c ss k)] rfl rfl<|oS (bv<|Jd.bdV p q<|Rp.cK p n f c ss k)<|jE<|Zd results7 (.tmp rfl) ?_
 obtain rfl:k=ss.length:=by omega
 exact congrArg bv (Vi.vi_yes hvp hs1 (Rp.rp_ok hs hx ok) hs2).symm
 have hs2f:(Vi.inB p q (n-f) c)=false:=by simpa using hs2
 refine Za<|oW<|oF bF<|oW<|gA (Zl (z:=6) (.tmp 5) rfl U30 rfl (by kernel_rfl) rfl rfl) I0<|oW<|oK (Zo (isInit_c HP LP HQ LQ hvp hc l8 hz3) hs2f) [.el (En.sysP p n t f) 0,.agg (cPq q),.agg [iv (Rd.shI p.top (Ns.shT p.top<|Ns.cntE p n f) c.sh),iv (c.st.getD 0 0),iv (c.st.getD 1 0),iv (c.st.getD 2 0),iv (c.st.getD 3 0),iv (c.st.getD 4 0),iv (c.st.getD 5 0),iv (c.st.getD 6 0),iv (c.st.getD 7 0),iv (c.se.getD 0 0),iv (c.se.getD 1 0),iv (c.se.getD 2 0),iv (c.fa.getD 0 0),iv (c.fa.getD 1 0),iv (c.fa.getD 2 0),iv c.val]] rfl rfl<|oW<|oS bT<|jG<|oS bF<|jE<|Zb<|Zd results7 (.tmp rfl) ?_
 exact cB<|(Vi.vi_in hs2f).symm
 exact Za<|oS (iv 0)<|oC (Yg (r:=false) rfl<|by decide) I0 I0<|oS bF<|W2<|on (dF' hs1)<|oS bT<|jG<|oS bF<|jE<|Zb<|Zd results7 (.tmp rfl)<|cB<|(Vi.vi_kd hs1).symm
theorem IsViol_c (HP:FmOk p) (LP:FamLen p) (HQ:PqOk q) (LQ:PqLen q) (HC:Rd.CgOk c) {ss:List Rp.Sp} (hl:ss.length<=300):Ctr Tryz.prog J 7 [.agg (cFm p),.agg (cPq q),.agg (cSz n t f),.agg (Rp.cRun c ss)] (bv (Vi.viB p q n t f c ss)):=by
 by_cases hvp:vpE p q=0
 ·by_cases hs:Ns.sysE p n t f=0
  ·cases hx:Rd.rdX p n f c with
   | true=>exact viol_go HP LP HQ LQ HC hvp hs hx hl
   | false=>exact viol_run HP LP HQ LQ HC hvp hs hx
  exact viol_sys HP LP HQ LQ HC hvp hs
 exact viol_err HP LP HQ LQ HC hvp
theorem Y9 (xs:List Int) (hx:xs.length<=17592186044416):Ctr Tryz.prog J 83 [Zc xs] (Zc xs):=by
 refine Zn func83 rfl (by intro X hX;simp at hX;subst hX;exact Zx _) (n:=6) rfl (by simp)<|λw0 => ?_
 refine jB<|oS (nz)<|jD<|Za<|YA rfl (Zaw (z:=1) (k:=1) true rfl U24<|by kernel_rfl) T0 T0 rfl<|oS (Zc xs)<|YA rfl (K1 (n:=0) (cs:=[]) (fr:=true) (m:=xs.length) (ds:=(xs.map iv)) (⟨U24,by kernel_rfl,by decide⟩:Elt Tryz.prog 24 3 1 8) (.tmp 3) (.tmp 4) rfl (λ_ d hd=>by obtain ⟨x,_,rfl⟩:=List.mem_map.1 hd;rfl) (by unfold maxLen;omega) (by omega) (λd hd=>by obtain ⟨x,_,rfl⟩:=List.mem_map.1 hd;rfl) (es:=(xs.map iv))<|by rw [Zby];rfl) ⟨I0,I0,T0⟩ ⟨rfl,T0⟩ rfl<|oS (.own 1)<|jE ?_
 refine Zd results83 (.tmp rfl) ?_
 show AV.sl 1 (0+xs.length) (xs.map iv)=Zc xs
 rw [Nat.zero_add];rfl
theorem CopyCf_c (HC:Rd.CgOk c):Ctr Tryz.prog J 46 [.agg (Rd.cCg c)] (.agg (Rd.cCg c)):=by
 refine Zn func46 rfl (pN (Zg<|Rd.plain_cg c) pZ) (n:=20) rfl (by simp)<|λw0 => jB<|oX 1 (.agg (Rd.cCg c))<|oZ 2 Z36<|jD ?_
 refine tD<|dW<|dW<|dk (Y9 c.sh<|Nat.le_trans HC.lsh<|by decide) [Zc c.sh] rfl rfl<|dW<|dW<|dk (Y9 c.st<|Nat.le_trans HC.lst<|by decide) [Zc c.st] rfl rfl<|dW<|dS (iv c.cor)<|dW<|dW<|dk (Y9 c.se<|Nat.le_trans HC.lse<|by decide) [Zc c.se] rfl rfl<|dW<|dW<|dk (Y9 c.fa<|Nat.le_trans HC.lfa<|by decide) [Zc c.fa] rfl rfl<|dW<|dS (iv c.val)<|dR (Ze4 [0,1,2,3,4,5] [.tmp 5,.tmp 8,.tmp 10,.tmp 13,.tmp 16,.tmp 18] [.fr (Zc c.sh),.fr (Zc c.st),iv c.cor,.fr (Zc c.se),.fr (Zc c.fa),iv c.val] [.inr 0,.inr 1,.inr 2,.inr 3,.inr 4,.inr 5] rfl rfl rfl rfl rfl (λ_=>by kernel_rfl) rfl (ds:=[.fr (Zc c.sh),.fr (Zc c.st),iv c.cor,.fr (Zc c.se),.fr (Zc c.fa),iv c.val]) rfl) ⟨I0,I0,I0,I0,I0,I0,T0⟩ T0 T0<|dY<|eD ?_
 exact kW 20 [(2,.box 36 [.fr (Zc c.sh),.fr (Zc c.st),iv c.cor,.fr (Zc c.se),.fr (Zc c.fa),iv c.val])] [(2,bx 2)]<|Zf<|ZQ<|Zd results46 (.cellS rfl rfl U36 rfl (z:=6) (by kernel_rfl) rfl (by decide))<|rfl
def pair (k:Nat) (nm:Nm) (k2:Nat) (nm2:Nm):Names:=⟨λj=>if j=k then some nm else if j=k2 then some nm2 else none,λ_=>False⟩
section
variable {k k2:Nat} {nm nm2:Nm}
theorem pair_one:pair k nm k2 nm2 k=some nm:=if_pos rfl
theorem pair_two (h:k≠k2):pair k nm k2 nm2 k2=some nm2:=(if_neg λe=>h e.symm).trans (if_pos rfl)
variable {j:Nat}
theorem Zfg {x:Nm} (h:pair k nm k2 nm2 j=some x):(j=k/\x=nm)\/(j=k2/\x=nm2):=by
 dsimp only [pair] at h
 split at h
 ·rename_i e;exact .inl ⟨e,(Option.some.inj h).symm⟩
 split at h
 ·rename_i e;exact .inr ⟨e,(Option.some.inj h).symm⟩
 cases h
end
def New2 (B:Nat) (w:World) (nm nm2:Nm):Prop:=(∀ b c n,nm = .at b c n->B<=b/\b<w.heap.size)/\(∀ b c n,nm2 = .at b c n->B<=b/\b<w.heap.size)/\∀ b c n c' n',nm = .at b c n->nm2 ≠ .at b c' n'
def CtrO2 (P:Program) (J:World->Prop) (f:FuncId) (args:List AV) (k:Nat) (Y:ABlk) (k2:Nat) (Y2:ABlk) (u:AV):Prop :=
 ∀ (w:World) (vs:Array Value),(∀ w',Below w.heap.size w w'->J w')->vs.size=args.length->(∀ j (hj:j<args.length),Pu (λ_=>True) w (λb=>b<w.heap.size) args[j] (vs.getD j undef)) ->
  Calls P f vs w λe w'=>∃ v nm nm2,e = .returned v/\New2 w.heap.size w' nm nm2/\BlkR (pair k nm k2 nm2) w' w.heap.size nm Y/\BlkR (pair k nm k2 nm2) w' w.heap.size nm2 Y2/\Rel (pair k nm k2 nm2) w.heap.size w' u v/\Below w.heap.size w w'
section
variable {P:Program} {o:Oper}
variable {u:AV}{cs cs2:List AV}{k2 e2 z2 n2:Nat}
theorem ZdW {c:Operand} {xs:Array Operand} {ats:Array TypeId} {f:FuncId} {Xs Ys:List AV} {k e z n:Nat} (rd:List (Nat × ABlk)) (hC:CtrO2 P J f Ys k (.row true e z n cs) k2 (.row true e2 z2 n2 cs2) u) (ho:o.op = .call { callee := .value c,args:=xs,argTypes:=ats })
 (hf : (P.funcs[f]?).map (λfn => (fn.name == "runtime.NumGoroutine") || fn.body.isNone) = some false) (hl : xs.size = Xs.length) (hv : Xs.map (AV.view rd) = Ys) (hfl : Xs.all AV.flat2 = true) (hs : u.safe3 = true) (hkk : Nat.beq k k2 = false := by rfl) :
 ASpec P J o ((c,.v (.func (.func f) #[] #[]))::xs.toList.zip Xs) rd u (.nws k (.row true e z n cs) k2 (.row true e2 z2 n2 cs2)):=by
 subst hv
 have hne:k≠k2:=λe=>by rw [e,Nat.beq_refl] at hkk;cases hkk
 intro ρ B a w K Q hwf hB hJ ha hr hnew hk
 refine KK ho (ha (c,.v (.func (.func f) #[] #[])) (by simp)).v_inv hf ?_
 rw [Array.append_empty]
 refine (hC w (xs.map a.eval) (λw' h=>hJ w' (Y8 h)) (by simpa using hl) λj hj => ?_).mono λe' w' ⟨v,nm,nm2,he,hnm,hblk,hblk2,hrel,hb⟩=>⟨v,he,hk (upd (upd ρ k nm) k2 nm2) w' v ?_⟩
 ·have hj1:j<Xs.length:=by simpa using hj
  have hj2:j<xs.size:=by omega
  rw [List.getElem_map]
  have hm:(xs[j],Xs[j])∈(c,AV.v (.func (.func f) #[] #[]))::xs.toList.zip Xs:=by
   refine List.mem_cons_of_mem _ ?_
   rw [List.mem_iff_getElem]
   exact ⟨j,by simp;omega,by simp⟩
  have:=(ha _ hm).view hwf hr (List.all_eq_true.1 hfl _ (List.getElem_mem hj1))
  simpa [Array.getD,hj2] using this
 have h1:upd (upd ρ k nm) k2 nm2 k=some nm:=(Ya hne).trans (Yc _ _ _)
 have h2:upd (upd ρ k nm) k2 nm2 k2=some nm2:=Yc _ _ _
 have h3:∀ j,j≠k->j≠k2->upd (upd ρ k nm) k2 nm2 j=ρ j:=λj e1 e2=>(Ya e2).trans (Ya e1)
 have hok:∀ b,okOf (pair k nm k2 nm2) b->w.heap.size<=b->okOf (upd (upd ρ k nm) k2 nm2) b:=λb hb1 hb2 j c' n' hj=>by
  by_cases e1:j=k
  ·subst e1
   rw [h1] at hj
   exact hb1 j c' n' (by rw [pair_one];exact hj)
  by_cases e2:j=k2
  ·subst e2
   rw [h2] at hj
   exact hb1 j c' n' (by rw [pair_two hne];exact hj)
  rw [h3 j e1 e2] at hj
  have:=(hwf.lo _ _ _ _ hj).2
  omega
 have hn:∀ j x,pair k nm k2 nm2 j=some x->upd (upd ρ k nm) k2 nm2 j=some x:=λj x hj=>by
  rcases Zfg hj with ⟨rfl,rfl⟩ | ⟨rfl,rfl⟩
  ·exact h1
  exact h2
 have hblkr:∀ {nm':Nm} {e z n:Nat} {cs:List AV},BlkR (pair k nm k2 nm2) w' w.heap.size nm' (.row true e z n cs)->BlkR (upd (upd ρ k nm) k2 nm2) w' B nm' (.row true e z n cs):=λ⟨ys,q1,q2,q3⟩ =>
  ⟨ys,Zej q1 (show rowB true B<=rowB true w.heap.size from hB),q2,λj hj=>(q3 j hj).mono (λb hb1 hw=>⟨⟨hok b hb1.1 (hb1.2 rfl).1,λ_=>⟨Nat.le_trans hB (hb1.2 rfl).1,(hb1.2 rfl).2⟩⟩,hw,rfl⟩) λb _ h=>Nat.le_trans hB h⟩
 refine ⟨rfl,hb.os,hb.tape,hb.output,hb.size,λb hb' _=>hb.block b hb',λj hj hj2=>h3 j (λe1=>hj (by rw [e1];rfl)) (λe1=>hj2 (by rw [e1];rfl)),(λ_ _ h=>by cases h),λk' X he' => ?_,Zec (λX x h => ?_) hn hs hrel,λk' X he' => ?_⟩
 ·cases he'
  exact ⟨nm,h1,λb c' n' e1=>⟨(hnm.1 b c' n' e1).2,.inl (Nat.le_trans hB (hnm.1 b c' n' e1).1),.inl (hnm.1 b c' n' e1).1⟩,hblkr hblk⟩
 ·cases h with
  | fr h=>exact .fr (h.mono (λb hb1 hw=>⟨⟨hok b hb1.1 hb1.2.1,Nat.le_trans hB hb1.2.1,hb1.2.2⟩,hw,rfl⟩) λb _ h=>Nat.le_trans hB h)
 cases he'
 refine ⟨nm2,h2,λb c' n' e1=>⟨(hnm.2.1 b c' n' e1).2,Nat.le_trans hB (hnm.2.1 b c' n' e1).1,(hnm.2.1 b c' n' e1).1,λk'' c'' n'' hk'' hat => ?_⟩,hblkr hblk2⟩
 cases hk''
 rw [h1] at hat
 exact hnm.2.2 b c'' n'' c' n' (Option.some.inj hat) e1
end
def AV.rep1 (k0 k j0 k2:Nat):AV->AV
 | .v x => .v x
 | .fr X => .fr X
 | .own j=>if j=k0 then .own k else if j=j0 then .own k2 else .any
 | _ => .any
def AV.rep2 (k0 k j0 k2:Nat):AV->AV
 | .agg cs => .agg (cs.map (AV.rep1 k0 k j0 k2))
 | X=>X.rep1 k0 k j0 k2
section
variable {w0:Wb} {ρ:Names} {h:AHeap} {t:ATm} {a:Act} {w:World} {k0 k j0 k2:Nat} {nm nm2:Nm}
variable {X:AV}
theorem rel_rep1 (hne:k≠k2) (hk:ρ k0=some nm) (hj:ρ j0=some nm2) {x:Value} (hr:Rel ρ w0.heap.size w X x):Rel (pair k nm k2 nm2) w0.heap.size w (X.rep1 k0 k j0 k2) x:=by
 cases hr with
 | pu hr =>
   cases hr with
   | v x=>exact .pu (.v x)
   | fr hr =>
     exact .pu (.fr (hr.weak λb hb=>⟨λj c n hj'=>by
      rcases Zfg hj' with ⟨rfl,e⟩ | ⟨rfl,e⟩
      ·exact hb.1 k0 c n (by rw [hk,<- e])
      exact hb.1 j0 c n (by rw [hj,<- e]),hb.2⟩))
   | _=>exact .anyR
 | own hj' =>
   rename_i j nm'
   simp only [AV.rep1]
   split
   ·rename_i e
    subst e
    rw [hk] at hj';cases hj'
    exact .own pair_one
   split
   ·rename_i e
    subst e
    rw [hj] at hj';cases hj'
    exact .own (pair_two hne)
   exact .anyR
 | _=>exact .anyR
theorem rel_rep2 (hne:k≠k2) (hk:ρ k0=some nm) (hj:ρ j0=some nm2) {x:Value} (hr:Rel ρ w0.heap.size w X x):Rel (pair k nm k2 nm2) w0.heap.size w (X.rep2 k0 k j0 k2) x:=by
 cases X with
 | agg cs =>
   obtain ⟨vs,rfl,hl,hc⟩:=hr.agg_inv
   exact .agg (by simpa using hl) λj hj'=>by rw [List.getElem_map];exact rel_rep1 hne hk hj (hc j (by simpa using hj'))
 | _=>exact rel_rep1 hne hk hj hr
end
def AV.rep3 (k0 k j0 k2:Nat):AV->AV
 | .tup cs => .tup (cs.map (AV.rep2 k0 k j0 k2))
 | X=>X.rep2 k0 k j0 k2
variable {ρ:Names}{w:World}{k0 j0 k2:Nat}{X:AV}
theorem rel_rep3 {w0:Wb} {nm nm2:Nm} (hne:k≠k2) (hk:ρ k0=some nm) (hj:ρ j0=some nm2) {x:Value} (hr:Rel ρ w0.heap.size w X x):Rel (pair k nm k2 nm2) w0.heap.size w (X.rep3 k0 k j0 k2) x:=by
 cases X with
 | tup cs =>
   obtain ⟨vs,rfl,hl,hc⟩:=hr.tup_inv
   exact .tup (by simpa using hl) λj hj'=>by rw [List.getElem_map];exact rel_rep2 hne hk hj (hc j (by simpa using hj'))
 | _=>exact rel_rep2 hne hk hj hr
def RetO2 (w0:Wb) (k:Nat) (Y:ABlk) (k2:Nat) (Y2:ABlk) (u:AV) (e:Ending) (w':World):Prop :=
 ∃ v nm nm2,e = .returned v/\New2 w0.heap.size w' nm nm2/\BlkR (pair k nm k2 nm2) w' w0.heap.size nm Y/\BlkR (pair k nm k2 nm2) w' w0.heap.size nm2 Y2/\Rel (pair k nm k2 nm2) w0.heap.size w' u v/\Bel w0 w'
section
variable {P:Program} {w0:Wb} {h:AHeap} {t:ATm}
variable {cs cs2:List AV}{e2 z2 n2:Nat}{u:AV}
theorem Sat.give2 {a:Act} (s:Sat J w0 ρ h t a w) {k0 k e z n:Nat} (hne:k≠k2) (hkj:k0≠j0) (hk:h k0=some (.row true e z n cs)) (hj:h j0=some (.row true e2 z2 n2 cs2)) {x:Value} (hr:Rel ρ w0.heap.size w X x) (hu:X.rep3 k0 k j0 k2=u) :
 RetO2 w0 k (.row true e z n cs) k2 (.row true e2 z2 n2 cs2) u (.returned x) w:=by
 subst hu
 obtain ⟨nm,h1,hb0⟩:=s.hp _ _ hk
 obtain ⟨nm2,h2,hb2⟩:=s.hp _ _ hj
 have hw:∀ {nm':Nm} {e z n:Nat} {cs:List AV},BlkR ρ w w0.heap.size nm' (.row true e z n cs)->BlkR (pair k nm k2 nm2) w w0.heap.size nm' (.row true e z n cs):=λ⟨ys,q1,q2,q3⟩ =>
  ⟨ys,q1,q2,λj hj=>(q3 j hj).weak λb hb=>⟨λj c n hj'=>by
   rcases Zfg hj' with ⟨rfl,e⟩ | ⟨rfl,e⟩
   ·exact hb.1 k0 c n (by rw [h1,<- e])
   exact hb.1 j0 c n (by rw [h2,<- e]),hb.2⟩⟩
 refine ⟨x,nm,nm2,rfl,⟨λb c n' e=>⟨hb0.lowR e,by subst e;exact (s.wf.lo _ _ _ _ h1).2⟩,λb c n' e=>⟨hb2.lowR e,by subst e;exact (s.wf.lo _ _ _ _ h2).2⟩,λb c n' c' n'' e1 e2 => ?_⟩,hw hb0,hw hb2,rel_rep3 hne h1 h2 hr,s.bel⟩
 subst e1 e2
 exact hkj (s.wf.inj _ _ _ _ _ _ _ h1 h2)
theorem ZdN {fn:Func} {r:ResultVar} (k0 j0:Nat) {k e z n:Nat} (hr:fn.results = #[r]) (h1:ResV P h t r X) (hk:h k0=some (.row true e z n cs)) (hj:h j0=some (.row true e2 z2 n2 cs2)) (hu:X.rep3 k0 k j0 k2=u) (hne:k≠k2) (hkj:Nat.beq k0 j0=false:=by rfl) :
 ETri J w0 h t (bodyPost P fn (RetO2 w0 k (.row true e z n cs) k2 (.row true e2 z2 n2 cs2) u) .ret):=fun ρ a w s=>by
 obtain ⟨v,g1,g2⟩:=KO s h1
 refine ⟨s.df,v,?_,s.give2 hne (λe=>by rw [e,Nat.beq_refl] at hkj;cases hkj) hk hj g2 hu⟩
 unfold results
 rw [hr,Sem.run_bind,Zbq (v:=v) (by cases r<;>exact g1)]
 rfl
theorem Zbe {f:FuncId} {fn:Func} {c:Code} {args:List AV} {Y:ABlk} {Y2:ABlk} (hf:P.funcs[f]? = some fn) (hb:fn.body=some c) (hpl:∀ X∈args,Plain X) {n:Nat} (hnt:fn.ntmps=n) (hna:args.length<=n)
 (H:∀ w0,ETri J w0 (ofL []) (ofT n ((List.range args.length).zip args)) (c.wp P (bodyPost P fn (RetO2 w0 k Y k2 Y2 u)))):CtrO2 P J f args k Y k2 Y2 u:=λw vs hJ hl hv=>by
 refine (calls_of_wp hf hb (H ⟨w,λ_=>False,λ_=>none⟩ ⟨λ_=>none,λ_=>False⟩ _ w ⟨⟨(λ_ _ _ _ _ _ _ h=>by cases h),(λ_ _ _ _ h=>by cases h)⟩,rfl,Bel.refl _,(λw' h=>hJ w' (h.below λ_ h=>h)),(λ_ _ h=>by cases h),λ_ _ _=>rfl,λ_ _=>rfl,by simp [hl,hnt,ofT];omega,λi hi => ?_,rfl,λ_ _=>rfl⟩)).mono λe w' ⟨v,nm,nm2,q1,q2,q3,q4,q5,q6⟩=>⟨v,nm,nm2,q1,q2,q3,q4,q5,q6.below λ_ h=>h⟩
 simp only [ofT]
 cases hf:((List.range args.length).zip args).find? λp=>p.1==i with
 | none=>exact .anyR
 | some p =>
   have hm:=List.mem_of_find?_eq_some hf
   have hk':p.1=i:=by have:=List.find?_some hf;simpa using this
   obtain ⟨j,hj,e⟩:=List.getElem_of_mem hm
   simp only [List.getElem_zip,List.getElem_range] at e
   subst e
   dsimp only at hk'
   subst hk'
   have hj1:j<args.length:=by simp at hj;omega
   simp only [Option.map_some,Option.getD_some]
   have:=(hv j hj1).plain (F':=(w.heap.size <= ·)) (hpl _ (List.getElem_mem hj1))
   have hj2:j<vs.size:=by omega
   have e:(vs++Array.replicate (fn.ntmps-vs.size) undef).getD j undef=vs.getD j undef:=by simp [Array.getD,hj2,Array.getElem_append_left hj2];omega
   rw [e]
   exact .pu (this.weak λb _ k c n hk=>by cases hk)
end
namespace Ra
open En Ap
def stP (c:Cf) (r:Ru) (k:Int):List Int:=if r.kind=2\/r.kind=5 then (st0 c r).set k.toNat r.pt else st0 c r
theorem stP_len (c:Cf) (r:Ru) (k:Int):(stP c r k).length=c.st.length:=by unfold stP;split<;>simp [st0_len]
variable {r:Ru}
theorem stP_fin {k:Int} (h:r.kind=2\/r.kind=5->k.toNat≠i):(stP c r k).set i r.to=stA c r i k:=by
 unfold stP stA st1
 by_cases h2:r.kind=2\/r.kind=5
 ·rw [if_pos h2,if_pos h2,List.set_comm _ _ (h h2)]
 rw [if_neg h2,if_neg h2]
def wv (c:Cf) (r:Ru):Int:=if 0<=r.wr then r.wr else c.val
variable {l:List Int}{x:Int}
theorem set_row :setAll (l.map iv) (i*1) [iv x]=(l.set i x).map iv:=by
 show (l.map iv).set (i*1) (iv x)=_
 rw [Nat.mul_one,List.map_set]
variable {j:Nat}
theorem br_row (hx:x=brd r (c.st.getD j 0)):setAll ((brL r c.st j).map iv) (j*1) [iv x]=(brL r c.st (j+1)).map iv:=by
 rw [set_row,hx,brL_set]
theorem fin_row {k:Int} (h:r.kind=2\/r.kind=5->k.toNat≠i):setAll ((stP c r k).map iv) (i*1) [iv r.to]=(stA c r i k).map iv:=by
 rw [set_row,stP_fin h]
variable {cor:Int}
theorem Ze5 (hc:(i:Int)<cor) (hk:k<r.send.length):seA cor c r i (k+1)=(seA cor c r i k).set r.send[k].toNat ((seA cor c r i k).getD r.send[k].toNat 0+1):=by
 unfold seA;rw [if_pos hc,if_pos hc,Zbn _ _ hk]
theorem Zfr (hc:¬ (i:Int)<cor) (hk:k<r.send.length):faA cor c r i (k+1)=(faA cor c r i k).set r.send[k].toNat ((faA cor c r i k).getD r.send[k].toNat 0+1):=by
 unfold faA;rw [if_neg hc,if_neg hc,Zbn _ _ hk]
theorem se_row (hc:(i:Int)<cor) (hk:k<r.send.length):setAll ((seA cor c r i k).map iv) (r.send[k].toNat*1) [iv ((seA cor c r i k).getD r.send[k].toNat 0+1)]=(seA cor c r i (k+1)).map iv:=by
 rw [set_row,Ze5 hc hk]
theorem fa_row (hc:¬ (i:Int)<cor) (hk:k<r.send.length):setAll ((faA cor c r i k).map iv) (r.send[k].toNat*1) [iv ((faA cor c r i k).getD r.send[k].toNat 0+1)]=(faA cor c r i (k+1)).map iv:=by
 rw [set_row,Zfr hc hk]
theorem bel_of {m:Int} (h:∀ x∈l,0<=x/\x<m):Rd.belB l m=true:=by
 unfold Rd.belB
 rw [Bool.not_eq_true',List.any_eq_false]
 intro x hx
 have:=h x hx
 unfold Rd.outB
 simp only [Bool.or_eq_true,decide_eq_true_eq,not_or]
 omega
variable {M:Int}{m:Nat}
theorem bel_set (hb:Rd.belB l M=true) (hm:m<l.length) (h0:0<=x):Rd.belB (l.set m x) M=decide (x<M):=by
 by_cases h:x<M
 ·rw [decide_eq_true h]
  refine bel_of λy hy => ?_
  rcases Zfk hy with h1 | rfl
  ·exact Zac hb y h1
  exact ⟨h0,h⟩
 rw [decide_eq_false h,Bool.eq_false_iff]
 intro e
 have hx:x∈l.set m x:=List.mem_iff_getElem.2 ⟨m,by rw [List.length_set];exact hm,List.getElem_set_self (by rw [List.length_set];exact hm)⟩
 exact h (Zac e x hx).2
theorem bel_inc (hn:∀ x∈l,0<=x) (hb:Rd.belB l M=false):Rd.belB (l.set m (l.getD m 0+1)) M=false:=by
 rw [Bool.eq_false_iff] at hb ⊢
 intro e
 refine hb (bel_of λy hy=>⟨hn y hy,?_⟩)
 obtain ⟨j,hj,rfl⟩:=List.getElem_of_mem hy
 by_cases a:m=j
 ·subst a
  have hx:l.getD m 0+1∈l.set m (l.getD m 0+1):=List.mem_iff_getElem.2 ⟨m,by rw [List.length_set];exact hj,List.getElem_set_self (by rw [List.length_set];exact hj)⟩
  have:=(Zac e _ hx).2
  rw [Ct.getD_at hj] at this
  omega
 have hx:l[j]∈l.set m (l.getD m 0+1):=List.mem_iff_getElem.2 ⟨j,by rw [List.length_set];exact hj,List.getElem_set_ne a (by rw [List.length_set];exact hj)⟩
 exact (Zac e _ hx).2
section
variable {p:Fm} {n f:Int} {c:Cf} {r:Ru} {i k:Nat} {cor:Int}
variable {b:Bool}
theorem se_yes (hc:CfV p n f c) (hi:(i:Int)<cor) (hk:k<r.send.length) (hm:r.send[k].toNat<c.se.length) (hb:b=Rd.belB (seA cor c r i k) 1048577) (ht:b=true):decide ((seA cor c r i (k+1)).getD r.send[k].toNat 0<=1048576)=Rd.belB (seA cor c r i (k+1)) 1048577:=by
 rw [ht] at hb
 have h0:=Ap.getD_in (seA_in (cor:=cor) (r:=r) (i:=i) (k:=k) hc.se) (by omega) r.send[k].toNat
 rw [Ze5 hi hk,ZaH (by rw [seA_len];exact hm),if_pos rfl,bel_set hb.symm (by rw [seA_len];exact hm) (by omega)]
 by_cases a:(seA cor c r i k).getD r.send[k].toNat 0+1<=1048576
 ·rw [decide_eq_true a,decide_eq_true (by omega)]
 rw [decide_eq_false a,decide_eq_false (by omega)]
theorem se_nope (hc:CfV p n f c) (hi:(i:Int)<cor) (hk:k<r.send.length) (hb:b=Rd.belB (seA cor c r i k) 1048577) (ht:b=false):false=Rd.belB (seA cor c r i (k+1)) 1048577:=by
 rw [ht] at hb
 rw [Ze5 hi hk,bel_inc (λx hx=>(seA_in hc.se x hx).1) hb.symm]
theorem fa_yes (hc:CfV p n f c) (hi:¬ (i:Int)<cor) (hk:k<r.send.length) (hm:r.send[k].toNat<c.fa.length) (hb:b=Rd.belB (faA cor c r i k) 1048577) (ht:b=true):decide ((faA cor c r i (k+1)).getD r.send[k].toNat 0<=1048576)=Rd.belB (faA cor c r i (k+1)) 1048577:=by
 rw [ht] at hb
 have h0:=Ap.getD_in (faA_in (cor:=cor) (r:=r) (i:=i) (k:=k) hc.fa) (by omega) r.send[k].toNat
 rw [Zfr hi hk,ZaH (by rw [faA_len];exact hm),if_pos rfl,bel_set hb.symm (by rw [faA_len];exact hm) (by omega)]
 by_cases a:(faA cor c r i k).getD r.send[k].toNat 0+1<=1048576
 ·rw [decide_eq_true a,decide_eq_true (by omega)]
 rw [decide_eq_false a,decide_eq_false (by omega)]
theorem fa_nope (hc:CfV p n f c) (hi:¬ (i:Int)<cor) (hk:k<r.send.length) (hb:b=Rd.belB (faA cor c r i k) 1048577) (ht:b=false):false=Rd.belB (faA cor c r i (k+1)) 1048577:=by
 rw [ht] at hb
 rw [Zfr hi hk,bel_inc (λx hx=>(faA_in hc.fa x hx).1) hb.symm]
theorem bel_se (hc:CfV p n f c):Rd.belB c.se 1048577=true:=bel_of λx hx=>by have:=hc.se x hx;omega
theorem bel_fa (hc:CfV p n f c):Rd.belB c.fa 1048577=true:=bel_of λx hx=>by have:=hc.fa x hx;omega
theorem se_start (hc:CfV p n f c):true=Rd.belB (seA cor c r i 0) 1048577:=by
 have e:seA cor c r i 0=c.se:=by unfold seA snd;split<;>simp
 rw [e,bel_se hc]
theorem fa_start (hc:CfV p n f c):true=Rd.belB (faA cor c r i 0) 1048577:=by
 have e:faA cor c r i 0=c.fa:=by unfold faA snd;split<;>simp
 rw [e,bel_fa hc]
variable {k':Int}
theorem lg_se (hc:CfV p n f c) (hi:(i:Int)<cor):lgB (af cor c r i k')=Rd.belB (seA cor c r i r.send.length) 1048577:=by
 have e:(af cor c r i k').fa=c.fa:=if_pos hi
 unfold lgB
 rw [e,bel_fa hc,Bool.and_true]
 rfl
theorem lg_fa (hc:CfV p n f c) (hi:¬ (i:Int)<cor):lgB (af cor c r i k')=Rd.belB (faA cor c r i r.send.length) 1048577:=by
 have e:(af cor c r i k').se=c.se:=if_neg hi
 unfold lgB
 rw [e,bel_se hc,Bool.true_and]
 rfl
theorem res_se (hi:(i:Int)<cor):[Zc c.sh,AV.sl 1 (0+c.st.length) ((stA c r i k').map iv),iv c.cor,.sl 1 (0+c.se.length) ((seA cor c r i r.send.length).map iv),Zc c.fa,iv (wv c r)]=Rd.cCg (af cor c r i k'):=by
 have e:(af cor c r i k').fa=c.fa:=if_pos hi
 unfold Rd.cCg
 rw [e,show 0+c.st.length=(stA c r i k').length by rw [Zda];omega,show 0+c.se.length=(seA cor c r i r.send.length).length by rw [seA_len];omega]
 rfl
theorem res_fa (hi:¬ (i:Int)<cor):[Zc c.sh,AV.sl 1 (0+c.st.length) ((stA c r i k').map iv),iv c.cor,Zc c.se,.sl 1 (0+c.fa.length) ((faA cor c r i r.send.length).map iv),iv (wv c r)]=Rd.cCg (af cor c r i k'):=by
 have e:(af cor c r i k').se=c.se:=if_neg hi
 unfold Rd.cCg
 rw [e,show 0+c.st.length=(stA c r i k').length by rw [Zda];omega,show 0+c.fa.length=(faA cor c r i r.send.length).length by rw [faA_len];omega]
 rfl
theorem se_zero:seA cor c r i 0=c.se:=by unfold seA snd;split<;>simp
theorem fa_zero:faA cor c r i 0=c.fa:=by unfold faA snd;split<;>simp
end
end Ra
namespace Ra
open En Ap
variable {r:Ru}
theorem pt_ne {k:Int} (h:ptB c r i k=true) (h25:r.kind=2\/r.kind=5):k.toNat≠i:=by
 unfold ptB at h
 rw [if_pos h25,Bool.and_eq_true,Bool.and_eq_true] at h
 have h1:=h.1.1
 have h2:=h.1.2
 unfold isP at h1
 simp only [Bool.and_eq_true,decide_eq_true_eq,Bool.not_eq_true',decide_eq_false_iff_not] at h1 h2
 omega
section
variable {p:Fm} {n t f:Int} {c:Cf} {x y k:Int}
theorem apE_y (hz:Rd.vcE p n t f c=0) (he:enB p n t f c (hdJ p f c p.msgs.length) x y k=true) (hl:lgB (afX p n f c x y k)=true):apE p n t f c x y k=0:=by unfold apE;rw [if_pos hz,if_pos he,if_pos hl]
theorem apC_y (hz:Rd.vcE p n t f c=0) (he:enB p n t f c (hdJ p f c p.msgs.length) x y k=true) (hl:lgB (afX p n f c x y k)=true):apC p n t f c x y k=afX p n f c x y k:=by unfold apC;rw [apE_y hz he hl,if_pos rfl]
theorem apE_n (hz:Rd.vcE p n t f c=0) (he:enB p n t f c (hdJ p f c p.msgs.length) x y k=true) (hl:lgB (afX p n f c x y k)=false):apE p n t f c x y k=4:=by unfold apE;rw [if_pos hz,if_pos he,hl];rfl
theorem apC_n (hz:Rd.vcE p n t f c=0) (he:enB p n t f c (hdJ p f c p.msgs.length) x y k=true) (hl:lgB (afX p n f c x y k)=false):apC p n t f c x y k=zC:=by unfold apC;rw [apE_n hz he hl];rfl
end
end Ra
namespace Ap
variable {r:Ru}{j:Nat}
theorem brd_el {h:j<c.st.length} (hr:c.st[j].toNat<r.resp.length):r.resp[c.st[j].toNat]=brd r (c.st.getD j 0):=by
 rw [brd_at hr,Ct.getD_at h]
theorem cst_el (hc:En.CfV p n f c) (h:j<c.st.length):0<=c.st[j]/\c.st[j]<p.sz.length:=hc.st _ (List.getElem_mem h)
end Ap
set_option maxHeartbeats 12800000
set_option maxRecDepth 100000 in
theorem W5 (xs:List Int) (hx:xs.length<=17592186044416) (k:Nat):CtrO Tryz.prog J 83 [Zc xs] k (.row true 3 1 (0+xs.length) (xs.map iv)) (.own k):=by
 refine Zfu func83 rfl (by intro X hX;simp at hX;subst hX;exact Zx _) (n:=6) rfl (by simp) (λw0 => ?_)
 refine jB (oS (nz) (jD (Za (YA rfl (Zaw (z:=1) (k:=1) true rfl U24 (by kernel_rfl)) T0 T0 rfl (oS (Zc xs) (YA rfl (K1 (n:=0) (cs:=[]) (fr:=true) (m:=xs.length) (ds:=(xs.map iv)) (⟨U24,by kernel_rfl,by decide⟩:Elt Tryz.prog 24 3 1 8) (.tmp 3) (.tmp 4) rfl (λ_ d hd=>by obtain ⟨x,_,rfl⟩:=List.mem_map.1 hd;rfl) (by unfold maxLen;omega) (by omega) (λd hd=>by obtain ⟨x,_,rfl⟩:=List.mem_map.1 hd;rfl) (es:=(xs.map iv)) (by rw [Zby];rfl)) ⟨I0,I0,T0⟩ ⟨rfl,T0⟩ rfl (oS (.own 1) (jE ?_))))))))
 refine tri_give1 1 results83 (.tmp rfl) rfl rfl
set_option maxRecDepth 100000 in
theorem CopyCf_se (HC:Rd.CgOk c) (k k2:Nat) (hkk:k≠k2):CtrO2 Tryz.prog J 46 [.agg (Rd.cCg c)] k (.row true 3 1 (0+c.st.length) (c.st.map iv)) k2 (.row true 3 1 (0+c.se.length) (c.se.map iv)) (.agg [.fr (Zc c.sh),.own k,iv c.cor,.own k2,.fr (Zc c.fa),iv c.val]):=by
 refine Zbe func46 rfl (pN (Zg (Rd.plain_cg c)) pZ) (n:=20) rfl (by simp) (λw0 => ?_)
 refine jB (oX 1 (.agg (Rd.cCg c)) (oZ 2 Z36 (jD ?_)))
 refine tD (dW (dW (dk (Y9 c.sh (Nat.le_trans HC.lsh (by decide))) [Zc c.sh] rfl rfl (dW (dS (Zc c.st) (dR (Zbm (c := .func 83) (xs := #[.tmp 7]) [] (W5 c.st (Nat.le_trans HC.lst (by decide)) 3) rfl (by kernel_rfl) rfl (Xs:=[Zc c.st]) rfl rfl rfl) ⟨I0,I0,T0⟩ T0 rfl (dW (dS (iv c.cor) (dW (dS (Zc c.se) (dR (Zbm (c := .func 83) (xs := #[.tmp 12]) [] (W5 c.se (Nat.le_trans HC.lse (by decide)) 4) rfl (by kernel_rfl) rfl (Xs:=[Zc c.se]) rfl rfl rfl) ⟨I0,I0,T0⟩ T0 rfl (dW (dW (dk (Y9 c.fa (Nat.le_trans HC.lfa (by decide))) [Zc c.fa] rfl rfl (dW (dS (iv c.val) (dR (Ze4 [0,1,2,3,4,5] [.tmp 5,.tmp 8,.tmp 10,.tmp 13,.tmp 16,.tmp 18] [.fr (Zc c.sh),.own 3,iv c.cor,.own 4,.fr (Zc c.fa),iv c.val] [.inr 0,.inr 1,.inr 2,.inr 3,.inr 4,.inr 5] rfl rfl rfl rfl rfl (λ_=>by kernel_rfl) rfl (ds:=[.fr (Zc c.sh),.own 3,iv c.cor,.own 4,.fr (Zc c.fa),iv c.val]) rfl) ⟨I0,I0,I0,I0,I0,I0,T0⟩ T0 T0 (dY (eD ?_)))))))))))))))))))
 refine kW 20 [(2,.box 36 [.fr (Zc c.sh),.own 3,iv c.cor,.own 4,.fr (Zc c.fa),iv c.val]),(3,.row true 3 1 (0+c.st.length) (c.st.map iv)),(4,.row true 3 1 (0+c.se.length) (c.se.map iv))] [(2,bx 2)] (Zf (ZQ ?_))
 refine ZdN 3 4 results46 (.cellS rfl rfl U36 rfl (z:=6) (by kernel_rfl) rfl (by decide)) rfl rfl rfl hkk
set_option maxRecDepth 100000 in
theorem CopyCf_fa (HC:Rd.CgOk c) (k k2:Nat) (hkk:k≠k2):CtrO2 Tryz.prog J 46 [.agg (Rd.cCg c)] k (.row true 3 1 (0+c.st.length) (c.st.map iv)) k2 (.row true 3 1 (0+c.fa.length) (c.fa.map iv)) (.agg [.fr (Zc c.sh),.own k,iv c.cor,.fr (Zc c.se),.own k2,iv c.val]):=by
 refine Zbe func46 rfl (pN (Zg (Rd.plain_cg c)) pZ) (n:=20) rfl (by simp) (λw0 => ?_)
 refine jB (oX 1 (.agg (Rd.cCg c)) (oZ 2 Z36 (jD ?_)))
 refine tD (dW (dW (dk (Y9 c.sh (Nat.le_trans HC.lsh (by decide))) [Zc c.sh] rfl rfl (dW (dS (Zc c.st) (dR (Zbm (c := .func 83) (xs := #[.tmp 7]) [] (W5 c.st (Nat.le_trans HC.lst (by decide)) 3) rfl (by kernel_rfl) rfl (Xs:=[Zc c.st]) rfl rfl rfl) ⟨I0,I0,T0⟩ T0 rfl (dW (dS (iv c.cor) (dW (dW (dk (Y9 c.se (Nat.le_trans HC.lse (by decide))) [Zc c.se] rfl rfl (dW (dS (Zc c.fa) (dR (Zbm (c := .func 83) (xs := #[.tmp 15]) [] (W5 c.fa (Nat.le_trans HC.lfa (by decide)) 4) rfl (by kernel_rfl) rfl (Xs:=[Zc c.fa]) rfl rfl rfl) ⟨I0,I0,T0⟩ T0 rfl (dW (dS (iv c.val) (dR (Ze4 [0,1,2,3,4,5] [.tmp 5,.tmp 8,.tmp 10,.tmp 13,.tmp 16,.tmp 18] [.fr (Zc c.sh),.own 3,iv c.cor,.fr (Zc c.se),.own 4,iv c.val] [.inr 0,.inr 1,.inr 2,.inr 3,.inr 4,.inr 5] rfl rfl rfl rfl rfl (λ_=>by kernel_rfl) rfl (ds:=[.fr (Zc c.sh),.own 3,iv c.cor,.fr (Zc c.se),.own 4,iv c.val]) rfl) ⟨I0,I0,I0,I0,I0,I0,T0⟩ T0 T0 (dY (eD ?_)))))))))))))))))))
 refine kW 20 [(2,.box 36 [.fr (Zc c.sh),.own 3,iv c.cor,.fr (Zc c.se),.own 4,iv c.val]),(3,.row true 3 1 (0+c.st.length) (c.st.map iv)),(4,.row true 3 1 (0+c.fa.length) (c.fa.map iv))] [(2,bx 2)] (Zf (ZQ ?_))
 refine ZdN 3 4 results46 (.cellS rfl rfl U36 rfl (z:=6) (by kernel_rfl) rfl (by decide)) rfl rfl rfl hkk
namespace En
def parI (sh:List Int) (i k:Nat) (q:Int):Prop :=
 (q = -1/\∀ j:Nat,j<k->(trun sh sh.length).fi j≠(i:Int)/\(trun sh sh.length).se j≠(i:Int))\/∃ j:Nat,j<k/\q=(j:Int)/\((trun sh sh.length).fi j=(i:Int)\/(trun sh sh.length).se j=(i:Int))
variable {sh:List Int}
theorem par_zero :parI sh i 0 (-1) := .inl ⟨rfl,λ_ h=>absurd h (by omega)⟩
theorem par_here (hs:shp sh=true) (hk:k<sh.length) (h2:sh[k]=2) (h:((k+1:Nat):Int)=(i:Int)\/(trun sh sh.length).se k=(i:Int)):parI sh i (k+1) (k:Int):=by
 refine .inr ⟨k,by omega,rfl,?_⟩
 rcases h with h | h
 ·have:=((Tr.tree_kids hs hk).2 (by rw [Ct.getD_at hk];exact h2)).1
  exact .inl (by omega)
 exact .inr h
theorem par_skip {q:Int} (hs:shp sh=true) (hk:k<sh.length) (h0:parI sh i k q) (h:¬ sh[k]=2\/(sh[k]=2/\¬ ((k+1:Nat):Int)=(i:Int)/\¬ (trun sh sh.length).se k=(i:Int))):parI sh i (k+1) q:=by
 rcases h0 with ⟨hq,h0⟩ | ⟨j,hj,hq,h0⟩
 ·refine .inl ⟨hq,λj hj => ?_⟩
  by_cases e:j=k
  ·subst e
   rcases h with h | ⟨h2,h3,h4⟩
   ·have:=(Tr.tree_kids hs hk).1 (by rw [Ct.getD_at hk];exact h)
    omega
   have:=((Tr.tree_kids hs hk).2 (by rw [Ct.getD_at hk];exact h2)).1
   exact ⟨by omega,h4⟩
  exact h0 j (by omega)
 exact .inr ⟨j,by omega,hq,h0⟩
theorem par_end {q:Int} (hs:shp sh=true) (hi:i<sh.length) (hk:¬ k<i) (hk2:k<=i) (h:parI sh i k q):q=lkP 4 sh sh.length i:=by
 obtain rfl:k=i:=by omega
 have T:=(Zbz sh hs).1
 unfold lkP
 rw [if_pos rfl]
 rcases h with ⟨hq,h0⟩ | ⟨j,hj,hq,h0⟩
 ·rcases T.par k hi with e | ⟨p,hp,e,h1⟩
  ·rw [hq,e]
  exfalso
  have hpi:p<k:=by
   by_cases h2:sh.getD p 0=2
   ·obtain ⟨a,e2,b1,_,b3,_⟩:=(Tr.tree_kids hs hp).2 h2
    rcases h1 with h1 | h1<;>omega
   have:=(Tr.tree_kids hs hp).1 h2
   omega
  have:=h0 p hpi
  rcases h1 with h1 | h1
  ·exact this.1 h1
  exact this.2 h1
 rcases h0 with h0 | h0
 ·rcases T.fst j (by omega) with e | ⟨m,hm,e,h1⟩
  ·omega
  have:m=k:=by omega
  rw [hq,<- this];exact h1.symm
 rcases T.snd j (by omega) with e | ⟨m,hm,e,h1⟩
 ·omega
 have:m=k:=by omega
 rw [hq,<- this];exact h1.symm
def nF (top:Int) (sh:List Int) (n i:Nat):Int:=if top=1 then -1 else Jd.lkF top sh n i
def nS (top:Int) (sh:List Int) (n i:Nat):Int:=if top=1 then -1 else Jd.lkS top sh n i
def nP (top:Int) (sh:List Int) (n i:Nat):Int:=if top=1 then -1 else lkP top sh n i
theorem lkP_row {top:Int} {n i:Nat} (h:¬ top=4):lkP top sh n i = -1:=by
 unfold lkP;rw [if_neg h];rfl
theorem both (hs:shp sh=true) (hi:i<sh.length):(0<=Jd.lkS 4 sh sh.length i↔¬ Jd.lkF 4 sh sh.length i = -1):=by
 by_cases h:sh[i]=2
 ·obtain ⟨a,e,b1,_,b3,_⟩:=(Tr.tree_kids hs hi).2 (by rw [Ct.getD_at hi];exact h)
  unfold Jd.lkF Jd.lkS
  rw [if_pos rfl,if_pos rfl]
  constructor
  ·intro _;omega
  intro _;omega
 have:=Jd.t_0 hs hi h
 rw [this.1,this.2]
 constructor<;>omega
theorem lineS {n i:Nat} (hi:i<n):(0<=Jd.lkS 2 sh n i↔¬ Jd.lkS 2 sh n i = -1):=by
 unfold Jd.lkS rowL
 rw [if_neg (by omega)]
 dsimp only
 (repeat' split)<;>omega
variable {fo:Bool}{m:Nat}
theorem g_1 (hm:m<p.msgs.length) (h:p.fzz=1):hdG p f c fo m=c.se.getD m 0+c.fa.getD m 0:=by
 have:hdJ p f c p.msgs.length m=c.se.getD m 0+c.fa.getD m 0:=by unfold hdJ;rw [if_pos hm];unfold hdV;rw [if_pos (.inl h)]
 unfold hdG
 rw [if_pos h]
 split<;>exact this
theorem g_f (hm:m<p.msgs.length):hdG p f c false m=hdV p f c m:=by
 unfold hdG
 rw [if_neg (by decide)]
 unfold hdJ;rw [if_pos hm]
theorem g_t (h:¬ p.fzz=1):hdG p f c true m=c.se.getD m 0:=by
 unfold hdG
 rw [if_pos rfl,if_neg h]
theorem g_2 (hm:m<p.msgs.length) (h:p.fzz=2) (e:fo=false):hdG p f c fo m=c.se.getD m 0+c.fa.getD m 0:=by
 rw [e,g_f hm];unfold hdV;rw [if_pos (.inr h)]
theorem g_3 (hm:m<p.msgs.length) (h1:¬ p.fzz=1) (h2:¬ p.fzz=2) (h3:p.fzz=3) (e:fo=false):hdG p f c fo m=c.se.getD m 0+f:=by
 rw [e,g_f hm];unfold hdV;rw [if_neg (by omega),if_pos h3]
theorem g_0 (hm:m<p.msgs.length) (h1:¬ p.fzz=1) (h2:¬ p.fzz=2) (h3:¬ p.fzz=3):hdG p f c fo m=c.se.getD m 0:=by
 cases fo with
 | true=>exact g_t h1
 | false=>rw [g_f hm];unfold hdV;rw [if_neg (by omega),if_neg h3]
end En
theorem rEv_c {l:Ln} :Ctr Tryz.prog J 127 [.agg (cLn l),.agg (cSz n t f)] (.tup [iv (evN l.c l.n l.t l.f n t f),iv (evE l.c l.n l.t l.f n t f)]):=ctr2 λw v v' _ h h'=>by
 obtain ⟨vs,rfl,hl,hv⟩:=Yt h
 have e:vs=[.int .i64 l.c,.int .i64 l.n,.int .i64 l.t,.int .i64 l.f]:=by
  rw [cells4 hl,(hv 0 (by simp [cLn])).v_inv,(hv 1 (by simp [cLn])).v_inv,(hv 2 (by simp [cLn])).v_inv,(hv 3 (by simp [cLn])).v_inv]
 subst e
 rw [sz_of h']
 exact (Zdf l.c l.n l.t l.f n t f w).mono λ_ _ hh=>⟨_,hh.1,.tup rfl λj hj=>(match j,hj with
  | 0,_ => .v _
  | 1,_ => .v _),by first | exact hh.2 | (rw [<- hh.2];exact Below.refl _ _) | (rw [hh.2];exact Below.refl _ _)⟩
end Go.Proofs.YtmpgnibfhjdfpaaGreat
