import Derived.Test.YtmpgnibfhjdfpaaGreatGrpekigmeek
import Derived.Test.YtmpgnibfhjdfpaaGreatGrpflnmdhpb
import Derived.Test.YtmpgnibfhjdfpaaGreatGrpcjplndde
import Derived.Test.YtmpgnibfhjdfpaaGreatGrphmlokojd
import Derived.Test.YtmpgnibfhjdfpaaGreatGrpmjilcokc
import Derived.Test.YtmpgnibfhjdfpaaGreatGrpjhbplalh
import Derived.Test.YtmpgnibfhjdfpaaGreatGrpcpddaaie
import Derived.Test.YtmpgnibfhjdfpaaGreatGrpaggajjjj
import Derived.Test.YtmpgnibfhjdfpaaGreatGrpblkdaogj
import Derived.Test.YtmpgnibfhjdfpaaGreatGrplfdmpooj
import Derived.Test.YtmpgnibfhjdfpaaGreatGrpekedlffa
import Derived.Test.YtmpgnibfhjdfpaaGreatGrpfeghdkpi
set_option linter.all false
namespace Go.Proofs.YtmpgnibfhjdfpaaGreat
open Go.RowKit Go.Deep Tryz
set_option maxRecDepth 100000
set_option maxHeartbeats 6400000
variable {J:World->Prop}
abbrev XRa2_h1 (x0:Cf) (x1:Nat) (x2:Nat) (x3:Int):List (Nat × AV):=[(4,.el (Rd.cCg x0) 0),(5,.el ([iv x1,iv x2,iv x3]) 0),(6,bx 1),(7,bF),(8,bx 4),(9,bx 5)]
abbrev XRa2_h2 (x0:Cf) (x1:Nat) (x2:Nat) (x3:Int) (x4:Ru) (x5:Nat):List (Nat × AV):=[(4,.el (Rd.cCg x0) 0),(5,.el ([iv x1,iv x2,iv x3]) 0),(6,bx 1),(7,bF),(8,.el (cRu x4) 0),(9,bx 5),(10,iv x5)]
abbrev XRa2_h3 (x0:Cf) (x1:Nat) (x2:Nat) (x3:Int) (x4:Ru) (x5:Nat):List (Nat × AV):=[(4,.el (Rd.cCg x0) 0),(5,.el ([iv x1,iv x2,iv x3]) 0),(6,bx 1),(7,bF),(8,.el (cRu x4) 0),(9,bx 5),(10,iv ((x5+1):Nat))]
abbrev Zca (x0:Cf) (x1:Ru) (x2:Nat) (x3:Int) (x4:Nat):List (Nat × ABlk):=[(1,.box 36 [nz,nz,iv 0,nz,nz,iv 0]),(2,.row true 3 1 (0+x0.st.length) ((Ap.stA x0 x1 x2 x3).map iv)),(3,.row true 3 1 (0+x0.se.length) ((Ap.seA x0.cor x0 x1 x2 (x4+1)).map iv)),(5,.box 36 [.fr (Zc x0.sh),.own 2,iv x0.cor,.own 3,.fr (Zc x0.fa),iv (Ra.wv x0 x1)])]
abbrev XRa2_h5 (x0:Cf) (x1:Nat) (x2:Nat) (x3:Int) (x4:Ru) (x5:Nat):List (Nat × AV):=[(4,.el (Rd.cCg x0) 0),(5,.el ([iv x1,iv x2,iv x3]) 0),(6,bx 1),(7,bF),(8,.el (cRu x4) 0),(9,bx 5),(11,bF),(12,iv ((x5+1):Nat))]
variable {p:Fm}{n f kp:Int}{c:Cf}{r i:Nat}
theorem rapply_se (HL:FamLen p) (HC:Rd.CgOk c) (hc:En.CfV p n f c) (hv:valE p=0) (hr:r<p.rz.length) (hi:i<c.st.length) (hpt:p.rz[r].kind=2\/p.rz[r].kind=5->0<=kp/\kp<(c.st.length:Int)) (hpt2:p.rz[r].kind=2\/p.rz[r].kind=5->kp.toNat≠i) (hic:(i:Int)<c.cor):Ctr Tryz.prog J 86 [.agg (cFm p),.agg (Rd.cCg c),.agg [iv r,iv i,iv kp]] (.tup [.agg (Rd.cCg<|Ap.af c.cor c p.rz[r] i kp),bv (Ap.lgB<|Ap.af c.cor c p.rz[r] i kp)]):=by
 have R:=En.val_in hv<|List.getElem_mem hr
 have hz:=En.val_sizes hv
 have hls:=hc.ls
 have hlf:=hc.lf
 have hsl:=(HL.rz _<|List.getElem_mem hr).send
 have hlst:=HC.lst
 refine Zn func86 rfl (pN (Zg<|Zy p)<|pN (Zg<|Rd.plain_cg c)<|pN (Zg<|pN (.v _)<|pN (.v _)<|pN (.v _) pZ) pZ) (n:=134) rfl (by simp)<|λw0 => jB<|oA (ZC (X := .agg (cFm p)) (.tmp 0) rfl rfl rfl) I0<|oA (ZC (X := .agg (Rd.cCg c)) (.tmp 1) rfl rfl rfl) I0<|oA (ZC (X := .agg [iv r,iv i,iv kp]) (.tmp 2) rfl rfl rfl) I0<|oZ 1 Z36<|oS bF<|jD ?_
 refine tD<|dW<|dS (slA 18 cRu p.rz)<|dW<|dS (iv r)<|dC (xS (r*18) 14 16 U25) I0 I0<|dA (Zl (z:=18) (.tmp 17) rfl U79 rfl (by kernel_rfl) (ZJ lenRu p.rz r<|by omega) rfl) I0<|dA (Zl (z:=6) (.tmp 4) rfl U36 rfl (by kernel_rfl) rfl rfl) I0<|dR (ZdW (c := .func 46) (xs := #[.tmp 19]) [] (CopyCf_se HC 2 3<|by decide) rfl (by kernel_rfl) rfl (Xs:=[.agg (Rd.cCg c)]) rfl rfl rfl) ⟨I0,I0,T0⟩ T0 rfl<|dz 4 Z79<|dz 5 Z36<|dY<|dY<|eD ?_
 refine jC<|Zi<|kW 134 [(1,.box 36 [nz,nz,iv 0,nz,nz,iv 0]),(2,.row true 3 1 (0+c.st.length) (c.st.map iv)),(3,.row true 3 1 (0+c.se.length) (c.se.map iv)),(4,.box 79 (cRu p.rz[r])),(5,.box 36 [.fr (Zc c.sh),.own 2,iv c.cor,.own 3,.fr (Zc c.fa),iv c.val])] (XRa2_h1 c r i kp)<|Yp (Zar 8 4 0 rfl rfl rfl rfl)<|Za<|oF (iv p.rz[r].kind)<|oC (ZH rfl rfl) I0 I0<|jA ?_
 refine Ye (True) (ofL [(1,.box 36 [nz,nz,iv 0,nz,nz,iv 0]),(2,.row true 3 1 (0+c.st.length) ((Ap.st0 c p.rz[r]).map iv)),(3,.row true 3 1 (0+c.se.length) (c.se.map iv)),(5,.box 36 [.fr (Zc c.sh),.own 2,iv c.cor,.own 3,.fr (Zc c.fa),iv c.val])]) (ofT 134 [(4,.el (Rd.cCg c) 0),(5,.el ([iv r,iv i,iv kp]) 0),(6,bx 1),(7,bF),(8,.el (cRu p.rz[r]) 0),(9,bx 5)]) ?_<|λ_ => ?_
 by_cases hs1:p.rz[r].kind=3
 rw [dT hs1]
 refine jK<|oS (iv 0)<|kN 134 [(1,.box 36 [nz,nz,iv 0,nz,nz,iv 0]),(2,.row true 3 1 (0+c.st.length) (c.st.map iv)),(3,.row true 3 1 (0+c.se.length) (c.se.map iv)),(5,.box 36 [.fr (Zc c.sh),.own 2,iv c.cor,.own 3,.fr (Zc c.fa),iv c.val])] [(4,.el (Rd.cCg c) 0),(5,.el ([iv r,iv i,iv kp]) 0),(6,bx 1),(7,bF),(8,.el (cRu p.rz[r]) 0),(9,bx 5),(10,iv 0)]<|Zf<|Zh ?_
 rw [show (c.st.map iv)=((Ap.brL p.rz[r] c.st 0).map iv) by rw [Ap.brL_zero]]
 refine Zw (σ:={j:Nat // j<=c.st.length}) (λs=>(ofL [(1,.box 36 [nz,nz,iv 0,nz,nz,iv 0]),(2,.row true 3 1 (0+c.st.length) ((Ap.brL p.rz[r] c.st s.1).map iv)),(3,.row true 3 1 (0+c.se.length) (c.se.map iv)),(5,.box 36 [.fr (Zc c.sh),.own 2,iv c.cor,.own 3,.fr (Zc c.fa),iv c.val])],ofT 134 [(4,.el (Rd.cCg c) 0),(5,.el ([iv r,iv i,iv kp]) 0),(6,bx 1),(7,bF),(8,.el (cRu p.rz[r]) 0),(9,bx 5),(10,iv s.1)])) (λs=>c.st.length-s.1) ⟨0,Nat.zero_le _⟩ (Zk _ _)<|λs => ?_
 obtain ⟨j,hj0⟩:=s
 show ETri J w0 (ofL [(1,.box 36 [nz,nz,iv 0,nz,nz,iv 0]),(2,.row true 3 1 (0+c.st.length) ((Ap.brL p.rz[r] c.st j).map iv)),(3,.row true 3 1 (0+c.se.length) (c.se.map iv)),(5,.box 36 [.fr (Zc c.sh),.own 2,iv c.cor,.own 3,.fr (Zc c.fa),iv c.val])]) (ofT 134<|XRa2_h2 c r i kp p.rz[r] j) _
 refine jM ?_
 by_cases hs2:(j:Int)<(((0+c.st.length):Nat):Int)
 have hj1:j<c.st.length:=by omega
 have hst:=Ap.cst_el hc hj1
 have hre:=R.re<|by assumption
 have hrs:c.st[j].toNat<p.rz[r].resp.length:=by omega
 refine Za<|oW<|oF (.own 2)<|oB (Kc (.tmp 26) rfl U24) I0 rfl<|ol (dT hs2)<|jH<|Zj<|jC<|Zh ?_
 refine tD<|dW<|dS (.own 2)<|dS (iv j)<|dW<|dS (Zc p.rz[r].resp)<|dW<|dS (Zc c.st)<|dS (iv j)<|dC (xS (j*1) 37 38 U24) I0 I0<|dL (iv c.st[j]) (Zr c.st<|by omega)<|dC (xS (c.st[j].toNat*1) 35 40 U24) I0 I0<|dL (iv p.rz[r].resp[c.st[j].toNat]) (Zr p.rz[r].resp (by omega))<|dR (ZP (off:=j*1) (.tmp 32) (.tmp 33) rfl U24 (by kernel_rfl) (by omega) (by omega) rfl) ⟨I0,I0,T0⟩ ⟨rfl,T0⟩ T0<|dR (Z8 (X:=iv p.rz[r].resp[c.st[j].toNat]) (off:=j*1) (cs:=((Ap.brL p.rz[r] c.st j).map iv)) (ds:=((Ap.brL p.rz[r] c.st (j+1)).map iv)) (zz:=1) (.tmp 43) (.tmp 42) rfl (by kernel_rfl) (by kernel_rfl) (λ_ d hd=>by simp only [AV.cellsOf,List.mem_cons,List.not_mem_nil,or_false] at hd;subst hd;rfl) (by kernel_rfl) (by simp [Ap.seA_len,Ap.faA_len,Ap.brL_len,Ap.st0_len,Ra.stP_len];omega)<|by exact (Ra.br_row<|Ap.brd_el hrs)) ⟨I0,I0,T0⟩ ⟨rfl,T0⟩ rfl<|eD ?_
 refine Zs<|Zf<|Za<|oS (iv j)<|oV ((j+1:Nat):Int)<|oS (iv (j+1:Nat))<|jA<|Zp ⟨j+1,by omega⟩ (show c.st.length-(j+1)<c.st.length-j by omega) ?_
 show Wk _ _ (ofL [(1,.box 36 [nz,nz,iv 0,nz,nz,iv 0]),(2,.row true 3 1 (0+c.st.length) ((Ap.brL p.rz[r] c.st (j+1)).map iv)),(3,.row true 3 1 (0+c.se.length) (c.se.map iv)),(5,.box 36 [.fr (Zc c.sh),.own 2,iv c.cor,.own 3,.fr (Zc c.fa),iv c.val])]) (ofT 134<|XRa2_h3 c r i kp p.rz[r] j)
 exact Zk _ _
 refine Za<|oW<|oF (.own 2)<|oB (Kc (.tmp 26) rfl U24) I0 rfl<|ol (dF hs2)<|kN 134 [(1,.box 36 [nz,nz,iv 0,nz,nz,iv 0]),(2,.row true 3 1 (0+c.st.length) ((Ap.brL p.rz[r] c.st j).map iv)),(3,.row true 3 1 (0+c.se.length) (c.se.map iv)),(5,.box 36 [.fr (Zc c.sh),.own 2,iv c.cor,.own 3,.fr (Zc c.fa),iv c.val])] [(4,.el (Rd.cCg c) 0),(5,.el ([iv r,iv i,iv kp]) 0),(6,bx 1),(7,bF),(8,.el (cRu p.rz[r]) 0),(9,bx 5),(10,iv j),(28,bF)]<|Zf<|Zu rfl<|jO ?_
 rw [show ((Ap.st0 c p.rz[r]).map iv)=((Ap.brL p.rz[r] c.st j).map iv) by rw [Ap.brL_all _ _ (by omega)];unfold Ap.st0;rw [if_pos hs1]]
 exact tM T0
 rw [dF hs1]
 refine Zu rfl<|Zj ?_
 rw [show ((Ap.st0 c p.rz[r]).map iv)=(c.st.map iv) by unfold Ap.st0;rw [if_neg hs1]]
 exact tM T0
 refine jC<|Zi<|Ye (True) (ofL [(1,.box 36 [nz,nz,iv 0,nz,nz,iv 0]),(2,.row true 3 1 (0+c.st.length) ((Ap.st0 c p.rz[r]).map iv)),(3,.row true 3 1 (0+c.se.length) (c.se.map iv)),(5,.box 36 [.fr (Zc c.sh),.own 2,iv c.cor,.own 3,.fr (Zc c.fa),iv c.val])]) (ofT 134 [(4,.el (Rd.cCg c) 0),(5,.el ([iv r,iv i,iv kp]) 0),(6,bx 1),(7,bF),(8,.el (cRu p.rz[r]) 0),(9,bx 5),(51,bv (decide (p.rz[r].kind=2)||decide (p.rz[r].kind=5)))]) ?_<|λ_ => ?_
 by_cases hs3:p.rz[r].kind=2
 refine Za<|W2<|oe (dT hs3)<|oS bT<|V3<|oS bT<|kN 134 [(1,.box 36 [nz,nz,iv 0,nz,nz,iv 0]),(2,.row true 3 1 (0+c.st.length) ((Ap.st0 c p.rz[r]).map iv)),(3,.row true 3 1 (0+c.se.length) (c.se.map iv)),(5,.box 36 [.fr (Zc c.sh),.own 2,iv c.cor,.own 3,.fr (Zc c.fa),iv c.val])] [(4,.el (Rd.cCg c) 0),(5,.el ([iv r,iv i,iv kp]) 0),(6,bx 1),(7,bF),(8,.el (cRu p.rz[r]) 0),(9,bx 5),(51,bT)] ?_
 rw [show ((decide (p.rz[r].kind=2)||decide (p.rz[r].kind=5)))=true by simp only [dT hs3,decide_true,decide_false,Bool.and_true,Bool.true_and,Bool.false_and,Bool.and_false,Bool.true_or,Bool.false_or,Bool.or_true,Bool.or_false,Bool.not_true,Bool.not_false]]
 exact tM T0
 refine Za<|W2<|oe (dF hs3)<|oS bF<|oF (iv p.rz[r].kind)<|gC (ZH rfl rfl) I0 I0<|oS (bv<|decide<|p.rz[r].kind=5)<|kN 134 [(1,.box 36 [nz,nz,iv 0,nz,nz,iv 0]),(2,.row true 3 1 (0+c.st.length) ((Ap.st0 c p.rz[r]).map iv)),(3,.row true 3 1 (0+c.se.length) (c.se.map iv)),(5,.box 36 [.fr (Zc c.sh),.own 2,iv c.cor,.own 3,.fr (Zc c.fa),iv c.val])] [(4,.el (Rd.cCg c) 0),(5,.el ([iv r,iv i,iv kp]) 0),(6,bx 1),(7,bF),(8,.el (cRu p.rz[r]) 0),(9,bx 5),(51,bv (decide<|p.rz[r].kind=5))] ?_
 rw [show ((decide (p.rz[r].kind=2)||decide (p.rz[r].kind=5)))=(decide<|p.rz[r].kind=5) by simp only [dF hs3,decide_true,decide_false,Bool.and_true,Bool.true_and,Bool.false_and,Bool.and_false,Bool.true_or,Bool.false_or,Bool.or_true,Bool.or_false,Bool.not_true,Bool.not_false]]
 exact tM T0
 refine Zf<|Ye (True) (ofL [(1,.box 36 [nz,nz,iv 0,nz,nz,iv 0]),(2,.row true 3 1 (0+c.st.length) ((Ra.stP c p.rz[r] kp).map iv)),(3,.row true 3 1 (0+c.se.length) (c.se.map iv)),(5,.box 36 [.fr (Zc c.sh),.own 2,iv c.cor,.own 3,.fr (Zc c.fa),iv c.val])]) (ofT 134 [(4,.el (Rd.cCg c) 0),(5,.el ([iv r,iv i,iv kp]) 0),(6,bx 1),(7,bF),(8,.el (cRu p.rz[r]) 0),(9,bx 5)]) ?_<|λ_ => ?_
 by_cases hs4:(decide (p.rz[r].kind=2)||decide (p.rz[r].kind=5))=true
 have hkp:=hpt<|En.or_t hs4
 rw [hs4]
 refine ZM rfl<|Za<|oF (.own 2)<|oF (iv kp)<|oF (iv p.rz[r].pt)<|YA rfl (ZP (off:=kp.toNat*1) (.tmp 53) (.tmp 55) rfl U24 (by kernel_rfl) (by omega) (by omega) rfl) ⟨I0,I0,T0⟩ ⟨rfl,T0⟩ T0<|YA rfl (Z8 (X:=iv p.rz[r].pt) (off:=kp.toNat*1) (cs:=((Ap.st0 c p.rz[r]).map iv)) (ds:=(((Ap.st0 c p.rz[r]).set kp.toNat p.rz[r].pt).map iv)) (zz:=1) (.tmp 58) (.tmp 57) rfl (by kernel_rfl) (by kernel_rfl) (λ_ d hd=>by simp only [AV.cellsOf,List.mem_cons,List.not_mem_nil,or_false] at hd;subst hd;rfl) (by kernel_rfl) (by simp [Ap.seA_len,Ap.faA_len,Ap.brL_len,Ap.st0_len,Ra.stP_len];omega) Ra.set_row) ⟨I0,I0,T0⟩ ⟨rfl,T0⟩ rfl<|kN 134 [(1,.box 36 [nz,nz,iv 0,nz,nz,iv 0]),(2,.row true 3 1 (0+c.st.length) (((Ap.st0 c p.rz[r]).set kp.toNat p.rz[r].pt).map iv)),(3,.row true 3 1 (0+c.se.length) (c.se.map iv)),(5,.box 36 [.fr (Zc c.sh),.own 2,iv c.cor,.own 3,.fr (Zc c.fa),iv c.val])] [(4,.el (Rd.cCg c) 0),(5,.el ([iv r,iv i,iv kp]) 0),(6,bx 1),(7,bF),(8,.el (cRu p.rz[r]) 0),(9,bx 5)] ?_
 rw [show ((Ra.stP c p.rz[r] kp).map iv)=(((Ap.st0 c p.rz[r]).set kp.toNat p.rz[r].pt).map iv) by unfold Ra.stP;rw [if_pos (En.or_t hs4)]]
 exact tM T0
 have hs4f:(decide (p.rz[r].kind=2)||decide (p.rz[r].kind=5))=false:=by simpa using hs4
 rw [hs4f]
 refine Zu rfl<|Zj ?_
 rw [show ((Ra.stP c p.rz[r] kp).map iv)=((Ap.st0 c p.rz[r]).map iv) by unfold Ra.stP;rw [if_neg (En.or_f hs4f)]]
 exact tM T0
 refine jC<|Za<|oF (.own 2)<|oF (iv i)<|oF (iv p.rz[r].to)<|YA rfl (ZP (off:=i*1) (.tmp 60) (.tmp 62) rfl U24 (by kernel_rfl) (by omega) (by omega) rfl) ⟨I0,I0,T0⟩ ⟨rfl,T0⟩ T0<|YA rfl (Z8 (X:=iv p.rz[r].to) (off:=i*1) (cs:=((Ra.stP c p.rz[r] kp).map iv)) (ds:=((Ap.stA c p.rz[r] i kp).map iv)) (zz:=1) (.tmp 65) (.tmp 64) rfl (by kernel_rfl) (by kernel_rfl) (λ_ d hd=>by simp only [AV.cellsOf,List.mem_cons,List.not_mem_nil,or_false] at hd;subst hd;rfl) (by kernel_rfl) (by simp [Ap.seA_len,Ap.faA_len,Ap.brL_len,Ap.st0_len,Ra.stP_len];omega)<|Ra.fin_row hpt2) ⟨I0,I0,T0⟩ ⟨rfl,T0⟩ rfl<|jD<|jB<|oF (iv p.rz[r].wr)<|oC (Yg (r := !decide (p.rz[r].wr=(-1))) rfl (Bool.not_not _).symm) I0 I0<|jA ?_
 refine Ye (True) (ofL [(1,.box 36 [nz,nz,iv 0,nz,nz,iv 0]),(2,.row true 3 1 (0+c.st.length) ((Ap.stA c p.rz[r] i kp).map iv)),(3,.row true 3 1 (0+c.se.length) (c.se.map iv)),(5,.box 36 [.fr (Zc c.sh),.own 2,iv c.cor,.own 3,.fr (Zc c.fa),iv (Ra.wv c p.rz[r])])]) (ofT 134 [(4,.el (Rd.cCg c) 0),(5,.el ([iv r,iv i,iv kp]) 0),(6,bx 1),(7,bF),(8,.el (cRu p.rz[r]) 0),(9,bx 5)]) ?_<|λ_ => ?_
 by_cases hs5:p.rz[r].wr=(-1)
 rw [dT hs5]
 refine Zu rfl<|Zj ?_
 rw [show Ra.wv c p.rz[r]=c.val by unfold Ra.wv;have:=R.wr;rw [if_neg (by omega)]]
 exact tM T0
 rw [dF hs5]
 refine ZM rfl<|Za<|W3<|oY<|kN 134 [(1,.box 36 [nz,nz,iv 0,nz,nz,iv 0]),(2,.row true 3 1 (0+c.st.length) ((Ap.stA c p.rz[r] i kp).map iv)),(3,.row true 3 1 (0+c.se.length) (c.se.map iv)),(5,.box 36 [.fr (Zc c.sh),.own 2,iv c.cor,.own 3,.fr (Zc c.fa),iv p.rz[r].wr])] [(4,.el (Rd.cCg c) 0),(5,.el ([iv r,iv i,iv kp]) 0),(6,bx 1),(7,bF),(8,.el (cRu p.rz[r]) 0),(9,bx 5)] ?_
 rw [show Ra.wv c p.rz[r]=p.rz[r].wr by unfold Ra.wv;have:=R.wr;rw [if_pos (by omega)]]
 exact tM T0
 refine jC<|Za<|oS bT<|jD<|jB<|oS (iv 0)<|kN 134 [(1,.box 36 [nz,nz,iv 0,nz,nz,iv 0]),(2,.row true 3 1 (0+c.st.length) ((Ap.stA c p.rz[r] i kp).map iv)),(3,.row true 3 1 (0+c.se.length) (c.se.map iv)),(5,.box 36 [.fr (Zc c.sh),.own 2,iv c.cor,.own 3,.fr (Zc c.fa),iv (Ra.wv c p.rz[r])])] [(4,.el (Rd.cCg c) 0),(5,.el ([iv r,iv i,iv kp]) 0),(6,bx 1),(7,bF),(8,.el (cRu p.rz[r]) 0),(9,bx 5),(11,bT),(12,iv 0)]<|Zf<|Zh ?_
 rw [show (c.se.map iv)=((Ap.seA c.cor c p.rz[r] i 0).map iv) by rw [Ra.se_zero]]
 refine Zw (σ:={s:Nat × Bool // s.1<=p.rz[r].send.length/\s.2=Rd.belB (Ap.seA c.cor c p.rz[r] i s.1) 1048577}) (λs=>(ofL [(1,.box 36 [nz,nz,iv 0,nz,nz,iv 0]),(2,.row true 3 1 (0+c.st.length) ((Ap.stA c p.rz[r] i kp).map iv)),(3,.row true 3 1 (0+c.se.length) ((Ap.seA c.cor c p.rz[r] i s.1.1).map iv)),(5,.box 36 [.fr (Zc c.sh),.own 2,iv c.cor,.own 3,.fr (Zc c.fa),iv (Ra.wv c p.rz[r])])],ofT 134 [(4,.el (Rd.cCg c) 0),(5,.el ([iv r,iv i,iv kp]) 0),(6,bx 1),(7,bF),(8,.el (cRu p.rz[r]) 0),(9,bx 5),(11,bv s.1.2),(12,iv s.1.1)])) (λs=>p.rz[r].send.length-s.1.1) ⟨(0,true),Nat.zero_le _,Ra.se_start hc⟩ (Zk _ _)<|λs => ?_
 obtain ⟨⟨k,b⟩,hk0,hb⟩:=s
 show ETri J w0 (ofL [(1,.box 36 [nz,nz,iv 0,nz,nz,iv 0]),(2,.row true 3 1 (0+c.st.length) ((Ap.stA c p.rz[r] i kp).map iv)),(3,.row true 3 1 (0+c.se.length) ((Ap.seA c.cor c p.rz[r] i k).map iv)),(5,.box 36 [.fr (Zc c.sh),.own 2,iv c.cor,.own 3,.fr (Zc c.fa),iv (Ra.wv c p.rz[r])])]) (ofT 134 [(4,.el (Rd.cCg c) 0),(5,.el ([iv r,iv i,iv kp]) 0),(6,bx 1),(7,bF),(8,.el (cRu p.rz[r]) 0),(9,bx 5),(11,bv b),(12,iv k)]) _
 dsimp only at hk0 hb
 refine jM ?_
 by_cases hs6:(k:Int)<((p.rz[r].send.length:Nat):Int)
 have hk1:k<p.rz[r].send.length:=by omega
 have hsm:=R.se _<|List.getElem_mem hk1
 have hbv:=Ap.getD_in (Ap.seA_in (cor:=c.cor) (r:=p.rz[r]) (i:=i) (k:=k) hc.se) (by omega) p.rz[r].send[k].toNat
 refine Za<|W4<|ol (dT hs6)<|jH<|Zj<|jC<|Zh<|jB<|oF (iv i)<|oF (iv c.cor)<|oC (Zcq rfl<|dT hic) I0 I0<|jH<|Zi ?_
 refine tD<|dW<|dS (.own 3)<|dW<|dS (Zc p.rz[r].send)<|dS (iv k)<|dC (xS (k*1) 87 88 U24) I0 I0<|dL (iv p.rz[r].send[k]) (Zr p.rz[r].send (by omega))<|dR (ZP (off:=p.rz[r].send[k].toNat*1) (.tmp 85) (.tmp 90) rfl U24 (by kernel_rfl) (by omega) (by omega) rfl) ⟨I0,I0,T0⟩ ⟨rfl,T0⟩ T0<|dB (Kl (Y := .row true 3 1 (0+c.se.length) ((Ap.seA c.cor c p.rz[r] i k).map iv)) (.tmp 91) rfl U3 rfl<|Ct.row_at<|by rw [Ap.seA_len];omega) I0 rfl<|dC (WH (c:=((Ap.seA c.cor c p.rz[r] i k).getD p.rz[r].send[k].toNat 0)+1) rfl<|w64 (by omega) (by omega)<|by omega) I0 I0<|dR (ZP (off:=p.rz[r].send[k].toNat*1) (.tmp 85) (.tmp 90) rfl U24 (by kernel_rfl) (by omega) (by omega) rfl) ⟨I0,I0,T0⟩ ⟨rfl,T0⟩ T0<|dR (Z8 (X:=iv (((Ap.seA c.cor c p.rz[r] i k).getD p.rz[r].send[k].toNat 0)+1)) (off:=p.rz[r].send[k].toNat*1) (cs:=((Ap.seA c.cor c p.rz[r] i k).map iv)) (ds:=((Ap.seA c.cor c p.rz[r] i (k+1)).map iv)) (zz:=1) (.tmp 94) (.tmp 93) rfl (by kernel_rfl) (by kernel_rfl) (λ_ d hd=>by simp only [AV.cellsOf,List.mem_cons,List.not_mem_nil,or_false] at hd;subst hd;rfl) (by kernel_rfl) (by simp [Ap.seA_len,Ap.faA_len,Ap.brL_len,Ap.st0_len,Ra.stP_len];omega)<|Ra.se_row hic hk1) ⟨I0,I0,T0⟩ ⟨rfl,T0⟩ rfl<|eD ?_
 refine kW 134 (Zca c p.rz[r] i kp k) [(4,.el (Rd.cCg c) 0),(5,.el ([iv r,iv i,iv kp]) 0),(6,bx 1),(7,bF),(8,.el (cRu p.rz[r]) 0),(9,bx 5),(11,bv b),(12,iv k),(76,bT),(83,bT)]<|Zf ?_
 by_cases hs7:b=true
 simp only [hs7]
 refine kW 134 (Zca c p.rz[r] i kp k) [(4,.el (Rd.cCg c) 0),(5,.el ([iv r,iv i,iv kp]) 0),(6,bx 1),(7,bF),(8,.el (cRu p.rz[r]) 0),(9,bx 5),(11,bT),(12,iv k),(76,bT),(83,bT)] ?_
 refine tD<|dW<|dS bT<|dW<|dS (.own 3)<|dW<|dS (Zc p.rz[r].send)<|dS (iv k)<|dC (xS (k*1) 100 101 U24) I0 I0<|dL (iv p.rz[r].send[k]) (Zr p.rz[r].send (by omega))<|dR (ZP (off:=p.rz[r].send[k].toNat*1) (.tmp 98) (.tmp 103) rfl U24 (by kernel_rfl) (by omega) (by omega) rfl) ⟨I0,I0,T0⟩ ⟨rfl,T0⟩ T0<|dB (Kl (Y := .row true 3 1 (0+c.se.length) ((Ap.seA c.cor c p.rz[r] i (k+1)).map iv)) (.tmp 104) rfl U3 rfl<|Ct.row_at<|by rw [Ap.seA_len];omega) I0 rfl<|dC (sp_leq rfl rfl) I0 I0<|dW<|dS (bv<|decide<|((Ap.seA c.cor c p.rz[r] i (k+1)).getD p.rz[r].send[k].toNat 0)<=1048576)<|eD ?_
 refine Zs<|Zf<|Za<|oS (iv k)<|oV ((k+1:Nat):Int)<|oS (iv (k+1:Nat))<|jA ?_
 refine Zp ⟨(k+1,(decide<|((Ap.seA c.cor c p.rz[r] i (k+1)).getD p.rz[r].send[k].toNat 0)<=1048576)),by dsimp only;omega,(Ra.se_yes hc hic hk1 (by omega) hb hs7)⟩ (show p.rz[r].send.length-(k+1)<p.rz[r].send.length-k by omega) ?_
 show Wk _ _ (ofL<|Zca c p.rz[r] i kp k) (ofT 134 [(4,.el (Rd.cCg c) 0),(5,.el ([iv r,iv i,iv kp]) 0),(6,bx 1),(7,bF),(8,.el (cRu p.rz[r]) 0),(9,bx 5),(11,bv (decide<|((Ap.seA c.cor c p.rz[r] i (k+1)).getD p.rz[r].send[k].toNat 0)<=1048576)),(12,iv ((k+1):Nat))])
 exact Zk _ _
 have hs7f:b=false:=by simpa using hs7
 simp only [hs7f]
 refine kW 134 (Zca c p.rz[r] i kp k) [(4,.el (Rd.cCg c) 0),(5,.el ([iv r,iv i,iv kp]) 0),(6,bx 1),(7,bF),(8,.el (cRu p.rz[r]) 0),(9,bx 5),(11,bF),(12,iv k),(76,bT),(83,bT)]<|tD<|dW<|dS bF<|dK<|dK<|dK<|dK<|dK<|dK<|dK<|dK<|dK<|dK<|dW<|dS bF<|eD<|Zs<|Zf<|Za<|oS (iv k)<|oV ((k+1:Nat):Int)<|oS (iv (k+1:Nat))<|jA ?_
 refine Zp ⟨(k+1,false),by dsimp only;omega,(Ra.se_nope hc hic hk1 hb hs7f)⟩ (show p.rz[r].send.length-(k+1)<p.rz[r].send.length-k by omega) ?_
 show Wk _ _ (ofL<|Zca c p.rz[r] i kp k) (ofT 134<|XRa2_h5 c r i kp p.rz[r] k)
 exact Zk _ _
 refine Za<|W4<|ol (dF hs6)<|jI<|jO<|jC<|Za<|W2<|oY<|oS (bv b)<|kN 134 [(1,.box 36 [.fr (Zc c.sh),.own 2,iv c.cor,.own 3,.fr (Zc c.fa),iv (Ra.wv c p.rz[r])]),(2,.row true 3 1 (0+c.st.length) ((Ap.stA c p.rz[r] i kp).map iv)),(3,.row true 3 1 (0+c.se.length) ((Ap.seA c.cor c p.rz[r] i k).map iv))] [(6,bx 1),(7,bv b)]<|Zf<|ZQ<|ZY results86 (.cellS rfl rfl U36 rfl (z:=6) (by kernel_rfl) rfl (by decide)) (.tmp rfl) ?_
 obtain rfl:k=p.rz[r].send.length:=by omega
 rw [hb,<- Ra.lg_se (k':=kp) hc hic]
 exact congr (congrArg (λa b=>AV.tup [.agg a,b])<|Ra.res_se hic) rfl
abbrev Zb9 (x0:Cf) (x1:Ru) (x2:Nat) (x3:Int) (x4:Nat):List (Nat × ABlk):=[(1,.box 36 [nz,nz,iv 0,nz,nz,iv 0]),(2,.row true 3 1 (0+x0.st.length) ((Ap.stA x0 x1 x2 x3).map iv)),(3,.row true 3 1 (0+x0.fa.length) ((Ap.faA x0.cor x0 x1 x2 (x4+1)).map iv)),(5,.box 36 [.fr (Zc x0.sh),.own 2,iv x0.cor,.fr (Zc x0.se),.own 3,iv (Ra.wv x0 x1)])]
theorem rapply_fa (HL:FamLen p) (HC:Rd.CgOk c) (hc:En.CfV p n f c) (hv:valE p=0) (hr:r<p.rz.length) (hi:i<c.st.length) (hpt:p.rz[r].kind=2\/p.rz[r].kind=5->0<=kp/\kp<(c.st.length:Int)) (hpt2:p.rz[r].kind=2\/p.rz[r].kind=5->kp.toNat≠i) (hic:¬ (i:Int)<c.cor):Ctr Tryz.prog J 86 [.agg (cFm p),.agg (Rd.cCg c),.agg [iv r,iv i,iv kp]] (.tup [.agg (Rd.cCg<|Ap.af c.cor c p.rz[r] i kp),bv (Ap.lgB<|Ap.af c.cor c p.rz[r] i kp)]):=by
 have R:=En.val_in hv<|List.getElem_mem hr
 have hz:=En.val_sizes hv
 have hls:=hc.ls
 have hlf:=hc.lf
 have hsl:=(HL.rz _<|List.getElem_mem hr).send
 have hlst:=HC.lst
 refine Zn func86 rfl (pN (Zg<|Zy p)<|pN (Zg<|Rd.plain_cg c)<|pN (Zg<|pN (.v _)<|pN (.v _)<|pN (.v _) pZ) pZ) (n:=134) rfl (by simp)<|λw0 => jB<|oA (ZC (X := .agg (cFm p)) (.tmp 0) rfl rfl rfl) I0<|oA (ZC (X := .agg (Rd.cCg c)) (.tmp 1) rfl rfl rfl) I0<|oA (ZC (X := .agg [iv r,iv i,iv kp]) (.tmp 2) rfl rfl rfl) I0<|oZ 1 Z36<|oS bF<|jD ?_
 refine tD<|dW<|dS (slA 18 cRu p.rz)<|dW<|dS (iv r)<|dC (xS (r*18) 14 16 U25) I0 I0<|dA (Zl (z:=18) (.tmp 17) rfl U79 rfl (by kernel_rfl) (ZJ lenRu p.rz r<|by omega) rfl) I0<|dA (Zl (z:=6) (.tmp 4) rfl U36 rfl (by kernel_rfl) rfl rfl) I0<|dR (ZdW (c := .func 46) (xs := #[.tmp 19]) [] (CopyCf_fa HC 2 3<|by decide) rfl (by kernel_rfl) rfl (Xs:=[.agg (Rd.cCg c)]) rfl rfl rfl) ⟨I0,I0,T0⟩ T0 rfl<|dz 4 Z79<|dz 5 Z36<|dY<|dY<|eD ?_
 refine jC<|Zi<|kW 134 [(1,.box 36 [nz,nz,iv 0,nz,nz,iv 0]),(2,.row true 3 1 (0+c.st.length) (c.st.map iv)),(3,.row true 3 1 (0+c.fa.length) (c.fa.map iv)),(4,.box 79 (cRu p.rz[r])),(5,.box 36 [.fr (Zc c.sh),.own 2,iv c.cor,.fr (Zc c.se),.own 3,iv c.val])] (XRa2_h1 c r i kp)<|Yp (Zar 8 4 0 rfl rfl rfl rfl)<|Za<|oF (iv p.rz[r].kind)<|oC (ZH rfl rfl) I0 I0<|jA ?_
 refine Ye (True) (ofL [(1,.box 36 [nz,nz,iv 0,nz,nz,iv 0]),(2,.row true 3 1 (0+c.st.length) ((Ap.st0 c p.rz[r]).map iv)),(3,.row true 3 1 (0+c.fa.length) (c.fa.map iv)),(5,.box 36 [.fr (Zc c.sh),.own 2,iv c.cor,.fr (Zc c.se),.own 3,iv c.val])]) (ofT 134 [(4,.el (Rd.cCg c) 0),(5,.el ([iv r,iv i,iv kp]) 0),(6,bx 1),(7,bF),(8,.el (cRu p.rz[r]) 0),(9,bx 5)]) ?_<|λ_ => ?_
 by_cases hs1:p.rz[r].kind=3
 rw [dT hs1]
 refine jK<|oS (iv 0)<|kN 134 [(1,.box 36 [nz,nz,iv 0,nz,nz,iv 0]),(2,.row true 3 1 (0+c.st.length) (c.st.map iv)),(3,.row true 3 1 (0+c.fa.length) (c.fa.map iv)),(5,.box 36 [.fr (Zc c.sh),.own 2,iv c.cor,.fr (Zc c.se),.own 3,iv c.val])] [(4,.el (Rd.cCg c) 0),(5,.el ([iv r,iv i,iv kp]) 0),(6,bx 1),(7,bF),(8,.el (cRu p.rz[r]) 0),(9,bx 5),(10,iv 0)]<|Zf<|Zh ?_
 rw [show (c.st.map iv)=((Ap.brL p.rz[r] c.st 0).map iv) by rw [Ap.brL_zero]]
 refine Zw (σ:={j:Nat // j<=c.st.length}) (λs=>(ofL [(1,.box 36 [nz,nz,iv 0,nz,nz,iv 0]),(2,.row true 3 1 (0+c.st.length) ((Ap.brL p.rz[r] c.st s.1).map iv)),(3,.row true 3 1 (0+c.fa.length) (c.fa.map iv)),(5,.box 36 [.fr (Zc c.sh),.own 2,iv c.cor,.fr (Zc c.se),.own 3,iv c.val])],ofT 134 [(4,.el (Rd.cCg c) 0),(5,.el ([iv r,iv i,iv kp]) 0),(6,bx 1),(7,bF),(8,.el (cRu p.rz[r]) 0),(9,bx 5),(10,iv s.1)])) (λs=>c.st.length-s.1) ⟨0,Nat.zero_le _⟩ (Zk _ _)<|λs => ?_
 obtain ⟨j,hj0⟩:=s
 show ETri J w0 (ofL [(1,.box 36 [nz,nz,iv 0,nz,nz,iv 0]),(2,.row true 3 1 (0+c.st.length) ((Ap.brL p.rz[r] c.st j).map iv)),(3,.row true 3 1 (0+c.fa.length) (c.fa.map iv)),(5,.box 36 [.fr (Zc c.sh),.own 2,iv c.cor,.fr (Zc c.se),.own 3,iv c.val])]) (ofT 134<|XRa2_h2 c r i kp p.rz[r] j) _
 refine jM ?_
 by_cases hs2:(j:Int)<(((0+c.st.length):Nat):Int)
 have hj1:j<c.st.length:=by omega
 have hst:=Ap.cst_el hc hj1
 have hre:=R.re<|by assumption
 have hrs:c.st[j].toNat<p.rz[r].resp.length:=by omega
 refine Za<|oW<|oF (.own 2)<|oB (Kc (.tmp 26) rfl U24) I0 rfl<|ol (dT hs2)<|jH<|Zj<|jC<|Zh ?_
 refine tD<|dW<|dS (.own 2)<|dS (iv j)<|dW<|dS (Zc p.rz[r].resp)<|dW<|dS (Zc c.st)<|dS (iv j)<|dC (xS (j*1) 37 38 U24) I0 I0<|dL (iv c.st[j]) (Zr c.st<|by omega)<|dC (xS (c.st[j].toNat*1) 35 40 U24) I0 I0<|dL (iv p.rz[r].resp[c.st[j].toNat]) (Zr p.rz[r].resp (by omega))<|dR (ZP (off:=j*1) (.tmp 32) (.tmp 33) rfl U24 (by kernel_rfl) (by omega) (by omega) rfl) ⟨I0,I0,T0⟩ ⟨rfl,T0⟩ T0<|dR (Z8 (X:=iv p.rz[r].resp[c.st[j].toNat]) (off:=j*1) (cs:=((Ap.brL p.rz[r] c.st j).map iv)) (ds:=((Ap.brL p.rz[r] c.st (j+1)).map iv)) (zz:=1) (.tmp 43) (.tmp 42) rfl (by kernel_rfl) (by kernel_rfl) (λ_ d hd=>by simp only [AV.cellsOf,List.mem_cons,List.not_mem_nil,or_false] at hd;subst hd;rfl) (by kernel_rfl) (by simp [Ap.seA_len,Ap.faA_len,Ap.brL_len,Ap.st0_len,Ra.stP_len];omega)<|by exact (Ra.br_row<|Ap.brd_el hrs)) ⟨I0,I0,T0⟩ ⟨rfl,T0⟩ rfl<|eD ?_
 refine Zs<|Zf<|Za<|oS (iv j)<|oV ((j+1:Nat):Int)<|oS (iv (j+1:Nat))<|jA<|Zp ⟨j+1,by omega⟩ (show c.st.length-(j+1)<c.st.length-j by omega) ?_
 show Wk _ _ (ofL [(1,.box 36 [nz,nz,iv 0,nz,nz,iv 0]),(2,.row true 3 1 (0+c.st.length) ((Ap.brL p.rz[r] c.st (j+1)).map iv)),(3,.row true 3 1 (0+c.fa.length) (c.fa.map iv)),(5,.box 36 [.fr (Zc c.sh),.own 2,iv c.cor,.fr (Zc c.se),.own 3,iv c.val])]) (ofT 134<|XRa2_h3 c r i kp p.rz[r] j)
 exact Zk _ _
 refine Za<|oW<|oF (.own 2)<|oB (Kc (.tmp 26) rfl U24) I0 rfl<|ol (dF hs2)<|kN 134 [(1,.box 36 [nz,nz,iv 0,nz,nz,iv 0]),(2,.row true 3 1 (0+c.st.length) ((Ap.brL p.rz[r] c.st j).map iv)),(3,.row true 3 1 (0+c.fa.length) (c.fa.map iv)),(5,.box 36 [.fr (Zc c.sh),.own 2,iv c.cor,.fr (Zc c.se),.own 3,iv c.val])] [(4,.el (Rd.cCg c) 0),(5,.el ([iv r,iv i,iv kp]) 0),(6,bx 1),(7,bF),(8,.el (cRu p.rz[r]) 0),(9,bx 5),(10,iv j),(28,bF)]<|Zf<|Zu rfl<|jO ?_
 rw [show ((Ap.st0 c p.rz[r]).map iv)=((Ap.brL p.rz[r] c.st j).map iv) by rw [Ap.brL_all _ _ (by omega)];unfold Ap.st0;rw [if_pos hs1]]
 exact tM T0
 rw [dF hs1]
 refine Zu rfl<|Zj ?_
 rw [show ((Ap.st0 c p.rz[r]).map iv)=(c.st.map iv) by unfold Ap.st0;rw [if_neg hs1]]
 exact tM T0
 refine jC<|Zi<|Ye (True) (ofL [(1,.box 36 [nz,nz,iv 0,nz,nz,iv 0]),(2,.row true 3 1 (0+c.st.length) ((Ap.st0 c p.rz[r]).map iv)),(3,.row true 3 1 (0+c.fa.length) (c.fa.map iv)),(5,.box 36 [.fr (Zc c.sh),.own 2,iv c.cor,.fr (Zc c.se),.own 3,iv c.val])]) (ofT 134 [(4,.el (Rd.cCg c) 0),(5,.el ([iv r,iv i,iv kp]) 0),(6,bx 1),(7,bF),(8,.el (cRu p.rz[r]) 0),(9,bx 5),(51,bv (decide (p.rz[r].kind=2)||decide (p.rz[r].kind=5)))]) ?_<|λ_ => ?_
 by_cases hs3:p.rz[r].kind=2
 refine Za<|W2<|oe (dT hs3)<|oS bT<|V3<|oS bT<|kN 134 [(1,.box 36 [nz,nz,iv 0,nz,nz,iv 0]),(2,.row true 3 1 (0+c.st.length) ((Ap.st0 c p.rz[r]).map iv)),(3,.row true 3 1 (0+c.fa.length) (c.fa.map iv)),(5,.box 36 [.fr (Zc c.sh),.own 2,iv c.cor,.fr (Zc c.se),.own 3,iv c.val])] [(4,.el (Rd.cCg c) 0),(5,.el ([iv r,iv i,iv kp]) 0),(6,bx 1),(7,bF),(8,.el (cRu p.rz[r]) 0),(9,bx 5),(51,bT)] ?_
 rw [show ((decide (p.rz[r].kind=2)||decide (p.rz[r].kind=5)))=true by simp only [dT hs3,decide_true,decide_false,Bool.and_true,Bool.true_and,Bool.false_and,Bool.and_false,Bool.true_or,Bool.false_or,Bool.or_true,Bool.or_false,Bool.not_true,Bool.not_false]]
 exact tM T0
 refine Za<|W2<|oe (dF hs3)<|oS bF<|oF (iv p.rz[r].kind)<|gC (ZH rfl rfl) I0 I0<|oS (bv<|decide<|p.rz[r].kind=5)<|kN 134 [(1,.box 36 [nz,nz,iv 0,nz,nz,iv 0]),(2,.row true 3 1 (0+c.st.length) ((Ap.st0 c p.rz[r]).map iv)),(3,.row true 3 1 (0+c.fa.length) (c.fa.map iv)),(5,.box 36 [.fr (Zc c.sh),.own 2,iv c.cor,.fr (Zc c.se),.own 3,iv c.val])] [(4,.el (Rd.cCg c) 0),(5,.el ([iv r,iv i,iv kp]) 0),(6,bx 1),(7,bF),(8,.el (cRu p.rz[r]) 0),(9,bx 5),(51,bv (decide<|p.rz[r].kind=5))] ?_
 rw [show ((decide (p.rz[r].kind=2)||decide (p.rz[r].kind=5)))=(decide<|p.rz[r].kind=5) by simp only [dF hs3,decide_true,decide_false,Bool.and_true,Bool.true_and,Bool.false_and,Bool.and_false,Bool.true_or,Bool.false_or,Bool.or_true,Bool.or_false,Bool.not_true,Bool.not_false]]
 exact tM T0
 refine Zf<|Ye (True) (ofL [(1,.box 36 [nz,nz,iv 0,nz,nz,iv 0]),(2,.row true 3 1 (0+c.st.length) ((Ra.stP c p.rz[r] kp).map iv)),(3,.row true 3 1 (0+c.fa.length) (c.fa.map iv)),(5,.box 36 [.fr (Zc c.sh),.own 2,iv c.cor,.fr (Zc c.se),.own 3,iv c.val])]) (ofT 134 [(4,.el (Rd.cCg c) 0),(5,.el ([iv r,iv i,iv kp]) 0),(6,bx 1),(7,bF),(8,.el (cRu p.rz[r]) 0),(9,bx 5)]) ?_<|λ_ => ?_
 by_cases hs4:(decide (p.rz[r].kind=2)||decide (p.rz[r].kind=5))=true
 have hkp:=hpt<|En.or_t hs4
 rw [hs4]
 refine ZM rfl<|Za<|oF (.own 2)<|oF (iv kp)<|oF (iv p.rz[r].pt)<|YA rfl (ZP (off:=kp.toNat*1) (.tmp 53) (.tmp 55) rfl U24 (by kernel_rfl) (by omega) (by omega) rfl) ⟨I0,I0,T0⟩ ⟨rfl,T0⟩ T0<|YA rfl (Z8 (X:=iv p.rz[r].pt) (off:=kp.toNat*1) (cs:=((Ap.st0 c p.rz[r]).map iv)) (ds:=(((Ap.st0 c p.rz[r]).set kp.toNat p.rz[r].pt).map iv)) (zz:=1) (.tmp 58) (.tmp 57) rfl (by kernel_rfl) (by kernel_rfl) (λ_ d hd=>by simp only [AV.cellsOf,List.mem_cons,List.not_mem_nil,or_false] at hd;subst hd;rfl) (by kernel_rfl) (by simp [Ap.seA_len,Ap.faA_len,Ap.brL_len,Ap.st0_len,Ra.stP_len];omega) Ra.set_row) ⟨I0,I0,T0⟩ ⟨rfl,T0⟩ rfl<|kN 134 [(1,.box 36 [nz,nz,iv 0,nz,nz,iv 0]),(2,.row true 3 1 (0+c.st.length) (((Ap.st0 c p.rz[r]).set kp.toNat p.rz[r].pt).map iv)),(3,.row true 3 1 (0+c.fa.length) (c.fa.map iv)),(5,.box 36 [.fr (Zc c.sh),.own 2,iv c.cor,.fr (Zc c.se),.own 3,iv c.val])] [(4,.el (Rd.cCg c) 0),(5,.el ([iv r,iv i,iv kp]) 0),(6,bx 1),(7,bF),(8,.el (cRu p.rz[r]) 0),(9,bx 5)] ?_
 rw [show ((Ra.stP c p.rz[r] kp).map iv)=(((Ap.st0 c p.rz[r]).set kp.toNat p.rz[r].pt).map iv) by unfold Ra.stP;rw [if_pos (En.or_t hs4)]]
 exact tM T0
 have hs4f:(decide (p.rz[r].kind=2)||decide (p.rz[r].kind=5))=false:=by simpa using hs4
 rw [hs4f]
 refine Zu rfl<|Zj ?_
 rw [show ((Ra.stP c p.rz[r] kp).map iv)=((Ap.st0 c p.rz[r]).map iv) by unfold Ra.stP;rw [if_neg (En.or_f hs4f)]]
 exact tM T0
 refine jC<|Za<|oF (.own 2)<|oF (iv i)<|oF (iv p.rz[r].to)<|YA rfl (ZP (off:=i*1) (.tmp 60) (.tmp 62) rfl U24 (by kernel_rfl) (by omega) (by omega) rfl) ⟨I0,I0,T0⟩ ⟨rfl,T0⟩ T0<|YA rfl (Z8 (X:=iv p.rz[r].to) (off:=i*1) (cs:=((Ra.stP c p.rz[r] kp).map iv)) (ds:=((Ap.stA c p.rz[r] i kp).map iv)) (zz:=1) (.tmp 65) (.tmp 64) rfl (by kernel_rfl) (by kernel_rfl) (λ_ d hd=>by simp only [AV.cellsOf,List.mem_cons,List.not_mem_nil,or_false] at hd;subst hd;rfl) (by kernel_rfl) (by simp [Ap.seA_len,Ap.faA_len,Ap.brL_len,Ap.st0_len,Ra.stP_len];omega)<|Ra.fin_row hpt2) ⟨I0,I0,T0⟩ ⟨rfl,T0⟩ rfl<|jD<|jB<|oF (iv p.rz[r].wr)<|oC (Yg (r := !decide (p.rz[r].wr=(-1))) rfl (Bool.not_not _).symm) I0 I0<|jA ?_
 refine Ye (True) (ofL [(1,.box 36 [nz,nz,iv 0,nz,nz,iv 0]),(2,.row true 3 1 (0+c.st.length) ((Ap.stA c p.rz[r] i kp).map iv)),(3,.row true 3 1 (0+c.fa.length) (c.fa.map iv)),(5,.box 36 [.fr (Zc c.sh),.own 2,iv c.cor,.fr (Zc c.se),.own 3,iv (Ra.wv c p.rz[r])])]) (ofT 134 [(4,.el (Rd.cCg c) 0),(5,.el ([iv r,iv i,iv kp]) 0),(6,bx 1),(7,bF),(8,.el (cRu p.rz[r]) 0),(9,bx 5)]) ?_<|λ_ => ?_
 by_cases hs5:p.rz[r].wr=(-1)
 rw [dT hs5]
 refine Zu rfl<|Zj ?_
 rw [show Ra.wv c p.rz[r]=c.val by unfold Ra.wv;have:=R.wr;rw [if_neg (by omega)]]
 exact tM T0
 rw [dF hs5]
 refine ZM rfl<|Za<|W3<|oY<|kN 134 [(1,.box 36 [nz,nz,iv 0,nz,nz,iv 0]),(2,.row true 3 1 (0+c.st.length) ((Ap.stA c p.rz[r] i kp).map iv)),(3,.row true 3 1 (0+c.fa.length) (c.fa.map iv)),(5,.box 36 [.fr (Zc c.sh),.own 2,iv c.cor,.fr (Zc c.se),.own 3,iv p.rz[r].wr])] [(4,.el (Rd.cCg c) 0),(5,.el ([iv r,iv i,iv kp]) 0),(6,bx 1),(7,bF),(8,.el (cRu p.rz[r]) 0),(9,bx 5)] ?_
 rw [show Ra.wv c p.rz[r]=p.rz[r].wr by unfold Ra.wv;have:=R.wr;rw [if_pos (by omega)]]
 exact tM T0
 refine jC<|Za<|oS bT<|jD<|jB<|oS (iv 0)<|kN 134 [(1,.box 36 [nz,nz,iv 0,nz,nz,iv 0]),(2,.row true 3 1 (0+c.st.length) ((Ap.stA c p.rz[r] i kp).map iv)),(3,.row true 3 1 (0+c.fa.length) (c.fa.map iv)),(5,.box 36 [.fr (Zc c.sh),.own 2,iv c.cor,.fr (Zc c.se),.own 3,iv (Ra.wv c p.rz[r])])] [(4,.el (Rd.cCg c) 0),(5,.el ([iv r,iv i,iv kp]) 0),(6,bx 1),(7,bF),(8,.el (cRu p.rz[r]) 0),(9,bx 5),(11,bT),(12,iv 0)]<|Zf<|Zh ?_
 rw [show (c.fa.map iv)=((Ap.faA c.cor c p.rz[r] i 0).map iv) by rw [Ra.fa_zero]]
 refine Zw (σ:={s:Nat × Bool // s.1<=p.rz[r].send.length/\s.2=Rd.belB (Ap.faA c.cor c p.rz[r] i s.1) 1048577}) (λs=>(ofL [(1,.box 36 [nz,nz,iv 0,nz,nz,iv 0]),(2,.row true 3 1 (0+c.st.length) ((Ap.stA c p.rz[r] i kp).map iv)),(3,.row true 3 1 (0+c.fa.length) ((Ap.faA c.cor c p.rz[r] i s.1.1).map iv)),(5,.box 36 [.fr (Zc c.sh),.own 2,iv c.cor,.fr (Zc c.se),.own 3,iv (Ra.wv c p.rz[r])])],ofT 134 [(4,.el (Rd.cCg c) 0),(5,.el ([iv r,iv i,iv kp]) 0),(6,bx 1),(7,bF),(8,.el (cRu p.rz[r]) 0),(9,bx 5),(11,bv s.1.2),(12,iv s.1.1)])) (λs=>p.rz[r].send.length-s.1.1) ⟨(0,true),Nat.zero_le _,Ra.fa_start hc⟩ (Zk _ _)<|λs => ?_
 obtain ⟨⟨k,b⟩,hk0,hb⟩:=s
 show ETri J w0 (ofL [(1,.box 36 [nz,nz,iv 0,nz,nz,iv 0]),(2,.row true 3 1 (0+c.st.length) ((Ap.stA c p.rz[r] i kp).map iv)),(3,.row true 3 1 (0+c.fa.length) ((Ap.faA c.cor c p.rz[r] i k).map iv)),(5,.box 36 [.fr (Zc c.sh),.own 2,iv c.cor,.fr (Zc c.se),.own 3,iv (Ra.wv c p.rz[r])])]) (ofT 134 [(4,.el (Rd.cCg c) 0),(5,.el ([iv r,iv i,iv kp]) 0),(6,bx 1),(7,bF),(8,.el (cRu p.rz[r]) 0),(9,bx 5),(11,bv b),(12,iv k)]) _
 dsimp only at hk0 hb
 refine jM ?_
 by_cases hs6:(k:Int)<((p.rz[r].send.length:Nat):Int)
 have hk1:k<p.rz[r].send.length:=by omega
 have hsm:=R.se _<|List.getElem_mem hk1
 have hbv:=Ap.getD_in (Ap.faA_in (cor:=c.cor) (r:=p.rz[r]) (i:=i) (k:=k) hc.fa) (by omega) p.rz[r].send[k].toNat
 refine Za<|W4<|ol (dT hs6)<|jH<|Zj<|jC<|Zh<|jB<|oF (iv i)<|oF (iv c.cor)<|oC (Zcq rfl<|dF hic) I0 I0<|jI<|Zi ?_
 refine tD<|dW<|dS (.own 3)<|dW<|dS (Zc p.rz[r].send)<|dS (iv k)<|dC (xS (k*1) 111 112 U24) I0 I0<|dL (iv p.rz[r].send[k]) (Zr p.rz[r].send (by omega))<|dR (ZP (off:=p.rz[r].send[k].toNat*1) (.tmp 109) (.tmp 114) rfl U24 (by kernel_rfl) (by omega) (by omega) rfl) ⟨I0,I0,T0⟩ ⟨rfl,T0⟩ T0<|dB (Kl (Y := .row true 3 1 (0+c.fa.length) ((Ap.faA c.cor c p.rz[r] i k).map iv)) (.tmp 115) rfl U3 rfl<|Ct.row_at<|by rw [Ap.faA_len];omega) I0 rfl<|dC (WH (c:=((Ap.faA c.cor c p.rz[r] i k).getD p.rz[r].send[k].toNat 0)+1) rfl<|w64 (by omega) (by omega)<|by omega) I0 I0<|dR (ZP (off:=p.rz[r].send[k].toNat*1) (.tmp 109) (.tmp 114) rfl U24 (by kernel_rfl) (by omega) (by omega) rfl) ⟨I0,I0,T0⟩ ⟨rfl,T0⟩ T0<|dR (Z8 (X:=iv (((Ap.faA c.cor c p.rz[r] i k).getD p.rz[r].send[k].toNat 0)+1)) (off:=p.rz[r].send[k].toNat*1) (cs:=((Ap.faA c.cor c p.rz[r] i k).map iv)) (ds:=((Ap.faA c.cor c p.rz[r] i (k+1)).map iv)) (zz:=1) (.tmp 118) (.tmp 117) rfl (by kernel_rfl) (by kernel_rfl) (λ_ d hd=>by simp only [AV.cellsOf,List.mem_cons,List.not_mem_nil,or_false] at hd;subst hd;rfl) (by kernel_rfl) (by simp [Ap.seA_len,Ap.faA_len,Ap.brL_len,Ap.st0_len,Ra.stP_len];omega)<|Ra.fa_row hic hk1) ⟨I0,I0,T0⟩ ⟨rfl,T0⟩ rfl<|eD ?_
 refine kW 134 (Zb9 c p.rz[r] i kp k) [(4,.el (Rd.cCg c) 0),(5,.el ([iv r,iv i,iv kp]) 0),(6,bx 1),(7,bF),(8,.el (cRu p.rz[r]) 0),(9,bx 5),(11,bv b),(12,iv k),(76,bT),(83,bF)]<|Zf ?_
 by_cases hs7:b=true
 simp only [hs7]
 refine kW 134 (Zb9 c p.rz[r] i kp k) [(4,.el (Rd.cCg c) 0),(5,.el ([iv r,iv i,iv kp]) 0),(6,bx 1),(7,bF),(8,.el (cRu p.rz[r]) 0),(9,bx 5),(11,bT),(12,iv k),(76,bT),(83,bF)] ?_
 refine tD<|dW<|dS bT<|dW<|dS (.own 3)<|dW<|dS (Zc p.rz[r].send)<|dS (iv k)<|dC (xS (k*1) 124 125 U24) I0 I0<|dL (iv p.rz[r].send[k]) (Zr p.rz[r].send (by omega))<|dR (ZP (off:=p.rz[r].send[k].toNat*1) (.tmp 122) (.tmp 127) rfl U24 (by kernel_rfl) (by omega) (by omega) rfl) ⟨I0,I0,T0⟩ ⟨rfl,T0⟩ T0<|dB (Kl (Y := .row true 3 1 (0+c.fa.length) ((Ap.faA c.cor c p.rz[r] i (k+1)).map iv)) (.tmp 128) rfl U3 rfl<|Ct.row_at<|by rw [Ap.faA_len];omega) I0 rfl<|dC (sp_leq rfl rfl) I0 I0<|dW<|dS (bv<|decide<|((Ap.faA c.cor c p.rz[r] i (k+1)).getD p.rz[r].send[k].toNat 0)<=1048576)<|eD ?_
 refine Zs<|Zf<|Za<|oS (iv k)<|oV ((k+1:Nat):Int)<|oS (iv (k+1:Nat))<|jA ?_
 refine Zp ⟨(k+1,(decide<|((Ap.faA c.cor c p.rz[r] i (k+1)).getD p.rz[r].send[k].toNat 0)<=1048576)),by dsimp only;omega,(Ra.fa_yes hc hic hk1 (by omega) hb hs7)⟩ (show p.rz[r].send.length-(k+1)<p.rz[r].send.length-k by omega) ?_
 show Wk _ _ (ofL<|Zb9 c p.rz[r] i kp k) (ofT 134 [(4,.el (Rd.cCg c) 0),(5,.el ([iv r,iv i,iv kp]) 0),(6,bx 1),(7,bF),(8,.el (cRu p.rz[r]) 0),(9,bx 5),(11,bv (decide<|((Ap.faA c.cor c p.rz[r] i (k+1)).getD p.rz[r].send[k].toNat 0)<=1048576)),(12,iv ((k+1):Nat))])
 exact Zk _ _
 have hs7f:b=false:=by simpa using hs7
 simp only [hs7f]
 refine kW 134 (Zb9 c p.rz[r] i kp k) [(4,.el (Rd.cCg c) 0),(5,.el ([iv r,iv i,iv kp]) 0),(6,bx 1),(7,bF),(8,.el (cRu p.rz[r]) 0),(9,bx 5),(11,bF),(12,iv k),(76,bT),(83,bF)]<|tD<|dW<|dS bF<|dK<|dK<|dK<|dK<|dK<|dK<|dK<|dK<|dK<|dK<|dW<|dS bF<|eD<|Zs<|Zf<|Za<|oS (iv k)<|oV ((k+1:Nat):Int)<|oS (iv (k+1:Nat))<|jA ?_
 refine Zp ⟨(k+1,false),by dsimp only;omega,(Ra.fa_nope hc hic hk1 hb hs7f)⟩ (show p.rz[r].send.length-(k+1)<p.rz[r].send.length-k by omega) ?_
 show Wk _ _ (ofL<|Zb9 c p.rz[r] i kp k) (ofT 134<|XRa2_h5 c r i kp p.rz[r] k)
 exact Zk _ _
 refine Za<|W4<|ol (dF hs6)<|jI<|jO<|jC<|Za<|W2<|oY<|oS (bv b)<|kN 134 [(1,.box 36 [.fr (Zc c.sh),.own 2,iv c.cor,.fr (Zc c.se),.own 3,iv (Ra.wv c p.rz[r])]),(2,.row true 3 1 (0+c.st.length) ((Ap.stA c p.rz[r] i kp).map iv)),(3,.row true 3 1 (0+c.fa.length) ((Ap.faA c.cor c p.rz[r] i k).map iv))] [(6,bx 1),(7,bv b)]<|Zf<|ZQ<|ZY results86 (.cellS rfl rfl U36 rfl (z:=6) (by kernel_rfl) rfl (by decide)) (.tmp rfl) ?_
 obtain rfl:k=p.rz[r].send.length:=by omega
 rw [hb,<- Ra.lg_fa (k':=kp) hc hic]
 exact congr (congrArg (λa b=>AV.tup [.agg a,b])<|Ra.res_fa hic) rfl
variable {t x y:Int}
theorem rapply_g (HL:FamLen p) (HC:Rd.CgOk c) (hc:En.CfV p n f c) (hv:valE p=0) {g:Nat->Int} (he:En.enB p n t f c g x y kp=true):Ctr Tryz.prog J 86 [.agg (cFm p),.agg (Rd.cCg c),.agg [iv x,iv y,iv kp]] (.tup [.agg (Rd.cCg (Ap.afX p n f c x y kp)),bv (Ap.lgB (Ap.afX p n f c x y kp))]):=by
 obtain ⟨r,i,hr,hi,rfl,rfl⟩:=Ap.en_at he
 have hp:=Ap.hpt_of (hr:=hr) he
 have hp2:p.rz[r].kind=2\/p.rz[r].kind=5->kp.toNat≠i:=λh25=>Ra.pt_ne (Ap.pt_of (hr:=hr) he) h25
 rw [Ap.afX_at hr,<- hc.co]
 by_cases hic:(i:Int)<c.cor
 ·exact rapply_se HL HC hc hv hr hi hp hp2 hic
 exact rapply_fa HL HC hc hv hr hi hp hp2 hic
set_option maxRecDepth 100000 in
set_option maxHeartbeats 6400000 in
theorem rApply_c (HP:FmOk p) (HL:FamLen p) (HC:Rd.CgOk c) :Ctr Tryz.prog J 47 [.agg (cFm p),.agg (cSz n t f),.agg (Rd.cCg c),.agg [iv x,iv y,iv kp]] (.tup [.agg (Rd.cCg<|Ap.apC p n t f c x y kp),iv (Ap.apE p n t f c x y kp)]):=by
 refine Zn func47 rfl (pN (Zg<|Zy p)<|pN (Zg<|ZT n t f)<|pN (Zg<|Rd.plain_cg c)<|pN (Zg<|pN (.v _)<|pN (.v _)<|pN (.v _) pZ) pZ) (n:=39) rfl (by simp)<|λw0 => ?_
 refine jB<|oA (ZC (X := .agg (cFm p)) (.tmp 0) rfl rfl rfl) I0<|oA (ZC (X := .agg (cSz n t f)) (.tmp 1) rfl rfl rfl) I0<|oA (ZC (X := .agg (Rd.cCg c)) (.tmp 2) rfl rfl rfl) I0<|oA (ZC (X := .agg [iv x,iv y,iv kp]) (.tmp 3) rfl rfl rfl) I0<|oZ 1 Z36<|oS (iv 0)<|jD<|jB<|oA (Zl (z:=10) (.tmp 4) rfl U27 rfl (by kernel_rfl) rfl rfl) I0<|oA (Zl (z:=3) (.tmp 5) rfl U32 rfl (by kernel_rfl) rfl rfl) I0<|oA (Zl (z:=6) (.tmp 6) rfl U36 rfl (by kernel_rfl) rfl rfl) I0<|oK (Zck HP HC) [.agg (cFm p),.agg (cSz n t f),.agg (Rd.cCg c)] rfl rfl<|oS (iv<|Rd.vcE p n t f c)<|jD ?_
 by_cases hs1:(Rd.vcE p n t f c)=0
 obtain ⟨hs,hx⟩:=En.vc_ok hs1
 have hc:=En.cf_in hx
 obtain ⟨hv,ha,h8⟩:=Ns.sys_ok hs
 have hai:=Ns.adm_in ha
 have l8:=En.cf_len hc hai h8
 have hsz:=En.val_sizes hv
 have hf:0<=f/\f<=1048576:=by omega
 refine Za<|oW<|on (dT' hs1)<|jF<|jM ?_
 by_cases hs2:(En.enB p n t f c (En.hdG p f c false) x y kp)=true
 refine Za<|oA (Zl (z:=10) (.tmp 4) rfl U27 rfl (by kernel_rfl) rfl rfl) I0<|oA (Zl (z:=3) (.tmp 5) rfl U32 rfl (by kernel_rfl) rfl rfl) I0<|oA (Zl (z:=6) (.tmp 6) rfl U36 rfl (by kernel_rfl) rfl rfl) I0<|oA (Zl (z:=3) (.tmp 7) rfl U67 rfl (by kernel_rfl) rfl rfl) I0<|oK (Zo (ZcC HL HC hc hv hf) hs2) [.agg (cFm p),.agg (cSz n t f),.agg (Rd.cCg c),.agg ([iv x,iv y,iv kp]),bF] rfl rfl<|oS bF<|jF<|jB<|oA (Zl (z:=10) (.tmp 4) rfl U27 rfl (by kernel_rfl) rfl rfl) I0<|oA (Zl (z:=6) (.tmp 6) rfl U36 rfl (by kernel_rfl) rfl rfl) I0<|oA (Zl (z:=3) (.tmp 7) rfl U67 rfl (by kernel_rfl) rfl rfl) I0<|oK (rapply_g HL HC hc hv hs2) [.agg (cFm p),.agg (Rd.cCg c),.agg ([iv x,iv y,iv kp])] rfl rfl<|oS (.tup [.fr (.agg (Rd.cCg<|Ap.afX p n f c x y kp)),bv (Ap.lgB<|Ap.afX p n f c x y kp)])<|oS (.fr (.agg (Rd.cCg<|Ap.afX p n f c x y kp)))<|oW<|oZ 2 Z36<|YA rfl (sB 6 11 (.tmp 33)<|.agg [.fr (Zc<|(Ap.afX p n f c x y kp).sh),.fr (Zc<|(Ap.afX p n f c x y kp).st),iv ((Ap.afX p n f c x y kp).cor),.fr (Zc<|(Ap.afX p n f c x y kp).se),.fr (Zc<|(Ap.afX p n f c x y kp).fa),iv ((Ap.afX p n f c x y kp).val)]) ⟨I0,.inr (.inr (.inl ⟨_,rfl,rfl⟩)),T0⟩ ⟨rfl,T0⟩ rfl<|oS (bv<|Ap.lgB<|Ap.afX p n f c x y kp) ?_
 refine jD<|Zi ?_
 by_cases hs3:(Ap.lgB<|Ap.afX p n f c x y kp)=true
 rw [hs3]
 refine Za<|oF bF<|jF<|jB<|oW<|oY<|oS (iv 0)<|kN 39 [(1,.box 36 [.fr (Zc<|(Ap.afX p n f c x y kp).sh),.fr (Zc<|(Ap.afX p n f c x y kp).st),iv ((Ap.afX p n f c x y kp).cor),.fr (Zc<|(Ap.afX p n f c x y kp).se),.fr (Zc<|(Ap.afX p n f c x y kp).fa),iv ((Ap.afX p n f c x y kp).val)])] [(8,bx 1),(9,iv 0)]<|Zf<|ZQ<|ZY results47 (.cellS rfl rfl U36 rfl (z:=6) (by kernel_rfl) rfl (by decide)) (.tmp rfl) ?_
 rw [Ra.apC_y hs1 hs2 hs3,Ra.apE_y hs1 hs2 hs3]
 exact rfl
 have hs3f:(Ap.lgB<|Ap.afX p n f c x y kp)=false:=by simpa using hs3
 rw [hs3f]
 refine Za<|oF bT<|jG<|YA rfl (YQ [] #[.slice none 0 0,.slice none 0 0,.int .i64 0,.slice none 0 0,.slice none 0 0,.int .i64 0] rfl rfl (by kernel_rfl) rfl) T0 T0 T0<|oY<|oS (iv 4)<|kN 39 [(1,.box 36 [nz,nz,iv 0,nz,nz,iv 0]),(2,.box 36 [.fr (Zc<|(Ap.afX p n f c x y kp).sh),.fr (Zc<|(Ap.afX p n f c x y kp).st),iv ((Ap.afX p n f c x y kp).cor),.fr (Zc<|(Ap.afX p n f c x y kp).se),.fr (Zc<|(Ap.afX p n f c x y kp).fa),iv ((Ap.afX p n f c x y kp).val)])] [(8,bx 1),(9,iv 4),(11,bx 2)]<|Zf<|jN<|Yp (Yw 1 0 3 true 3 1 rfl rfl rfl rfl)<|Yp (Yw 1 1 4 true 3 1 rfl rfl rfl rfl) ?_
 refine Yp (Yw 1 3 5 true 3 1 rfl rfl rfl rfl)<|Yp (Yw 1 4 6 true 3 1 rfl rfl rfl rfl)<|ZY results47 (.cellS rfl rfl U36 rfl (z:=6) (by kernel_rfl) rfl (by decide)) (.tmp rfl) ?_
 rw [Ra.apC_n hs1 hs2 hs3f,Ra.apE_n hs1 hs2 hs3f]
 exact rfl
 have hs2f:(En.enB p n t f c (En.hdG p f c false) x y kp)=false:=by simpa using hs2
 refine Za<|oA (Zl (z:=10) (.tmp 4) rfl U27 rfl (by kernel_rfl) rfl rfl) I0<|oA (Zl (z:=3) (.tmp 5) rfl U32 rfl (by kernel_rfl) rfl rfl) I0<|oA (Zl (z:=6) (.tmp 6) rfl U36 rfl (by kernel_rfl) rfl rfl) I0<|oA (Zl (z:=3) (.tmp 7) rfl U67 rfl (by kernel_rfl) rfl rfl) I0<|oK (Zo (ZcC HL HC hc hv hf) hs2f) [.agg (cFm p),.agg (cSz n t f),.agg (Rd.cCg c),.agg ([iv x,iv y,iv kp]),bF] rfl rfl<|oS bT<|jG<|YA rfl (YQ [] #[.slice none 0 0,.slice none 0 0,.int .i64 0,.slice none 0 0,.slice none 0 0,.int .i64 0] rfl rfl (by kernel_rfl) rfl) T0 T0 T0<|oY<|oS (iv 9)<|kN 39 [(1,.box 36 [nz,nz,iv 0,nz,nz,iv 0])] [(4,.el (cFm p) 0),(6,.el (Rd.cCg c) 0),(7,.el ([iv x,iv y,iv kp]) 0),(8,bx 1),(9,iv 9)]<|Zf<|jN ?_
 refine Yp (Yw 1 0 2 true 3 1 rfl rfl rfl rfl)<|Yp (Yw 1 1 3 true 3 1 rfl rfl rfl rfl)<|Yp (Yw 1 3 4 true 3 1 rfl rfl rfl rfl)<|Yp (Yw 1 4 5 true 3 1 rfl rfl rfl rfl)<|ZY results47 (.cellS rfl rfl U36 rfl (z:=6) (by kernel_rfl) rfl (by decide)) (.tmp rfl) ?_
 rw [Ap.apC_no hs1 hs2f,Ap.apE_no hs1 hs2f]
 exact rfl
 refine Za<|oW<|on (dF' hs1)<|jG<|YA rfl (YQ [] #[.slice none 0 0,.slice none 0 0,.int .i64 0,.slice none 0 0,.slice none 0 0,.int .i64 0] rfl rfl (by kernel_rfl) rfl) T0 T0 T0<|oW<|oY<|oS (iv<|Rd.vcE p n t f c)<|kN 39 [(1,.box 36 [nz,nz,iv 0,nz,nz,iv 0])] [(4,.el (cFm p) 0),(5,.el (cSz n t f) 0),(6,.el (Rd.cCg c) 0),(7,.el ([iv x,iv y,iv kp]) 0),(8,bx 1),(9,iv (Rd.vcE p n t f c))]<|Zf<|jN<|Yp (Yw 1 0 2 true 3 1 rfl rfl rfl rfl)<|Yp (Yw 1 1 3 true 3 1 rfl rfl rfl rfl)<|Yp (Yw 1 3 4 true 3 1 rfl rfl rfl rfl)<|Yp (Yw 1 4 5 true 3 1 rfl rfl rfl rfl) ?_
 refine ZY results47 (.cellS rfl rfl U36 rfl (z:=6) (by kernel_rfl) rfl (by decide)) (.tmp rfl) ?_
 rw [Ap.apC_err hs1,Ap.apE_err hs1]
 exact rfl
variable {k:Nat}
theorem rApplyK0 (HP:FmOk p) (HL:FamLen p) (HC:Rd.CgOk c) (hs:Ns.sysE p n t f=0) (hc:En.CfV p n f c) {ss:List Rp.Sp} (hk:k<=ss.length) (ok:Rp.okK p n t f c ss k) (hk1:k<ss.length) (e:(Rp.ee p n t f (Rp.cK p n f c ss k) ss[k])=0):Ctr Tryz.prog J 47 [.agg (cFm p),.agg (cSz n t f),.agg (Rd.cCg (Rp.cK p n f c ss k)),.agg (Rp.cSp ss[k])] (.tup [.agg (Rd.cCg (Rp.cK p n f c ss (k+1))),iv 0]):=by
 have h2:=Rp.cK_ok HL hs hc HC k hk ok
 have h:=rApply_c (J:=J) HP HL h2 (n:=n) (t:=t) (f:=f) (x:=ss[k].1) (y:=ss[k].2.1) (kp:=ss[k].2.2)
 have e2:Ap.apE p n t f (Rp.cK p n f c ss k) ss[k].1 ss[k].2.1 ss[k].2.2=0:=e
 rw [show Ap.apC p n t f (Rp.cK p n f c ss k) ss[k].1 ss[k].2.1 ss[k].2.2=(Rp.cK p n f c ss (k+1)) from by rw [Rp.cK_succ hk1];exact if_pos e2,e2] at h
 exact h
theorem rApplyK1 (HP:FmOk p) (HL:FamLen p) (HC:Rd.CgOk c) (hs:Ns.sysE p n t f=0) (hc:En.CfV p n f c) {ss:List Rp.Sp} (hk:k<=ss.length) (ok:Rp.okK p n t f c ss k) (hk1:k<ss.length) (e:¬ (Rp.ee p n t f (Rp.cK p n f c ss k) ss[k])=0):Ctr Tryz.prog J 47 [.agg (cFm p),.agg (cSz n t f),.agg (Rd.cCg (Rp.cK p n f c ss k)),.agg (Rp.cSp ss[k])] (.tup [.agg (Rd.cCg Ap.zC),iv (Rp.ee p n t f (Rp.cK p n f c ss k) ss[k])]):=by
 have h2:=Rp.cK_ok HL hs hc HC k hk ok
 have h:=rApply_c (J:=J) HP HL h2 (n:=n) (t:=t) (f:=f) (x:=ss[k].1) (y:=ss[k].2.1) (kp:=ss[k].2.2)
 rw [show Ap.apC p n t f (Rp.cK p n f c ss k) ss[k].1 ss[k].2.1 ss[k].2.2=Ap.zC from if_neg e] at h
 exact h
theorem Rp.rpK_row {ss:List Rp.Sp} :(((Rp.rpK p n f c ss k).flatMap Rd.cCg).drop (k*6)).take 6=Rd.cCg (Rp.cK p n f c ss k):=by
 have h:=ZJ Rp.len_cCg (Rp.rpK p n f c ss k) k (by rw [Rp.rpK_len];omega)
 rw [Rp.rpK_at (by omega)] at h
 exact h
set_option maxRecDepth 100000 in
set_option maxHeartbeats 6400000 in
theorem rreplay_c (HP:FmOk p) (HL:FamLen p) (HC:Rd.CgOk c) {ss:List Rp.Sp} (hs:Ns.sysE p n t f=0) (hx:Rd.rdX p n f c=true) (hl:ss.length<=300):Ctr Tryz.prog J 22 [.agg (cFm p),.agg (cSz n t f),.agg (Rd.cCg c),slA 3 Rp.cSp ss] (.tup [slA 6 Rd.cCg (Rp.rpL p n t f c ss),iv (Rp.rpE p n t f c ss)]):=by
 have hc:=En.cf_in hx
 refine Zn func22 rfl (pN (Zg<|Zy p)<|pN (Zg<|ZT n t f)<|pN (Zg<|Rd.plain_cg c)<|pN (Yj Rp.plain_cSp _) pZ) (n:=47) rfl (by simp)<|λw0 => ?_
 refine jB<|oA (ZC (X := .agg (cFm p)) (.tmp 0) rfl rfl rfl) I0<|oA (ZC (X := .agg (cSz n t f)) (.tmp 1) rfl rfl rfl) I0<|oA (ZC (X := .agg (Rd.cCg c)) (.tmp 2) rfl rfl rfl) I0<|oS (nz)<|oS (iv 0)<|jD<|Za<|oA (Zl (z:=6) (.tmp 6) rfl U36 rfl (by kernel_rfl) rfl rfl) I0<|oK (CopyCf_c HC) [.agg (Rd.cCg c)] rfl rfl<|YA rfl (Wn (z:=6) (k:=1) (fr:=true) (cs:=[Zc c.sh,Zc c.st,iv c.cor,Zc c.se,Zc c.fa,iv c.val]) [.tmp 15] [.agg [.fr (Zc c.sh),.fr (Zc c.st),iv c.cor,.fr (Zc c.se),.fr (Zc c.fa),iv c.val]] rfl U72 (by kernel_rfl) (by decide) (by decide) rfl rfl rfl (by kernel_rfl) (by decide) (λ_=>by simp [AV.cellsOf,AV.isNew,cLn,cTh])<|by kernel_rfl) ⟨.inr (.inr (.inl ⟨_,rfl,rfl⟩)),T0⟩ T0 rfl<|oS (.own 1)<|jD<|jB<|oS (iv 0)<|jA<|Zh ?_
 refine Zw (σ:={k:Nat // k<=ss.length/\Rp.okK p n t f c ss k}) (λs=>(ofL [(1,.row true 36 6 (s.1+1) ((Rp.rpK p n f c ss s.1).flatMap Rd.cCg))],ofT 47 [(3,slA 3 Rp.cSp ss),(4,.el (cFm p) 0),(5,.el (cSz n t f) 0),(10,.own 1),(11,iv s.1)])) (λs=>ss.length-s.1) ⟨0,Nat.zero_le _,Rp.ok_zero⟩ (Zk _ _)<|λs => ?_
 obtain ⟨k,hk0,ok⟩:=s
 show ETri J w0 (ofL [(1,.row true 36 6 (k+1) ((Rp.rpK p n f c ss k).flatMap Rd.cCg))]) (ofT 47 [(3,slA 3 Rp.cSp ss),(4,.el (cFm p) 0),(5,.el (cSz n t f) 0),(10,.own 1),(11,iv k)]) _
 refine jM ?_
 by_cases hs1:(k:Int)<(ss.length:Int)
 have hk1:k<ss.length:=by omega
 refine Za<|W3<|ol (dT hs1)<|jH<|Zj<|jC<|Zh<|Zi ?_
 by_cases hs2:(Rp.ee p n t f (Rp.cK p n f c ss k) ss[k])=0
 refine tD<|dA (Zl (z:=10) (.tmp 4) rfl U27 rfl (by kernel_rfl) rfl rfl) I0<|dA (Zl (z:=3) (.tmp 5) rfl U32 rfl (by kernel_rfl) rfl rfl) I0<|dS (.own 1)<|dS (.own 1)<|dB (Kc (.tmp 27) rfl U72) I0 rfl<|dC (Kh (c:=(k:Int)) rfl<|w64 (by omega) (by omega)<|by omega) I0 I0<|dR (ZP (off:=k*6) (.tmp 26) (.tmp 29) rfl U72 (by kernel_rfl) (by omega) (by omega) rfl) ⟨I0,I0,T0⟩ ⟨rfl,T0⟩ T0<|dB (Wm (Y := .row true 36 6 (k+1) ((Rp.rpK p n f c ss k).flatMap Rd.cCg)) (z:=6) (.tmp 30) rfl U36 rfl (by kernel_rfl) (by decide) Rp.rpK_row rfl) I0 rfl<|dS (slA 3 Rp.cSp ss)<|dS (iv k)<|dC (xS (k*3) 32 33 U37) I0 I0<|dA (Zl (z:=3) (.tmp 34) rfl U67 rfl (by kernel_rfl) (ZJ Rp.len_cSp ss k<|by omega) rfl) I0<|dk (rApplyK0 HP HL HC hs hc hk0 ok hk1 hs2) [.agg (cFm p),.agg (cSz n t f),.agg (Rd.cCg<|Rp.cK p n f c ss k),.agg (Rp.cSp ss[k])] rfl rfl<|dS (.tup [.fr (.agg (Rd.cCg<|Rp.cK p n f c ss<|k+1)),iv 0])<|dS (.fr (.agg (Rd.cCg<|Rp.cK p n f c ss<|k+1)))<|dW<|dz 2 Z36<|dR (sB 6 12 (.tmp 37)<|.agg [.fr (Zc<|(Rp.cK p n f c ss<|k+1).sh),.fr (Zc<|(Rp.cK p n f c ss<|k+1).st),iv ((Rp.cK p n f c ss<|k+1).cor),.fr (Zc<|(Rp.cK p n f c ss<|k+1).se),.fr (Zc<|(Rp.cK p n f c ss<|k+1).fa),iv ((Rp.cK p n f c ss<|k+1).val)]) ⟨I0,.inr (.inr (.inl ⟨_,rfl,rfl⟩)),T0⟩ ⟨rfl,T0⟩ rfl<|dS (iv 0)<|eD ?_
 refine jC<|jB<|oS (iv 0)<|oC (Yg (r:=false) rfl<|by decide) I0 I0<|jF<|Za<|oS (.own 1)<|oS (.agg [.fr (Zc<|(Rp.cK p n f c ss<|k+1).sh),.fr (Zc<|(Rp.cK p n f c ss<|k+1).st),iv ((Rp.cK p n f c ss<|k+1).cor),.fr (Zc<|(Rp.cK p n f c ss<|k+1).se),.fr (Zc<|(Rp.cK p n f c ss<|k+1).fa),iv ((Rp.cK p n f c ss<|k+1).val)])<|YA rfl (Wn (z:=6) (k:=3) (fr:=false) (cs:=[.fr (Zc<|(Rp.cK p n f c ss<|k+1).sh),.fr (Zc<|(Rp.cK p n f c ss<|k+1).st),iv ((Rp.cK p n f c ss<|k+1).cor),.fr (Zc<|(Rp.cK p n f c ss<|k+1).se),.fr (Zc<|(Rp.cK p n f c ss<|k+1).fa),iv ((Rp.cK p n f c ss<|k+1).val)]) [.tmp 43] [.agg [.fr (Zc<|(Rp.cK p n f c ss<|k+1).sh),.fr (Zc<|(Rp.cK p n f c ss<|k+1).st),iv ((Rp.cK p n f c ss<|k+1).cor),.fr (Zc<|(Rp.cK p n f c ss<|k+1).se),.fr (Zc<|(Rp.cK p n f c ss<|k+1).fa),iv ((Rp.cK p n f c ss<|k+1).val)]] rfl U72 (by kernel_rfl) (by decide) (by decide) rfl rfl rfl (by kernel_rfl) (by decide) (λh=>Bool.noConfusion h)<|by kernel_rfl) ⟨I0,T0⟩ T0 rfl<|YA rfl (Za6 (n:=(k+1)) (cs:=((Rp.rpK p n f c ss k).flatMap Rd.cCg)) (fr:=true) (m:=1) (ds:=[.fr (Zc<|(Rp.cK p n f c ss<|k+1).sh),.fr (Zc<|(Rp.cK p n f c ss<|k+1).st),iv ((Rp.cK p n f c ss<|k+1).cor),.fr (Zc<|(Rp.cK p n f c ss<|k+1).se),.fr (Zc<|(Rp.cK p n f c ss<|k+1).fa),iv ((Rp.cK p n f c ss<|k+1).val)]) (⟨U72,by kernel_rfl,by decide⟩:Elt Tryz.prog 72 36 6 112) (.tmp 42) (.tmp 44) rfl (λ_=>Rp.newCg _) (by unfold maxLen;omega) (by omega) (Rp.cellCg _) (es:=((Rp.rpK p n f c ss<|k+1).flatMap Rd.cCg)) Rp.snocCg) ⟨I0,I0,T0⟩ ⟨rfl,rfl,T0⟩ rfl<|oS (.own 1)<|ZL<|Zs<|Zf<|Za<|oS (iv k)<|oV ((k+1:Nat):Int)<|oS (iv (k+1:Nat)) ?_
 refine jA<|Zp ⟨k+1,by omega,Rp.ok_succ hk1 ok hs2⟩ (show ss.length-(k+1)<ss.length-k by omega) ?_
 show Wk _ _ (ofL [(1,.row true 36 6 ((k+1)+1) ((Rp.rpK p n f c ss<|k+1).flatMap Rd.cCg))]) (ofT 47 [(3,slA 3 Rp.cSp ss),(4,.el (cFm p) 0),(5,.el (cSz n t f) 0),(10,.own 1),(11,iv ((k+1):Nat))])
 exact Zk _ _
 refine tD<|dA (Zl (z:=10) (.tmp 4) rfl U27 rfl (by kernel_rfl) rfl rfl) I0<|dA (Zl (z:=3) (.tmp 5) rfl U32 rfl (by kernel_rfl) rfl rfl) I0<|dS (.own 1)<|dS (.own 1)<|dB (Kc (.tmp 27) rfl U72) I0 rfl<|dC (Kh (c:=(k:Int)) rfl<|w64 (by omega) (by omega)<|by omega) I0 I0<|dR (ZP (off:=k*6) (.tmp 26) (.tmp 29) rfl U72 (by kernel_rfl) (by omega) (by omega) rfl) ⟨I0,I0,T0⟩ ⟨rfl,T0⟩ T0<|dB (Wm (Y := .row true 36 6 (k+1) ((Rp.rpK p n f c ss k).flatMap Rd.cCg)) (z:=6) (.tmp 30) rfl U36 rfl (by kernel_rfl) (by decide) Rp.rpK_row rfl) I0 rfl<|dS (slA 3 Rp.cSp ss)<|dS (iv k)<|dC (xS (k*3) 32 33 U37) I0 I0<|dA (Zl (z:=3) (.tmp 34) rfl U67 rfl (by kernel_rfl) (ZJ Rp.len_cSp ss k<|by omega) rfl) I0<|dk (rApplyK1 HP HL HC hs hc hk0 ok hk1 hs2) [.agg (cFm p),.agg (cSz n t f),.agg (Rd.cCg<|Rp.cK p n f c ss k),.agg (Rp.cSp ss[k])] rfl rfl<|dS (.tup [.fr (.agg (Rd.cCg Ap.zC)),iv (Rp.ee p n t f (Rp.cK p n f c ss k) ss[k])])<|dS (.fr (.agg (Rd.cCg Ap.zC)))<|dW<|dz 2 Z36<|dR (sB 6 12 (.tmp 37)<|.agg [.fr (Zc Ap.zC.sh),.fr (Zc Ap.zC.st),iv Ap.zC.cor,.fr (Zc Ap.zC.se),.fr (Zc Ap.zC.fa),iv Ap.zC.val]) ⟨I0,.inr (.inr (.inl ⟨_,rfl,rfl⟩)),T0⟩ ⟨rfl,T0⟩ rfl<|dS (iv<|Rp.ee p n t f (Rp.cK p n f c ss k) ss[k])<|eD ?_
 refine jC<|jB<|oW<|on (dF' hs2)<|jG<|oW<|oS (nz)<|oS (iv<|Rp.ee p n t f (Rp.cK p n f c ss k) ss[k])<|jE<|Zb<|Ze<|Zb<|Zb<|Ze<|Zb<|Yp (wk_adopt 8 3 true 36 6 rfl rfl rfl)<|ZY results22 (.tmp rfl) (.tmp rfl) ?_
 have e1:=Rp.rp_err hs hx hk1 ok hs2
 rw [Rp.rpL_no (by rw [e1];exact hs2),e1]
 exact rfl
 refine Za<|W3<|ol (dF hs1)<|jI<|jO<|jC<|Za<|oF (.own 1)<|oS (iv 0)<|jE<|ZY results22 (.tmp rfl) (.tmp rfl) ?_
 obtain rfl:k=ss.length:=by omega
 have e1:=Rp.rp_ok hs hx ok
 rw [Rp.rpL_yes e1,e1]
 unfold slA
 rw [Rp.rpK_len]
 exact rfl
theorem Vi.last {ss:List Rp.Sp} (h:Rp.rpE p n t f c ss=0):(Rp.rpL p n t f c ss)[(Rp.rpL p n t f c ss).length-1]'(by rw [Rp.rpL_len h];omega)=Rp.cK p n f c ss ss.length:=by
 rw [Rp.rpL_at h (by rw [Rp.rpL_len h];omega)]
 exact congrArg (Rp.cK p n f c ss) (by rw [Rp.rpL_len h];omega)
variable {q:Pq}
theorem rbadL (HL:FamLen p) (HQ:PqOk q) (HC:Rd.CgOk c) {ss:List Rp.Sp} (h:Rp.rpE p n t f c ss=0) (hvp:vpE p q=0) (hkd:q.kind=1) {c1:Cf} (e:c1=Rp.cK p n f c ss ss.length):Ctr Tryz.prog J 23 [.agg (cFm p),.agg (cPq q),.agg (Rd.cCg c1)] (bv (Jd.bdV p q c1)):=by
 subst e
 obtain ⟨hs,hx,ok⟩:=Rp.ok_rp h
 exact rbadV HQ (Rp.cK_ok HL hs (En.cf_in hx) HC _ (Nat.le_refl _) ok) (Ns.adm_in (Ns.sys_ok hs).2.1) (Rp.cK_cf hs (En.cf_in hx) _ (Nat.le_refl _) ok) hvp hkd
set_option maxRecDepth 100000 in
set_option maxHeartbeats 6400000 in
theorem rIsViol_c (HP:FmOk p) (LP:FamLen p) (HQ:PqOk q) (LQ:PqLen q) (HC:Rd.CgOk c) {ss:List Rp.Sp} (hl:ss.length<=300):Ctr Tryz.prog J 8 [.agg (cFm p),.agg (cPq q),.agg (cSz n t f),.agg (Rp.cRun c ss)] (bv<|Vi.viB p q n t f c ss):=by
 refine Zn func8 rfl (pN (Zg<|Zy p)<|pN (Zg<|Yd q)<|pN (Zg<|ZT n t f)<|pN (Zg<|λX hX=>by rcases List.mem_append.1 hX with h | h;exact Rd.plain_cg c X h;rw [List.mem_singleton.1 h];exact Yj Rp.plain_cSp _) pZ) (n:=53) rfl (by simp)<|λw0 => ?_
 refine jB<|oX 1 (.agg (cFm p))<|oX 2 (.agg (cPq q))<|oX 3 (.agg (cSz n t f))<|oX 4 (.agg (Rp.cRun c ss))<|oS bF<|jD<|Zi ?_
 by_cases hs1:(Vi.spE p q n t f)=0
 by_cases hs2:q.kind=1
 by_cases hs3:(Rd.rvB p n f c&&Vi.inB p q (n-f) c)=true
 refine Za<|W3<|oK (KS HP HQ) [.agg (cFm p),.agg (cPq q),.agg (cSz n t f)] rfl rfl<|on (dT' hs1)<|oS bF<|W2<|on (dT' hs2)<|oF bF<|W4<|oW<|oK (Zo (Zba HP LP HQ LQ HC<|(Vi.sp_ok hs1).2) hs3) [.agg (cFm p),.agg (cPq q),.agg (cSz n t f),.agg (Rd.cCg c)] rfl rfl<|oW<|oS bF<|jF ?_
 refine jB<|W4<|W2<|oK (rreplay_c HP LP HC ((Vi.sp_ok hs1).2) ((Rd.rv_rd (Vi.sp_ok hs1).2).symm.trans (Bool.and_eq_true_iff.1 hs3).1) hl) [.agg (cFm p),.agg (cSz n t f),.agg (Rd.cCg c),slA 3 Rp.cSp ss] rfl rfl<|oS (.tup [.fr (slA 6 Rd.cCg<|Rp.rpL p n t f c ss),iv (Rp.rpE p n t f c ss)])<|W2<|oS (.fr (slA 6 Rd.cCg<|Rp.rpL p n t f c ss))<|oS (iv<|Rp.rpE p n t f c ss)<|jD ?_
 by_cases hs4:(Rp.rpE p n t f c ss)=0
 have e5:=Rp.rpL_len hs4
 have hcl:Rp.okK p n t f c ss ss.length:=(Rp.ok_rp hs4).2.2
 refine tD<|dW<|de (dT hs4)<|dS bT<|dW<|dW<|dS (.fr (slA 6 Rd.cCg<|Rp.rpL p n t f c ss))<|dS (.fr (slA 6 Rd.cCg<|Rp.rpL p n t f c ss))<|dR (nLs 46 U72) ⟨.inr (.inl rfl),T0⟩ T0 T0<|dC (Kh (c:=((((Rp.rpL p n t f c ss).length-1):Nat):Int)) rfl<|w64 (by omega) (by omega)<|by omega) I0 I0<|dR (xS (((Rp.rpL p n t f c ss).length-1)*6) 45 48 U72) ⟨.inr (.inl rfl),I0,T0⟩ T0 T0<|dA (Zl (z:=6) (.tmp 49) rfl U36 rfl (by kernel_rfl) (ZJ Rp.len_cCg (Rp.rpL p n t f c ss) ((Rp.rpL p n t f c ss).length-1)<|by omega) rfl) I0<|dk (rbadL LP HQ HC hs4 ((Vi.sp_ok hs1).1) hs2<|Vi.last hs4) [.agg (cFm p),.agg (cPq q),.agg (Rd.cCg (Rp.rpL p n t f c ss)[((Rp.rpL p n t f c ss).length-1)])] rfl rfl<|dW<|dS (bv<|Jd.bdV p q (Rp.rpL p n t f c ss)[(Rp.rpL p n t f c ss).length-1])<|eD ?_
 refine Zf<|ZQ<|Zd results8 (.tmp rfl) ?_
 exact congrArg bv<|by rw [Vi.vi_yes (Vi.sp_ok hs1).1 hs2 hs4 (Bool.and_eq_true_iff.1 hs3).2];exact congrArg (Jd.bdV p q) (Vi.last hs4)
 exact tD<|dW<|de (dF hs4)<|dS bF<|dK<|dK<|dK<|dK<|dK<|dK<|dK<|dK<|dK<|dW<|dS bF<|eD<|Zf<|ZQ<|Zd results8 (.tmp rfl)<|cB<|(Vi.vi_rp hs4).symm
 have hs3f:(Rd.rvB p n f c&&Vi.inB p q (n-f) c)=false:=by simpa using hs3
 exact Za<|W3<|oK (KS HP HQ) [.agg (cFm p),.agg (cPq q),.agg (cSz n t f)] rfl rfl<|on (dT' hs1)<|oS bF<|W2<|on (dT' hs2)<|oF bF<|W4<|oW<|oK (Zo (Zba HP LP HQ LQ HC<|(Vi.sp_ok hs1).2) hs3f) [.agg (cFm p),.agg (cPq q),.agg (cSz n t f),.agg (Rd.cCg c)] rfl rfl<|oW<|oS bT<|jG<|oS bF<|jE<|Zb<|Zd results8 (.tmp rfl)<|congrArg bv (by
  rcases Bool.and_eq_false_iff.1 hs3f with e | e
  ·exact (Vi.vi_rv (Vi.sp_ok hs1).2 ((Rd.rv_rd (Vi.sp_ok hs1).2).symm.trans e)).symm
  exact (Vi.vi_in e).symm)
 exact Za<|W3<|oK (KS HP HQ) [.agg (cFm p),.agg (cPq q),.agg (cSz n t f)] rfl rfl<|on (dT' hs1)<|oS bF<|W2<|on (dF' hs2)<|oF bT<|V5<|V2<|oS bT<|jG<|oS bF<|jE<|Zb<|Zd results8 (.tmp rfl)<|cB<|(Vi.vi_kd hs2).symm
 exact Za<|W3<|oK (KS HP HQ) [.agg (cFm p),.agg (cPq q),.agg (cSz n t f)] rfl rfl<|on (dF' hs1)<|oS bT<|V3<|oF bT<|V5<|V2<|oS bT<|jG<|oS bF<|jE<|Zb<|Zd results8 (.tmp rfl)<|cB<|(Vi.sp_no hs1).symm
end Go.Proofs.YtmpgnibfhjdfpaaGreat
namespace Go.Proofs.YtmpgnibfhjdfpaaGreat
open Go.RowKit Go.Deep Go.ChangeShapes Go.WideShapes Go.ChangeAt Go.Joins Tryz
theorem ZcP:Tryz.prog.cellsOf 67=3:=by kernel_rfl
variable {w:World}{base:Nat}{held:Bool}{cs:List Value}
set_option maxRecDepth 100000 in
theorem ZdQ {H:Type} {enc:TypeId × Value->H} {sp:Nat->Bool} {n:Nat} {x:DataW H × List MemPlace} (h:DataW.trod enc Tryz.prog w base sp held n 67 cs=some x) :
 ∃ c0 c1 c2,cs=[.int .i64 c0,.int .i64 c1,.int .i64 c2]/\I64 c0/\I64 c1/\I64 c2:=by
 obtain ⟨ys,m,_,_,hlen,_,hf⟩:=DataW.trod_struct underlying67 h
 rw [ZcP] at hlen
 match cs,hlen with
 | [v0,v1,v2],_ =>
   have h0:DataW.trod enc Tryz.prog w base sp held m 3 (([v0,v1,v2].drop 0).take (Tryz.prog.cellsOf 3))=ys[0]? := hf 0 _ rfl
   have h1:DataW.trod enc Tryz.prog w base sp held m 3 (([v0,v1,v2].drop 1).take (Tryz.prog.cellsOf 3))=ys[1]? := hf 1 _ rfl
   have h2:DataW.trod enc Tryz.prog w base sp held m 3 (([v0,v1,v2].drop 2).take (Tryz.prog.cellsOf 3))=ys[2]? := hf 2 _ rfl
   rw [ZK] at h0 h1 h2
   simp only [List.drop_zero,List.take_succ_cons,List.take_zero] at h0
   simp only [List.drop_succ_cons,List.drop_zero,List.take_succ_cons,List.take_zero] at h1 h2
   have hx:∀ i,i<3->∃ y,ys[i]? = some y:=λi hi=>⟨ys[i]'(by simp at *;omega),List.getElem?_eq_getElem _⟩
   obtain ⟨y0,e0⟩:=hx 0 (by omega)
   rw [e0] at h0
   obtain ⟨c0,rfl,q0⟩:=ZG h0
   obtain ⟨y1,e1⟩:=hx 1 (by omega)
   rw [e1] at h1
   obtain ⟨c1,rfl,q1⟩:=ZG h1
   obtain ⟨y2,e2⟩:=hx 2 (by omega)
   rw [e2] at h2
   obtain ⟨c2,rfl,q2⟩:=ZG h2
   exact ⟨c0,c1,c2,rfl,q0,q1,q2⟩
def StpEl (_:Nat) (_:World) (cs:List Value) (s:Rp.Sp):Prop:=cs=[.int .i64 s.1,.int .i64 s.2.1,.int .i64 s.2.2]/\I64 s.1/\I64 s.2.1/\I64 s.2.2
set_option maxRecDepth 100000 in
theorem Zc9 {H:Type} {enc:TypeId × Value->H} {sp:Nat->Bool} {n:Nat} {x:DataW H × List MemPlace} (h:DataW.trod enc Tryz.prog w base sp held n 67 cs=some x):∃ s,StpEl 0 w cs s:=by
 obtain ⟨c0,c1,c2,e,q⟩:=ZdQ h
 exact ⟨(c0,c1,c2),e,q⟩
variable {v:Value}
theorem steps_pu {F ok:Nat->Prop} {lo:Nat} (hok:∀ b,lo<=b->b<w.heap.size->ok b) {xs:List Rp.Sp} (h:IsSl 3 StpEl lo w v xs):Pu F w ok (slA 3 Rp.cSp xs) v:=by
 refine sl_pu Rp.len_cSp hok (λs vs hs j hj => ?_) h
 obtain ⟨rfl,_⟩:=hs
 match j,hj with
 | 0,_=>exact .v _
 | 1,_=>exact .v _
 | 2,_=>exact .v _
theorem cells_run:Tryz.prog.cellsOf 39=7:=by kernel_rfl
theorem ZeK:Tryz.prog.cellsOf 37=1:=by kernel_rfl
def IsRun (w:World) (v:Value) (c:Cf) (ss:List Rp.Sp):Prop :=
 ∃ (cs:List Value) (u:Value),v = .agg (cs++[u]).toArray/\IsCf 0 w (.agg cs.toArray) c/\IsSl 3 StpEl 0 w u ss
set_option maxRecDepth 100000 in
theorem Ze7 {H:Type} {enc:TypeId × Value->H} {n:Nat} {x:DataW H × List MemPlace} (h:DataW.trod enc Tryz.prog w 0 (λ_=>true) true n 39 cs=some x) :
 ∃ c ss,IsRun w (.agg cs.toArray) c ss:=by
 obtain ⟨ys,m,_,_,hlen,_,hf⟩:=DataW.trod_struct underlying39 h
 rw [cells_run] at hlen
 match cs,hlen with
 | [v0,v1,v2,v3,v4,v5,u],_ =>
   have h0:DataW.trod enc Tryz.prog w 0 (λ_=>true) true m 36 (([v0,v1,v2,v3,v4,v5,u].drop 0).take (Tryz.prog.cellsOf 36))=ys[0]? := hf 0 _ rfl
   rw [ZeO] at h0
   simp only [List.drop_zero,List.take_succ_cons,List.take_zero] at h0
   have h1:DataW.trod enc Tryz.prog w 0 (λ_=>true) true m 37 (([v0,v1,v2,v3,v4,v5,u].drop 6).take (Tryz.prog.cellsOf 37))=ys[1]? := hf 1 _ rfl
   rw [ZeK] at h1
   simp only [List.drop_succ_cons,List.drop_zero,List.take_succ_cons,List.take_zero] at h1
   have hx:∀ i,i<2->∃ y,ys[i]? = some y:=λi hi=>⟨ys[i]'(by simp at *;omega),List.getElem?_eq_getElem _⟩
   obtain ⟨y0,e0⟩:=hx 0 (by omega)
   rw [e0] at h0
   obtain ⟨u0,xs0,u1,xs1,g2,u3,xs3,u4,xs4,g5,s2,q0,q1,q2,q3,q4,q5⟩:=Zfw h0
   obtain ⟨y1,e1⟩:=hx 1 (by omega)
   rw [e1] at h1
   obtain ⟨ss,hs⟩:=Y6 underlying37 ZcP (by omega) (λ_ _ _ hh _=>Zc9 hh) h1
   refine ⟨⟨xs0,xs1,g2,xs3,xs4,g5⟩,ss,[v0,v1,v2,v3,v4,v5],u,rfl,?_,hs⟩
   exact ⟨u0,u1,u3,u4,by rw [s2],q0,q1,q2,q3,q4,q5⟩
variable {b0:Nat}
set_option maxRecDepth 100000 in
theorem arg_run {H:Type} {enc:TypeId × Value->H} {r:Reach} {d:DataW H} {p:List MemPlace} (hv:Value.okWide Tryz.prog w r b0 39 v) (h:DataW.Trod enc Tryz.prog w 0 (λ_=>true) true 39 v d p) :
 ∃ c ss,IsRun w v c ss:=by
 obtain ⟨cs,rfl,_⟩:=okWide_struct underlying39 hv
 obtain ⟨fuel,hf⟩:=h
 obtain ⟨c,ss,hq⟩:=Ze7 hf
 exact ⟨c,ss,by simpa [Value.cells] using hq⟩
variable {c:Cf}
theorem run_in {ss:List Rp.Sp} (h:IsRun w v c ss):Rd.CgIn c:=by
 obtain ⟨cs,u,rfl,hC,_⟩:=h
 exact Rd.cf_in hC
theorem run_pu {ss:List Rp.Sp} (h:IsRun w v c ss):Pu (λ_=>True) w (λb=>b<w.heap.size) (.agg (Rp.cRun c ss)) v:=by
 obtain ⟨cs,u,rfl,hC,hS⟩:=h
 refine Rd.agg_app (Rd.cf_pu (λ_ _ h=>h) hC) (.agg rfl λj hj => ?_)
 match j,hj with
 | 0,_=>exact steps_pu (λ_ _ hb=>hb) hS
end Go.Proofs.YtmpgnibfhjdfpaaGreat
namespace Go.Proofs.YtmpgnibfhjdfpaaGreat
open Go.RowKit Go.Deep Tryz
variable {J:World->Prop}
def Rp.lgR (c:Cf) (ss:List Rp.Sp):Bool:=wideCf c||decide (300<(ss.length:Int))
variable {c:Cf}
theorem Rp.lg_no {ss:List Rp.Sp} (h:Rp.lgR c ss=false):wideCf c=false/\ss.length<=300:=by
 unfold Rp.lgR at h
 rw [Bool.or_eq_false_iff,decide_eq_false_iff_not] at h
 exact ⟨h.1,by omega⟩
set_option maxRecDepth 100000 in
set_option maxHeartbeats 6400000 in
theorem long_c (HI:Rd.CgIn c) {ss:List Rp.Sp}:Ctr Tryz.prog J 5 [.agg (Rp.cRun c ss)] (bv<|Rp.lgR c ss):=by
 refine Zn func5 rfl (pN (Zg<|λX hX=>by rcases List.mem_append.1 hX with h | h;exact Rd.plain_cg c X h;rw [List.mem_singleton.1 h];exact Yj Rp.plain_cSp _) pZ) (n:=12) rfl (by simp)<|λw0 => ?_
 refine jB<|oX 1 (.agg (Rp.cRun c ss))<|oS bF<|jD ?_
 by_cases hs1:(wideCf c)=true
 refine Za<|W2<|oK (Zo (Rd.Wide_c HI) hs1) [.agg (Rd.cCg c)] rfl rfl<|oS bT<|V4<|oF bT<|jE<|Zd results5 (.tmp rfl) ?_
 rw [show Rp.lgR c ss=true from by unfold Rp.lgR;rw [hs1];rfl]
 exact rfl
 have hs1f:(wideCf c)=false:=by simpa using hs1
 refine Za<|W2<|oK (Zo (Rd.Wide_c HI) hs1f) [.agg (Rd.cCg c)] rfl rfl<|oS bF<|oW<|oF (iv ss.length)<|gC (WC rfl rfl) I0 I0<|oF (bv<|decide<|300<(ss.length:Int))<|jE<|Zd results5 (.tmp rfl) ?_
 rw [show Rp.lgR c ss=decide (300<(ss.length:Int)) from by unfold Rp.lgR;rw [hs1f];rfl]
 exact rfl
end Go.Proofs.YtmpgnibfhjdfpaaGreat
namespace Go.Proofs.YtmpgnibfhjdfpaaGreat
open Go.RowKit Go.Deep Go.ChangeShapes Go.WideShapes Go.ChangeAt Go.Joins Tryz
theorem cells_case:Tryz.prog.cellsOf 34=19:=by kernel_rfl
def IsCase (w:World) (v:Value) (q:Fm) (r:Pq) (n t f:Int):Prop :=
 ∃ fs cs:List Value,v = .agg (fs++(cs++[Value.int .i64 n,Value.int .i64 t,Value.int .i64 f])).toArray/\IsFam 0 w (.agg fs.toArray) q/\IsPropX 0 w (.agg cs.toArray) r
variable {w:World}{base:Nat}{cs:List Value}
set_option maxRecDepth 100000 in
theorem ZeP {H:Type} {enc:TypeId × Value->H} {sp:Nat->Bool} {n:Nat} {x:DataW H × List MemPlace} (h:DataW.trod enc Tryz.prog w base sp true n 34 cs=some x) :
 ∃ q r a b d,IsCase w (.agg cs.toArray) q r a b d:=by
 obtain ⟨ys,m,_,_,hlen,_,hf⟩:=DataW.trod_struct underlying34 h
 rw [cells_case] at hlen
 have h0:DataW.trod enc Tryz.prog w base sp true m 27 ((cs.drop 0).take (Tryz.prog.cellsOf 27))=ys[0]? := hf 0 _ rfl
 rw [ZcS] at h0
 have h1:DataW.trod enc Tryz.prog w base sp true m 30 ((cs.drop 10).take (Tryz.prog.cellsOf 30))=ys[1]? := hf 1 _ rfl
 rw [ZcR] at h1
 have h2:DataW.trod enc Tryz.prog w base sp true m 32 ((cs.drop 16).take (Tryz.prog.cellsOf 32))=ys[2]? := hf 2 _ rfl
 rw [ZcQ] at h2
 have hx:∀ i,i<3->∃ y,ys[i]? = some y:=λi hi=>⟨ys[i]'(by simp at *;omega),List.getElem?_eq_getElem _⟩
 obtain ⟨y0,e0⟩:=hx 0 (by omega)
 rw [e0] at h0
 obtain ⟨v,q,rfl,hq⟩:=Zfq h0
 obtain ⟨y1,e1⟩:=hx 1 (by omega)
 rw [e1] at h1
 obtain ⟨v1,r,rfl,hr⟩:=Zdi h1
 obtain ⟨y2,e2⟩:=hx 2 (by omega)
 rw [e2] at h2
 obtain ⟨c0,c1,c2,s1,_,_,_⟩:=ZdY h2
 refine ⟨q,r,c0,c1,c2,cs.take 10,(cs.drop 10).take 6,?_,?_,hr⟩
 ·rw [<- s1]
  have d:(cs.drop 16).take 3=cs.drop 16:=List.take_of_length_le (by rw [List.length_drop,hlen];decide)
  rw [d,show cs.drop 16=(cs.drop 10).drop 6 by rw [List.drop_drop],List.take_append_drop,List.take_append_drop]
 simpa using hq
variable {b0:Nat}{v:Value}
set_option maxRecDepth 100000 in
theorem arg_case {H:Type} {enc:TypeId × Value->H} {r:Reach} {d:DataW H} {p:List MemPlace} (hv:Value.okWide Tryz.prog w r b0 34 v) (h:DataW.Trod enc Tryz.prog w 0 (λ_=>true) true 34 v d p) :
 ∃ q r a b d,IsCase w v q r a b d:=by
 obtain ⟨cs,rfl,_⟩:=okWide_struct underlying34 hv
 obtain ⟨fuel,hf⟩:=h
 obtain ⟨q,r,a,b,d,hq⟩:=ZeP hf
 exact ⟨q,r,a,b,d,by simpa [Value.cells] using hq⟩
variable {n t f:Int}
theorem case_pu {q:Fm} {r:Pq} (h:IsCase w v q r n t f):Pu (λ_=>True) w (λb=>b<w.heap.size) (.agg (cFm q++(cPq r++cSz n t f))) v:=by
 obtain ⟨fs,cs,rfl,hF,hC⟩:=h
 refine Rd.agg_app (famw hF) (Rd.agg_app (prop_pu (λ_ _ h=>h) hC) (.agg rfl λj hj => ?_))
 match j,hj with
 | 0,_=>exact .v _
 | 1,_=>exact .v _
 | 2,_=>exact .v _
end Go.Proofs.YtmpgnibfhjdfpaaGreat
namespace Go.Proofs.YtmpgnibfhjdfpaaGreat
open Go.RowKit Go.Deep Tryz
set_option maxRecDepth 100000
set_option maxHeartbeats 6400000
variable {J:World->Prop}
def Vi.bgC (p:Fm) (q:Pq):Bool:=bigF p||bigQ q
variable {p:Fm}{q:Pq}
theorem Vi.bg_no (h:Vi.bgC p q=false):FamLen p/\PqLen q:=by
 unfold Vi.bgC at h
 rw [Bool.or_eq_false_iff] at h
 exact ⟨famLen h.1,pqLen h.2⟩
variable {n t f:Int}
theorem Zb3 (HP:FmOk p) (HQ:PqOk q) :Ctr Tryz.prog J 4 [.agg (cFm p++(cPq q++cSz n t f))] (bv<|Vi.bgC p q):=by
 refine Zn func4 rfl (pN (Zg<|λX hX=>by rcases List.mem_append.1 hX with h | h;exact Zy p X h;rcases List.mem_append.1 h with h | h;exact Yd q X h;exact ZT n t f X h) pZ) (n:=11) rfl (by simp)<|λw0 => ?_
 refine jB<|oX 1 (.agg (cFm p++(cPq q++cSz n t f)))<|oS bF<|jD ?_
 by_cases hs1:(bigF p)=true
 refine Za<|W2<|oK (Zo (Big_c HP) hs1) [.agg (cFm p)] rfl rfl<|oS bT<|V3<|oF bT<|jE<|Zd results4 (.tmp rfl) ?_
 rw [show Vi.bgC p q=true from by unfold Vi.bgC;rw [hs1];rfl]
 exact rfl
 have hs1f:(bigF p)=false:=by simpa using hs1
 refine Za<|W2<|oK (Zo (Big_c HP) hs1f) [.agg (cFm p)] rfl rfl<|oS bF<|W2<|oK (ZdH HQ) [.agg (cPq q)] rfl rfl<|oF (bv<|bigQ q)<|jE<|Zd results4 (.tmp rfl) ?_
 rw [show Vi.bgC p q=bigQ q from by unfold Vi.bgC;rw [hs1f];rfl]
 exact rfl
variable {c:Cf}
theorem Zdm (HP:FmOk p) (HQ:PqOk q) (HI:Rd.CgIn c) {ss:List Rp.Sp}:Ctr Tryz.prog J 3 [.agg (cFm p++(cPq q++cSz n t f)),.agg (Rp.cRun c ss)] bT:=by
 refine Zn func3 rfl (pN (Zg<|λX hX=>by rcases List.mem_append.1 hX with h | h;exact Zy p X h;rcases List.mem_append.1 h with h | h;exact Yd q X h;exact ZT n t f X h)<|pN (Zg<|λX hX=>by rcases List.mem_append.1 hX with h | h;exact Rd.plain_cg c X h;rw [List.mem_singleton.1 h];exact Yj Rp.plain_cSp _) pZ) (n:=32) rfl (by simp)<|λw0 => ?_
 refine jB<|oX 1 (.agg (cFm p++(cPq q++cSz n t f)))<|oX 2 (.agg (Rp.cRun c ss))<|oS bF<|jD<|Zi ?_
 by_cases hs1:(Vi.bgC p q)=true
 exact Za<|oW<|oK (Zo (Zb3 HP HQ) hs1) [.agg (cFm p++(cPq q++cSz n t f))] rfl rfl<|oS bT<|V2<|oS bT<|jG<|oK Sh.zknown_c [] rfl rfl<|oS bT<|jE<|Zb<|Zd results3 (.tmp rfl)<|rfl
 have hs1f:(Vi.bgC p q)=false:=by simpa using hs1
 by_cases hs2:(Rp.lgR c ss)=true
 exact Za<|oW<|oK (Zo (Zb3 HP HQ) hs1f) [.agg (cFm p++(cPq q++cSz n t f))] rfl rfl<|oS bF<|oW<|oK (Zo (long_c HI) hs2) [.agg (Rp.cRun c ss)] rfl rfl<|oS bT<|jG<|oK Sh.zknown_c [] rfl rfl<|oS bT<|jE<|Zb<|Zd results3 (.tmp rfl)<|rfl
 have hs2f:(Rp.lgR c ss)=false:=by simpa using hs2
 refine Za<|oW<|oK (Zo (Zb3 HP HQ) hs1f) [.agg (cFm p++(cPq q++cSz n t f))] rfl rfl<|oS bF<|oW<|oK (Zo (long_c HI) hs2f) [.agg (Rp.cRun c ss)] rfl rfl<|oS bF<|jF<|Zi ?_
 exact tD<|dW<|dW<|dW<|dW<|dW<|dW<|dW<|dk (IsViol_c HP (Vi.bg_no hs1f).1 HQ (Vi.bg_no hs1f).2 (Rd.cg_ok HI (Rp.lg_no hs2f).1) (Rp.lg_no hs2f).2) [.agg (cFm p),.agg (cPq q),.agg (cSz n t f),.agg (Rp.cRun c ss)] rfl rfl<|dW<|dW<|dW<|dW<|dW<|dW<|dW<|dk (rIsViol_c HP (Vi.bg_no hs1f).1 HQ (Vi.bg_no hs1f).2 (Rd.cg_ok HI (Rp.lg_no hs2f).1) (Rp.lg_no hs2f).2) [.agg (cFm p),.agg (cPq q),.agg (cSz n t f),.agg (Rp.cRun c ss)] rfl rfl<|dC (sp_beql rfl U4<|beq_self_eq_true _) I0 I0<|dS bT<|dk Sh.zknown_c [] rfl rfl<|dW<|dS bT<|eD<|Zf<|ZQ<|Zd results3 (.tmp rfl)<|rfl
theorem Zae {v v2:Value} {ss:List Rp.Sp} (w:World) (h:IsCase w v p q n t f) (hr:IsRun w v2 c ss) :
 Calls Tryz.prog 3 #[v,v2] w λe w'=>e = .returned (.bool true)/\Below w.heap.size w w':=by
 have hp:=case_pu h
 obtain ⟨fs,cs,_,hF,hQ⟩:=h
 exact (Zdm (J:=λ_=>True) hF.ok hQ.ok (run_in hr) w #[v,v2] (λ_ _=>T0) rfl λj hj=>(match j,hj with
  | 0,_=>hp
  | 1,_=>run_pu hr)).mono λ_ _ ⟨_,he,hp,hb⟩=>⟨by rw [he,hp.v_inv],hb⟩
end Go.Proofs.YtmpgnibfhjdfpaaGreat
