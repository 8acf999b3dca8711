import Derived.Test.YtmpgnibfhjdfpaaGreatProg
import Derived.ChangeArms
import Derived.Test.YtmpgnibfhjdfpaaGreatGrphmlokojd
import Derived.Test.YtmpgnibfhjdfpaaGreatGrpcjplndde
import Derived.Test.YtmpgnibfhjdfpaaGreatGrpfeghdkpi
import Derived.Test.YtmpgnibfhjdfpaaGreatGrppoikgaho
import Derived.Test.YtmpgnibfhjdfpaaGreatGrpblkdaogj
import Derived.Test.YtmpgnibfhjdfpaaGreatGrphbjjdkil
import Derived.Test.YtmpgnibfhjdfpaaGreatGrphhmpajpk
import Derived.Test.YtmpgnibfhjdfpaaGreatGrpaggajjjj
import Derived.Test.YtmpgnibfhjdfpaaGreatGrpjhbplalh
import Derived.Test.YtmpgnibfhjdfpaaGreatGrpcdiljnim
import Derived.Test.YtmpgnibfhjdfpaaGreatGrpmgeggbob
import Derived.Test.YtmpgnibfhjdfpaaGreatGrpekedlffa
set_option linter.all false
namespace Go.Proofs.YtmpgnibfhjdfpaaGreat
open Go.RowKit Go.Deep Tryz
set_option maxHeartbeats 12800000
variable {J:World->Prop}
namespace En
theorem place_cx {top c:Int} (h0:0<=c) (h8:c<=8) (xs:Nat->Value):CtrW Tryz.prog J 56 [bx 1000000] 1000000 (.box 97 [.v (xs 0),iv top,.v (xs 2),.v (xs 3),.v (xs 4),.v (xs 5),.v (xs 6),.v (xs 7),.v (xs 8),.v (xs 9),.v (xs 10),.v (xs 11),.v (xs 12),iv c,.v (xs 14),.v (xs 15),.v (xs 16),.v (xs 17),.v (xs 18),.v (xs 19),.v (xs 20),.v (xs 21),.v (xs 22),.v (xs 23),.v (xs 24),.v (xs 25),.v (xs 26),.v (xs 27),.v (xs 28),.v (xs 29),.v (xs 30),nz,nz]) (.box 97 [.v (xs 0),iv top,.v (xs 2),.v (xs 3),.v (xs 4),.v (xs 5),.v (xs 6),.v (xs 7),.v (xs 8),.v (xs 9),.v (xs 10),.v (xs 11),.v (xs 12),iv c,.v (xs 14),.v (xs 15),.v (xs 16),.v (xs 17),.v (xs 18),.v (xs 19),.v (xs 20),.v (xs 21),.v (xs 22),.v (xs 23),.v (xs 24),.v (xs 25),.v (xs 26),.v (xs 27),.v (xs 28),.v (xs 29),.v (xs 30),.fr (slA 1 cLi (Ns.shT top c)),.fr ((lkS top c.toNat))]) (.v (.tuple #[])):=by
 obtain ⟨m,rfl⟩:=Int.eq_ofNat_of_zero_le h0
 exact place_x (by omega) xs
variable {p:Fm}{n t f:Int}
theorem place_mx (b:Nat->AV) (h0:0<=Ns.cntE p n f) (h8:Ns.cntE p n f<=8):∀ xs':Nat->Value,CtrW Tryz.prog J 56 [bx 1000000] 1000000 (.box 97 (maskC [true,false,true,true,true,true,true,true,true,true,true,true,true,false,true,true,true,true,true,true,true,true,true,true,true,true,true,true,true,true,true,false,false] xs' [sv p.nm,iv p.top,ZN p.sz,ZN p.msgs,ZN p.vals,iv p.fzz,slA 4 cLn p.res,Zc p.init,Zc p.lz,slA 18 cRu p.rz,iv n,iv t,iv f,iv (Ns.cntE p n f),iv (n-f),b 0,b 1,b 2,b 3,b 4,b 5,b 6,b 7,b 8,b 9,b 10,b 11,b 12,b 13,b 14,b 15,nz,nz])) (.box 97 (maskC [true,false,true,true,true,true,true,true,true,true,true,true,true,false,true,true,true,true,true,true,true,true,true,true,true,true,true,true,true,true,true,false,false] xs' [sv p.nm,iv p.top,ZN p.sz,ZN p.msgs,ZN p.vals,iv p.fzz,slA 4 cLn p.res,Zc p.init,Zc p.lz,slA 18 cRu p.rz,iv n,iv t,iv f,iv (Ns.cntE p n f),iv (n-f),b 0,b 1,b 2,b 3,b 4,b 5,b 6,b 7,b 8,b 9,b 10,b 11,b 12,b 13,b 14,b 15,.fr (slA 1 cLi (Ns.shT p.top (Ns.cntE p n f))),.fr (En.lkS p.top (Ns.cntE p n f).toNat)])) (.v (.tuple #[])):=λxs=>place_cx h0 h8 xs
end En
variable {p:Fm}{n t f:Int}
set_option maxRecDepth 100000 in
theorem Zfj (HP:FmOk p) (hs:Ns.sysE p n t f=0):CtrA Tryz.prog J 32 [.agg (cFm p),.agg (cSz n t f)] (.tup [.el (En.sysP p n t f) 0,iv 0]):=by
 obtain ⟨hv,ha,h8⟩:=Ns.sys_ok hs
 obtain ⟨hr8,hg2⟩:=Ns.val_lims hv
 have hai:=Ns.adm_in ha
 have hc0:=Ns.cnt_lo (p:=p) hai
 have hc8:=Ns.cnt_hi (p:=p) hai h8
 refine YU func32 rfl (pN (Zg (Zy p)) (pN (Zg (ZT n t f)) pZ)) (n:=80) rfl (by simp) (λw0 => ?_)
 refine jB (oX 1 (.agg (cFm p)) (oX 2 (.agg (cSz n t f)) (oS (.v (.pointer none)) (oS (iv 0) (jD (jB (oW (oK (KP HP) [.agg (cFm p)] rfl rfl (oS (iv (valE p)) (jD (Za (oS (iv (valE p)) (oC (Yg rfl (dT' hv)) I0 I0 (jI (Zj ?_)))))))))))))))
 refine jC (jB (W2 (oK (Zo (Ns.adm_c HP hv) ha) [.agg (cFm p),.agg (cSz n t f)] rfl rfl (oS bF (jF (jM (Za (oF (iv n) (oC (WC rfl (dF h8)) I0 I0 (jF (Zi ?_)))))))))))
 refine Za (oS (.agg (cFm p)) (oS (.agg (cSz n t f)) (oF (iv n) (oF (iv n) (oF (iv f) (oU (n-f) (YA rfl (sp_bldG [0,1,2,3] [.tmp 24,.tmp 25,.tmp 27,.tmp 32] [.agg (cFm p),.agg (cSz n t f),iv n,iv (n-f)] [.inr 0,.inr 1,.inr 2,.inr 3,.inr 4,.inr 5,.inr 6,.inr 7,.inr 8,.inr 9,.inr 10,.inr 11,.inr 12,.inr 13,.inr 14,.inl (.int .i64 0),.inl (.int .i64 0),.inl (.int .i64 0),.inl (.int .i64 0),.inl (.int .i64 0),.inl (.int .i64 0),.inl (.int .i64 0),.inl (.int .i64 0),.inl (.int .i64 0),.inl (.int .i64 0),.inl (.int .i64 0),.inl (.int .i64 0),.inl (.int .i64 0),.inl (.int .i64 0),.inl (.int .i64 0),.inl (.int .i64 0),.inl (.slice none 0 0),.inl (.slice none 0 0)] rfl rfl rfl rfl rfl (λ_=>by kernel_rfl) rfl (ds:=[sv p.nm,iv p.top,ZN p.sz,ZN p.msgs,ZN p.vals,iv p.fzz,slA 4 cLn p.res,Zc p.init,Zc p.lz,slA 18 cRu p.rz,iv n,iv t,iv f,iv n,iv (n-f),iv 0,iv 0,iv 0,iv 0,iv 0,iv 0,iv 0,iv 0,iv 0,iv 0,iv 0,iv 0,iv 0,iv 0,iv 0,iv 0,nz,nz]) rfl) ⟨I0,I0,I0,I0,T0⟩ T0 T0 (oX 3 (.agg [sv p.nm,iv p.top,ZN p.sz,ZN p.msgs,ZN p.vals,iv p.fzz,slA 4 cLn p.res,Zc p.init,Zc p.lz,slA 18 cRu p.rz,iv n,iv t,iv f,iv n,iv (n-f),iv 0,iv 0,iv 0,iv 0,iv 0,iv 0,iv 0,iv 0,iv 0,iv 0,iv 0,iv 0,iv 0,iv 0,iv 0,iv 0,nz,nz]) (oS (bx 3) (jD (jB (oF (iv p.fzz) (oC (ZH rfl rfl) I0 I0 (jA ?_))))))))))))))
 refine Ye (True) (ofL [(1,.box 27 (cFm p)),(2,.box 32 (cSz n t f)),(3,.box 97 [sv p.nm,iv p.top,ZN p.sz,ZN p.msgs,ZN p.vals,iv p.fzz,slA 4 cLn p.res,Zc p.init,Zc p.lz,slA 18 cRu p.rz,iv n,iv t,iv f,iv (Ns.cntE p n f),iv (n-f),iv 0,iv 0,iv 0,iv 0,iv 0,iv 0,iv 0,iv 0,iv 0,iv 0,iv 0,iv 0,iv 0,iv 0,iv 0,iv 0,nz,nz])]) (ofT 80 [(2,bx 1),(3,bx 2),(4,.v (.pointer none)),(5,iv 0),(7,bx 3)]) ?_ (λ_ => ?_)
 by_cases hs1:p.fzz=3
 rw [dT hs1]
 refine ZM rfl (Za (W4 (W3 (oY (kN 80 [(1,.box 27 (cFm p)),(2,.box 32 (cSz n t f)),(3,.box 97 [sv p.nm,iv p.top,ZN p.sz,ZN p.msgs,ZN p.vals,iv p.fzz,slA 4 cLn p.res,Zc p.init,Zc p.lz,slA 18 cRu p.rz,iv n,iv t,iv f,iv (n-f),iv (n-f),iv 0,iv 0,iv 0,iv 0,iv 0,iv 0,iv 0,iv 0,iv 0,iv 0,iv 0,iv 0,iv 0,iv 0,iv 0,iv 0,nz,nz])] [(2,bx 1),(3,bx 2),(4,.v (.pointer none)),(5,iv 0),(7,bx 3)] ?_)))))
 rw [show Ns.cntE p n f=n-f from if_pos hs1]
 exact tM T0
 rw [dF hs1]
 refine Zu rfl (Zj ?_)
 rw [show Ns.cntE p n f=n from if_neg hs1]
 exact tM T0
 refine jC (jB (oF (slA 18 cRu p.rz) (oS (iv p.rz.length) (oS (iv 0) (jA (Zh ?_))))))
 refine Zw (σ:={j:Nat // j<=p.rz.length}) (λs=>(ofL [(2,.box 32 (cSz n t f)),(3,.box 97 (En.sysB p n t f s.1 0 (nz) (nz)))],ofT 80 [(3,bx 2),(4,.v (.pointer none)),(5,iv 0),(7,bx 3),(46,slA 18 cRu p.rz),(47,iv p.rz.length),(48,iv s.1)])) (λs=>p.rz.length-s.1) ⟨0,Nat.zero_le _⟩ (Zk _ _) (λs => ?_)
 obtain ⟨j,hj0⟩:=s
 show ETri J w0 (ofL [(2,.box 32 (cSz n t f)),(3,.box 97 (En.sysB p n t f j 0 (nz) (nz)))]) (ofT 80 [(3,bx 2),(4,.v (.pointer none)),(5,iv 0),(7,bx 3),(46,slA 18 cRu p.rz),(47,iv p.rz.length),(48,iv j)]) _
 refine Zi ?_
 by_cases hs2:(j:Int)<(p.rz.length:Int)
 have hj1:j<p.rz.length:=by omega
 have hgj:=hg2 _ (List.getElem_mem hj1)
 refine Za (ol (dT hs2) (jD (ZM rfl (Zj (jC (Zh (jB (oW (oC (xS (j*18) 46 48 U25) I0 I0 (oA (Zl (z:=18) (.tmp 51) rfl U79 rfl (by kernel_rfl) (ZJ lenRu p.rz j (by omega)) rfl) I0 (oZ 4 Z79 (oS (iv j) (oY (kN 80 [(2,.box 32 (cSz n t f)),(3,.box 97 (En.sysB p n t f j 0 (nz) (nz))),(4,.box 79 (cRu p.rz[j]))] [(3,bx 2),(4,.v (.pointer none)),(5,iv 0),(7,bx 3),(8,iv j),(9,bx 4),(46,slA 18 cRu p.rz),(47,iv p.rz.length),(48,iv j),(49,bT)] (jC (Za (oF (slA 6 cTh p.rz[j].gz) (oS (iv (p.rz[j].gz.length:Nat)) ?_))))))))))))))))))
 refine oS (iv 0) (jA (Zh ?_))
 refine Zw (σ:={k:Nat // k<=p.rz[j].gz.length}) (λs=>(ofL [(2,.box 32 (cSz n t f)),(3,.box 97 (En.sysB p n t f j s.1 (nz) (nz))),(4,.box 79 (cRu p.rz[j]))],ofT 80 [(3,bx 2),(4,.v (.pointer none)),(5,iv 0),(7,bx 3),(8,iv j),(9,bx 4),(46,slA 18 cRu p.rz),(47,iv p.rz.length),(48,iv j),(49,bT),(54,slA 6 cTh p.rz[j].gz),(55,iv (p.rz[j].gz.length:Nat)),(56,iv s.1)])) (λs=>p.rz[j].gz.length-s.1) ⟨0,Nat.zero_le _⟩ (Zk _ _) (λs => ?_)
 obtain ⟨k,hk0⟩:=s
 show ETri J w0 (ofL [(2,.box 32 (cSz n t f)),(3,.box 97 (En.sysB p n t f j k (nz) (nz))),(4,.box 79 (cRu p.rz[j]))]) (ofT 80 [(3,bx 2),(4,.v (.pointer none)),(5,iv 0),(7,bx 3),(8,iv j),(9,bx 4),(46,slA 18 cRu p.rz),(47,iv p.rz.length),(48,iv j),(49,bT),(54,slA 6 cTh p.rz[j].gz),(55,iv (p.rz[j].gz.length:Nat)),(56,iv k)]) _
 refine Zi ?_
 by_cases hs3:(k:Int)<((p.rz[j].gz.length:Nat):Int)
 have hk1:k<p.rz[j].gz.length:=by omega
 refine Za (ol (dT hs3) (jD (ZM rfl (Zj (jC (Zh (jB (oW (oC (xS (k*6) 54 56 U77) I0 I0 (oA (Zl (z:=6) (.tmp 59) rfl U118 rfl (by kernel_rfl) (ZJ lenTh p.rz[j].gz k (by omega)) rfl) I0 (oZ 5 Z118 (oS (iv k) (oY (kN 80 [(2,.box 32 (cSz n t f)),(3,.box 97 (En.sysB p n t f j k (nz) (nz))),(4,.box 79 (cRu p.rz[j])),(5,.box 118 (cTh p.rz[j].gz[k]))] [(3,bx 2),(4,.v (.pointer none)),(5,iv 0),(7,bx 3),(8,iv j),(9,bx 4),(10,iv k),(11,bx 5),(46,slA 18 cRu p.rz),(47,iv p.rz.length),(48,iv j),(49,bT),(54,slA 6 cTh p.rz[j].gz),(55,iv (p.rz[j].gz.length:Nat)),(56,iv k),(57,bT)] (Zf ?_)))))))))))))))
 refine tD (dW (dS (iv j) (dS (iv k) (dW (dW (dW (dk (Ns.Evaluate_c (l:=p.rz[j].gz[k].bd)) [.agg [iv p.rz[j].gz[k].bd.c,iv p.rz[j].gz[k].bd.n,iv p.rz[j].gz[k].bd.t,iv p.rz[j].gz[k].bd.f],.agg (cSz n t f)] rfl rfl (dS (.tup [iv (evN p.rz[j].gz[k].bd.c p.rz[j].gz[k].bd.n p.rz[j].gz[k].bd.t p.rz[j].gz[k].bd.f n t f),iv (evE p.rz[j].gz[k].bd.c p.rz[j].gz[k].bd.n p.rz[j].gz[k].bd.t p.rz[j].gz[k].bd.f n t f)]) (dS (iv (evN p.rz[j].gz[k].bd.c p.rz[j].gz[k].bd.n p.rz[j].gz[k].bd.t p.rz[j].gz[k].bd.f n t f)) (dS (iv (evE p.rz[j].gz[k].bd.c p.rz[j].gz[k].bd.n p.rz[j].gz[k].bd.t p.rz[j].gz[k].bd.f n t f)) (dW (dS (.box 3 15) (dC (Z9 (off':=15+j*2) (.tmp 72) (.tmp 63) rfl U94 (by kernel_rfl) (by omega) (by omega) rfl) I0 I0 (dC (Z9 (off':=15+j*2+k*1) (.tmp 73) (.tmp 64) rfl U93 (by kernel_rfl) (by omega) (by omega) rfl) I0 I0 (dR (Yo (T0:=97) (X:=iv (evN p.rz[j].gz[k].bd.c p.rz[j].gz[k].bd.n p.rz[j].gz[k].bd.t p.rz[j].gz[k].bd.f n t f)) (off:=15+j*2+k*1) (cs:=En.sysB p n t f j k (nz) (nz)) (ds:=En.sysB p n t f j (k+1) (nz) (nz)) (z:=1) (.tmp 74) (.tmp 69) rfl (by kernel_rfl) (by kernel_rfl) (by kernel_rfl) (by rw [En.sysB_len];omega) (En.sysB_step hj1 hr8 hk1 (by omega) rfl)) ⟨I0,I0,T0⟩ ⟨rfl,T0⟩ rfl (eD ?_))))))))))))))))
 refine Zs (Zf (Za (oV ((k+1:Nat):Int) (oS (iv (k+1:Nat)) (jA ?_)))))
 refine Zp ⟨k+1,by omega⟩ (show p.rz[j].gz.length-(k+1)<p.rz[j].gz.length-k by omega) ?_
 exact Zk _ _
 refine Za (ol (dF hs3) (jD (Zu rfl (jO (Zs (Zf (Za (oV ((j+1:Nat):Int) (oS (iv (j+1:Nat)) (jA ?_))))))))))
 refine Zp ⟨j+1,by omega⟩ (show p.rz.length-(j+1)<p.rz.length-j by omega) ?_
 show Wk _ _ (ofL [(2,.box 32 (cSz n t f)),(3,.box 97 (En.sysB p n t f (j+1) 0 (nz) (nz)))]) (ofT 80 [(3,bx 2),(4,.v (.pointer none)),(5,iv 0),(7,bx 3),(46,slA 18 cRu p.rz),(47,iv p.rz.length),(48,iv ((j+1):Nat))])
 rw [En.sysB_row hj1 (by omega:¬ k<p.rz[j].gz.length)]
 exact Zk _ _
 refine Za (ol (dF hs2) (jD (Zu rfl (jO (jC (kW 80 [(3,.box 97 (En.sysB p n t f j 0 (nz) (nz)))] [(4,.v (.pointer none)),(5,iv 0),(7,bx 3)] ?_))))))
 rw [show j=p.rz.length by omega]
 refine Za (oS (bx 3) (YA rfl (sp_callWB (T:=97) (cs:=En.sysB p n t f p.rz.length 0 (nz) (nz)) (ds:=En.sysB p n t f p.rz.length 0 (.fr (slA 1 cLi (Ns.shT p.top (Ns.cntE p n f)))) (.fr ((En.lkS p.top (Ns.cntE p n f).toNat)))) (c := .func 56) (xs := #[.tmp 77]) (k:=3) 1000000 [true,false,true,true,true,true,true,true,true,true,true,true,true,false,true,true,true,true,true,true,true,true,true,true,true,true,true,true,true,true,true,false,false] [] (λxs_=>(En.place_mx (p:=p) (n:=n) (t:=t) (f:=f) (λq=>iv (En.bdP p n t f p.rz.length 0 q)) hc0 hc8 xs_)) rfl (by kernel_rfl) rfl (Xs:=[bx 3]) rfl rfl (Ns.pw1) rfl rfl rfl (Ns.plain_mask (λ_=>by kernel_rfl)) rfl rfl rfl) ⟨I0,I0,T0⟩ ⟨rfl,T0⟩ rfl (jD (Za (oF (bx 3) (oS (iv 0) (jE ?_)))))))
 refine KM [(3,.box 97 (En.sysB p n t f p.rz.length 0 (.fr (slA 1 cLi (Ns.shT p.top (Ns.cntE p n f)))) (.fr ((En.lkS p.top (Ns.cntE p n f).toNat)))))] results32 (.tmp rfl) (.tmp rfl) (by kernel_rfl) rfl rfl rfl ?_ ?_ ?_
 ·exact (show Plain (.el (En.sysP p n t f) 0) from .el (ZE (En.plain_sysP p n t f)))
 ·exact .v _
 kernel_rfl
variable {c:Cf}
theorem En.read_t (HC:Rd.CgOk c) (hx:Rd.rdX p n f c=true):Ctr Tryz.prog J 16 [.el (Ns.sysC p n t f) 0,.agg (Rd.cCg c)] (.tup [.agg (En.cfV (Rd.shI p.top (Ns.shT p.top (Ns.cntE p n f)) c.sh) c),bT]):=by
 have h:=read_c (J:=J) (p:=p) (n:=n) (t:=t) (f:=f) HC
 rw [show Rd.rdY p n f c=true from hx,hx] at h
 exact h
variable {w:World}{cs ds:List AV}{v:Value}
theorem pu_part {F ok:Nat->Prop} {o:Nat} (hl:cs.length=ds.length) (h:∀ (j:Nat) (h1:j<cs.length) (h2:j<ds.length),ds[j]=cs[j]\/ds[j] = .any) (hp:Pu F w ok (.el cs o) v):Pu F w ok (.el ds o) v:=by
 cases hp with
 | el hb hw hf hh =>
   refine .el hb hw (λj hj=>hf j (by omega)) λj hj => ?_
   rcases h j (by omega) hj with e | e
   ·rw [e];exact hh j (by omega)
   rw [e];exact .any _
theorem En.sys_part :(En.sysP p n t f).length=(Ns.sysC p n t f).length/\∀ (j:Nat) (h1:j<(En.sysP p n t f).length) (h2:j<(Ns.sysC p n t f).length),(Ns.sysC p n t f)[j]=(En.sysP p n t f)[j]\/(Ns.sysC p n t f)[j] = .any:=by
 refine ⟨by unfold En.sysP;rw [En.sysB_len];rfl,λj h1 h2 => ?_⟩
 have h3:j<33:=h2
 obtain rfl | rfl | rfl | rfl | rfl | rfl | rfl | rfl | rfl | rfl | rfl | rfl | rfl | rfl | rfl | rfl | rfl | rfl | rfl | rfl | rfl | rfl | rfl | rfl | rfl | rfl | rfl | rfl | rfl | rfl | rfl | rfl | rfl:j=0\/j=1\/j=2\/j=3\/j=4\/j=5\/j=6\/j=7\/j=8\/j=9\/j=10\/j=11\/j=12\/j=13\/j=14\/j=15\/j=16\/j=17\/j=18\/j=19\/j=20\/j=21\/j=22\/j=23\/j=24\/j=25\/j=26\/j=27\/j=28\/j=29\/j=30\/j=31\/j=32:=by omega
 ·exact .inl (by kernel_rfl)
 ·exact .inl (by kernel_rfl)
 ·exact .inl (by kernel_rfl)
 ·exact .inl (by kernel_rfl)
 ·exact .inl (by kernel_rfl)
 ·exact .inl (by kernel_rfl)
 ·exact .inl (by kernel_rfl)
 ·exact .inl (by kernel_rfl)
 ·exact .inl (by kernel_rfl)
 ·exact .inl (by kernel_rfl)
 ·exact .inl (by kernel_rfl)
 ·exact .inl (by kernel_rfl)
 ·exact .inl (by kernel_rfl)
 ·exact .inl (by kernel_rfl)
 ·exact .inl (by kernel_rfl)
 ·exact .inr rfl
 ·exact .inr rfl
 ·exact .inr rfl
 ·exact .inr rfl
 ·exact .inr rfl
 ·exact .inr rfl
 ·exact .inr rfl
 ·exact .inr rfl
 ·exact .inr rfl
 ·exact .inr rfl
 ·exact .inr rfl
 ·exact .inr rfl
 ·exact .inr rfl
 ·exact .inr rfl
 ·exact .inr rfl
 ·exact .inr rfl
 ·exact .inl (by kernel_rfl)
 exact .inr rfl
theorem En.read_p (HC:Rd.CgOk c) (hx:Rd.rdX p n f c=true):Ctr Tryz.prog J 16 [.el (En.sysP p n t f) 0,.agg (Rd.cCg c)] (.tup [.agg (En.cfV (Rd.shI p.top (Ns.shT p.top (Ns.cntE p n f)) c.sh) c),bT]):=by
 intro w vs hJ hl hv
 refine En.read_t (J:=J) (p:=p) (n:=n) (t:=t) (f:=f) HC hx w vs hJ hl λj hj => ?_
 match j,hj with
 | 0,_=>exact pu_part En.sys_part.1 En.sys_part.2 (hv 0 (by simp))
 | 1,_=>exact hv 1 (by simp)
theorem En.read_q (HC:Rd.CgOk c) (hx:Rd.rdX p n f c=false):Ctr Tryz.prog J 16 [.el (En.sysP p n t f) 0,.agg (Rd.cCg c)] (.tup [.agg (Rd.cfZ false (Rd.shI p.top (Ns.shT p.top (Ns.cntE p n f)) c.sh) c),bF]):=by
 intro w vs hJ hl hv
 have h:=read_c (J:=J) (p:=p) (n:=n) (t:=t) (f:=f) HC w vs hJ hl λj hj => ?_
 ·rw [show Rd.rdY p n f c=false from hx,hx] at h
  exact h
 match j,hj with
 | 0,_=>exact pu_part En.sys_part.1 En.sys_part.2 (hv 0 (by simp))
 | 1,_=>exact hv 1 (by simp)
set_option maxRecDepth 100000
set_option maxHeartbeats 6400000
variable {m:Nat}{x:Int}
theorem ZaE (hn:(Ns.cntE p n f)=(m:Int)) :Ctr Tryz.prog J 64 [.el (En.sysP p n t f) 0,iv x] (bv<|En.isP m x):=by
 refine Zn func64 rfl (pN (show Plain (.el (En.sysP p n t f) 0) from .el (ZE<|En.plain_sysP p n t f))<|pN (.v _) pZ) (n:=15) rfl (by simp)<|λw0 => jB<|oS bF<|jD ?_
 by_cases hs1:0<=x
 refine Za<|oW<|oh (dT hs1)<|oS bT<|oS (iv x)<|W2<|oF (iv<|Ns.cntE p n f)<|gC (Zcq rfl rfl) I0 I0<|oF (bv<|decide<|x<(Ns.cntE p n f))<|jE<|Zd results64 (.tmp rfl) ?_
 exact cB<|(by unfold En.isP;rw [<- hn];simp only [hs1,decide_true,decide_false,Bool.and_true,Bool.true_and,Bool.false_and,Bool.and_false,Bool.true_or,Bool.false_or,Bool.or_true,Bool.or_false,Bool.not_true,Bool.not_false])
 refine Za<|oW<|oh (dF hs1)<|oS bF<|V5<|qK<|oF bF<|jE<|Zd results64 (.tmp rfl) ?_
 exact cB<|(by unfold En.isP;rw [<- hn];simp only [hs1,decide_true,decide_false,Bool.and_true,Bool.true_and,Bool.false_and,Bool.and_false,Bool.true_or,Bool.false_or,Bool.or_true,Bool.or_false,Bool.not_true,Bool.not_false])
variable {r:Nat}
theorem ZbY (hr:r<p.rz.length):Ctr Tryz.prog J 69 [.el (p.rz.flatMap cRu) (r*18)] (bv<|decide (p.rz[r].kind=2)||decide (p.rz[r].kind=5)):=by
 refine Zn func69 rfl (pN (.el (ZE λX hX=>by obtain ⟨x,_,hx⟩:=List.mem_flatMap.1 hX;exact Yr x X hx)) pZ) (n:=15) rfl (by simp)<|λw0 => ?_
 refine jB<|oS bF<|jD ?_
 by_cases hs1:p.rz[r].kind=2
 exact Za<|W3<|oL (iv p.rz[r].kind) (fT lenRu p.rz r 1)<|oe (dT hs1)<|oS bT<|V5<|oF bT<|jE<|Zd results69 (.tmp rfl)<|cB<|(by simp only [hs1,decide_true,decide_false,Bool.and_true,Bool.true_and,Bool.false_and,Bool.and_false,Bool.true_or,Bool.false_or,Bool.or_true,Bool.or_false,Bool.not_true,Bool.not_false])
 exact Za<|W3<|oL (iv p.rz[r].kind) (fT lenRu p.rz r 1)<|oe (dF hs1)<|oS bF<|W3<|oL (iv p.rz[r].kind) (fT lenRu p.rz r 1)<|gC (ZH rfl rfl) I0 I0<|oF (bv<|decide<|p.rz[r].kind=5)<|jE<|Zd results69 (.tmp rfl)<|cB<|(by simp only [hs1,decide_true,decide_false,Bool.and_true,Bool.true_and,Bool.false_and,Bool.and_false,Bool.true_or,Bool.false_or,Bool.or_true,Bool.or_false,Bool.not_true,Bool.not_false])
abbrev ZfH (x0:Fm) (x1:Int) (x2:Cf) (x3:Nat):List (Nat × ABlk):=[(1,.box 60 [iv 0,iv 0,iv 0]),(2,.box 60 (En.msA (En.hdJ x0 x1 x2 (x3+1))))]
abbrev ZfG (x0:Fm) (x1:Int) (x2:Int) (x3:Int) (x4:Int) (x5:Cf) (x6:Nat):List (Nat × AV):=[(0,.el (En.sysP x0 x1 x2 x3) 0),(3,.el (En.cfV x4 x5) 0),(4,bx 1),(5,bx 2),(14,iv x0.msgs.length),(15,iv ((x6+1):Nat))]
variable {sx:Int}
theorem Zfn (hc:En.CfV p n f c) (hf:0<=f/\f<=1048576) (h3:p.msgs.length<=3) :Ctr Tryz.prog J 38 [.el (En.sysP p n t f) 0,.agg (En.cfV sx c)] (.agg (En.msA<|En.hdJ p f c p.msgs.length)):=by
 refine Zn func38 rfl (pN (show Plain (.el (En.sysP p n t f) 0) from .el (ZE<|En.plain_sysP p n t f))<|pN (Zg<|En.plain_cfV _ c) pZ) (n:=49) rfl (by simp)<|λw0 => ?_
 refine jB<|oA (ZC (X := .agg (En.cfV sx c)) (.tmp 1) rfl rfl rfl) I0<|oZ 1 Z60<|jD<|Za<|oS (.el (En.cfV sx c) 9)<|oA (Zl (z:=3) (ds:=[iv (c.se.getD 0 0),iv (c.se.getD 1 0),iv (c.se.getD 2 0)]) (.tmp 7) rfl U60 rfl (by kernel_rfl) (by kernel_rfl) rfl) I0<|oZ 2 Z60<|oY<|kN 49 [(1,.box 60 [iv 0,iv 0,iv 0]),(2,.box 60 [iv (c.se.getD 0 0),iv (c.se.getD 1 0),iv (c.se.getD 2 0)])] [(0,.el (En.sysP p n t f) 0),(3,.el (En.cfV sx c) 0),(4,bx 1),(5,bx 2)]<|jC<|jB<|W4<|oF (iv p.msgs.length)<|oS (iv 0)<|ZL<|Zf<|Zh ?_
 refine Zw (σ:={j:Nat // j<=p.msgs.length}) (λs=>(ofL [(1,.box 60 [iv 0,iv 0,iv 0]),(2,.box 60 (En.msA<|En.hdJ p f c s.1))],ofT 49 [(0,.el (En.sysP p n t f) 0),(3,.el (En.cfV sx c) 0),(4,bx 1),(5,bx 2),(14,iv p.msgs.length),(15,iv s.1)])) (λs=>p.msgs.length-s.1) ⟨0,Nat.zero_le _⟩ (Zk _ _)<|λs => ?_
 obtain ⟨j,hj0⟩:=s
 show ETri J w0 (ofL [(1,.box 60 [iv 0,iv 0,iv 0]),(2,.box 60 (En.msA<|En.hdJ p f c j))]) (ofT 49 [(0,.el (En.sysP p n t f) 0),(3,.el (En.cfV sx c) 0),(4,bx 1),(5,bx 2),(14,iv p.msgs.length),(15,iv j)]) _
 refine Zi ?_
 by_cases hs1:(j:Int)<(p.msgs.length:Int)
 have hj1:j<3:=by omega
 have hb1:=En.hdJ_in hc hf j j
 have hb2:=hc.fa_at j
 refine Za<|ol (dT hs1)<|jD<|ZM rfl<|Zj<|jC<|Zh<|jB<|oF (iv j)<|jD<|Za<|W3<|oF (iv p.fzz)<|jA<|Zh<|jM ?_
 by_cases hs2:p.fzz=1
 refine Za<|oe (dT hs2)<|oS bT<|jH<|Zj<|Zf<|ZM rfl ?_
 refine tD<|dS (iv j)<|dC (Z9 (off':=0+j*1) (.tmp 5) (.tmp 26) rfl U60 (by kernel_rfl) (by omega) (by omega) rfl) I0 I0<|dB (lB (.box 60 (En.msA<|En.hdJ p f c j)) (iv<|En.hdJ p f c j j) (.tmp 27) rfl U3 rfl<|En.msA_get<|by omega) I0 rfl<|dS (iv j)<|dS (.el (En.cfV sx c) 12)<|dC (ZV (off':=12+j*1) (.tmp 30) (.tmp 29) rfl U60 (by kernel_rfl) (by omega) (by omega) rfl) I0 I0<|dA (lE (iv<|c.fa.getD j 0) 31 U3<|En.cfV_fa<|by omega) I0<|dC (WH (c:=(En.hdJ p f c j j)+(c.fa.getD j 0)) rfl<|w64 (by omega) (by omega)<|by omega) I0 I0<|dC (Z9 (off':=0+j*1) (.tmp 5) (.tmp 26) rfl U60 (by kernel_rfl) (by omega) (by omega) rfl) I0 I0<|dR (Yo (T0:=60) (X:=iv ((En.hdJ p f c j j)+(c.fa.getD j 0))) (off:=0+j*1) (cs:=En.msA (En.hdJ p f c j)) (ds:=En.msA (En.hdJ p f c<|j+1)) (z:=1) (.tmp 34) (.tmp 33) rfl (by kernel_rfl) (by kernel_rfl) (by kernel_rfl) (by show _<=3;omega)<|En.msA_step (by omega)<|En.hd_12<|.inl hs2) ⟨I0,I0,T0⟩ ⟨rfl,T0⟩ rfl<|eD ?_
 refine Zs<|Zs<|Zf<|Za<|oV ((j+1:Nat):Int)<|oS (iv (j+1:Nat))<|jA<|Zp ⟨j+1,by omega⟩ (show p.msgs.length-(j+1)<p.msgs.length-j by omega) ?_
 show Wk _ _ (ofL<|ZfH p f c j) (ofT 49<|ZfG p n t f sx c j)
 exact Zk _ _
 refine Za<|oe (dF hs2)<|oS bF<|jI ?_
 by_cases hs3:p.fzz=2
 refine Za<|oe (dT hs3)<|oS bT<|jH ?_
 refine tD<|dS (iv j)<|dC (Z9 (off':=0+j*1) (.tmp 5) (.tmp 26) rfl U60 (by kernel_rfl) (by omega) (by omega) rfl) I0 I0<|dB (lB (.box 60 (En.msA<|En.hdJ p f c j)) (iv<|En.hdJ p f c j j) (.tmp 27) rfl U3 rfl<|En.msA_get<|by omega) I0 rfl<|dS (iv j)<|dS (.el (En.cfV sx c) 12)<|dC (ZV (off':=12+j*1) (.tmp 30) (.tmp 29) rfl U60 (by kernel_rfl) (by omega) (by omega) rfl) I0 I0<|dA (lE (iv<|c.fa.getD j 0) 31 U3<|En.cfV_fa<|by omega) I0<|dC (WH (c:=(En.hdJ p f c j j)+(c.fa.getD j 0)) rfl<|w64 (by omega) (by omega)<|by omega) I0 I0<|dC (Z9 (off':=0+j*1) (.tmp 5) (.tmp 26) rfl U60 (by kernel_rfl) (by omega) (by omega) rfl) I0 I0<|dR (Yo (T0:=60) (X:=iv ((En.hdJ p f c j j)+(c.fa.getD j 0))) (off:=0+j*1) (cs:=En.msA (En.hdJ p f c j)) (ds:=En.msA (En.hdJ p f c<|j+1)) (z:=1) (.tmp 34) (.tmp 33) rfl (by kernel_rfl) (by kernel_rfl) (by kernel_rfl) (by show _<=3;omega)<|En.msA_step (by omega)<|En.hd_12<|.inr hs3) ⟨I0,I0,T0⟩ ⟨rfl,T0⟩ rfl<|eD ?_
 refine Zs<|Zs<|Zf<|Za<|oV ((j+1:Nat):Int)<|oS (iv (j+1:Nat))<|jA<|Zp ⟨j+1,by omega⟩ (show p.msgs.length-(j+1)<p.msgs.length-j by omega) ?_
 show Wk _ _ (ofL<|ZfH p f c j) (ofT 49<|ZfG p n t f sx c j)
 exact Zk _ _
 refine Za<|oe (dF hs3)<|oS bF<|jI<|Zi ?_
 by_cases hs4:p.fzz=3
 refine Za<|oe (dT hs4)<|oS bT<|jH ?_
 refine tD<|dS (iv j)<|dC (Z9 (off':=0+j*1) (.tmp 5) (.tmp 37) rfl U60 (by kernel_rfl) (by omega) (by omega) rfl) I0 I0<|dB (lB (.box 60 (En.msA<|En.hdJ p f c j)) (iv<|En.hdJ p f c j j) (.tmp 38) rfl U3 rfl<|En.msA_get<|by omega) I0 rfl<|dW<|dW<|dW<|dW<|dS (iv f)<|dC (WH (c:=(En.hdJ p f c j j)+f) rfl<|w64 (by omega) (by omega)<|by omega) I0 I0<|dC (Z9 (off':=0+j*1) (.tmp 5) (.tmp 37) rfl U60 (by kernel_rfl) (by omega) (by omega) rfl) I0 I0<|dR (Yo (T0:=60) (X:=iv ((En.hdJ p f c j j)+f)) (off:=0+j*1) (cs:=En.msA (En.hdJ p f c j)) (ds:=En.msA (En.hdJ p f c<|j+1)) (z:=1) (.tmp 46) (.tmp 45) rfl (by kernel_rfl) (by kernel_rfl) (by kernel_rfl) (by show _<=3;omega)<|En.msA_step (by omega)<|En.hd_3 hs2 hs3 hs4) ⟨I0,I0,T0⟩ ⟨rfl,T0⟩ rfl<|eD ?_
 refine Zs<|Zs<|Zf<|Za<|oV ((j+1:Nat):Int)<|oS (iv (j+1:Nat))<|jA<|Zp ⟨j+1,by omega⟩ (show p.msgs.length-(j+1)<p.msgs.length-j by omega) ?_
 show Wk _ _ (ofL<|ZfH p f c j) (ofT 49<|ZfG p n t f sx c j)
 exact Zk _ _
 refine Za<|oe (dF hs4)<|oS bF<|jI<|Zj<|Zs<|Zs<|Zf<|Za<|oV ((j+1:Nat):Int)<|oS (iv (j+1:Nat))<|jA<|Zp ⟨j+1,by omega⟩ (show p.msgs.length-(j+1)<p.msgs.length-j by omega) ?_
 show Wk _ _ (ofL [(1,.box 60 [iv 0,iv 0,iv 0]),(2,.box 60 (En.msA<|En.hdJ p f c<|j+1))]) (ofT 49 [(0,.el (En.sysP p n t f) 0),(3,.el (En.cfV sx c) 0),(4,bx 1),(5,bx 2),(14,iv p.msgs.length),(15,iv ((j+1):Nat))])
 rw [En.hdJ_skip hs2 hs3 hs4]
 exact Zk _ _
 refine Za<|ol (dF hs1)<|jD<|Zu rfl<|jO<|jC<|Za<|oW<|oY<|kN 49 [(1,.box 60 (En.msA<|En.hdJ p f c j))] [(4,bx 1)]<|Zf<|ZQ<|Zd results38 (.cellS rfl rfl U60 rfl (z:=3) (by kernel_rfl) rfl (by decide)) ?_
 obtain hje:j=p.msgs.length:=by omega
 rw [hje]
 exact rfl
theorem En.or_t {a b:Prop} [Decidable a] [Decidable b] (h:(decide a||decide b)=true):a\/b:=by simpa using h
theorem En.or_f {a b:Prop} [Decidable a] [Decidable b] (h:(decide a||decide b)=false):¬ (a\/b):=by simpa using h
theorem En.isP_in (h:En.isP m x=true):0<=x/\x<(m:Int):=by
 unfold En.isP at h
 simpa using h
variable {i:Nat}{kp:Int}
set_option maxRecDepth 100000 in
set_option maxHeartbeats 6400000 in
theorem ZcF (hn:(Ns.cntE p n f)=(c.st.length:Int)) (l8:c.st.length<=8) (hr:r<p.rz.length) (hi:i<c.st.length) :Ctr Tryz.prog J 65 [.el (En.sysP p n t f) 0,.agg (En.cfV sx c),.el (p.rz.flatMap cRu) (r*18),.agg [iv r,iv i,iv kp]] (bv<|En.ptB c p.rz[r] i kp):=by
 refine Zn func65 rfl (pN (show Plain (.el (En.sysP p n t f) 0) from .el (ZE<|En.plain_sysP p n t f))<|pN (Zg<|En.plain_cfV _ c)<|pN (.el (ZE λX hX=>by obtain ⟨x,_,hx⟩:=List.mem_flatMap.1 hX;exact Yr x X hx))<|pN (Zg<|pN (.v _)<|pN (.v _)<|pN (.v _) pZ) pZ) (n:=38) rfl (by simp)<|λw0 => ?_
 refine jB<|oA (ZC (X := .agg (En.cfV sx c)) (.tmp 1) rfl rfl rfl) I0<|oA (ZC (X := .agg [iv r,iv i,iv kp]) (.tmp 3) rfl rfl rfl) I0<|oS bF<|jD<|Zi ?_
 by_cases hs1:(decide (p.rz[r].kind=2)||decide (p.rz[r].kind=5))=true
 refine Za<|oW<|oK (Zo (ZbY hr) hs1) [.el (p.rz.flatMap cRu) (r*18)] rfl rfl<|oS bF<|jF<|Zi ?_
 by_cases hs2:(En.isP c.st.length kp)=true
 have hk0:=En.isP_in hs2
 by_cases hs3:kp=(i:Int)
 refine tD<|dW<|dW<|dW<|dk (Zo (ZaE hn) hs2) [.el (En.sysP p n t f) 0,iv kp] rfl rfl<|dS bT<|dW<|dW<|dW<|dW<|dn (dT' hs3)<|dW<|dS bF<|dK<|dK<|dK<|dK<|dK<|dK<|dK<|dK<|dK<|dK<|dW<|dS bF<|eD<|Zf<|ZQ<|Zd results65 (.tmp rfl) ?_
 rw [show En.ptB c p.rz[r] i kp=_ from if_pos (En.or_t hs1)]
 exact cB<|(by simp only [hs2,hs3,decide_true,decide_false,Bool.and_true,Bool.true_and,Bool.false_and,Bool.and_false,Bool.true_or,Bool.false_or,Bool.or_true,Bool.or_false,Bool.not_true,Bool.not_false])
 refine tD<|dW<|dW<|dW<|dk (Zo (ZaE hn) hs2) [.el (En.sysP p n t f) 0,iv kp] rfl rfl<|dS bT<|dW<|dW<|dW<|dW<|dn (dF' hs3)<|dW<|dS bT<|dW<|dS (iv kp)<|dS (.el (En.cfV sx c) 1)<|dC (ZV (off':=1+kp.toNat*1) (.tmp 29) (.tmp 28) rfl U58 (by kernel_rfl) (by omega) (by omega) rfl) I0 I0<|dA (lE (iv<|c.st.getD kp.toNat 0) 30 U3<|En.cfV_st<|by omega) I0<|dW<|dW<|dW<|dL (iv p.rz[r].pf) (fT lenRu p.rz r 4)<|dC (ZH rfl rfl) I0 I0<|dW<|dS (bv<|decide<|(c.st.getD kp.toNat 0)=p.rz[r].pf)<|eD<|Zf<|ZQ<|Zd results65 (.tmp rfl) ?_
 rw [show En.ptB c p.rz[r] i kp=_ from if_pos (En.or_t hs1)]
 exact cB<|(by simp only [hs2,hs3,decide_true,decide_false,Bool.and_true,Bool.true_and,Bool.false_and,Bool.and_false,Bool.true_or,Bool.false_or,Bool.or_true,Bool.or_false,Bool.not_true,Bool.not_false])
 have hs2f:(En.isP c.st.length kp)=false:=by simpa using hs2
 refine tD<|dW<|dW<|dW<|dk (Zo (ZaE hn) hs2f) [.el (En.sysP p n t f) 0,iv kp] rfl rfl<|dS bF<|dK<|dK<|dK<|dK<|dK<|dW<|dS bF<|dK<|dK<|dK<|dK<|dK<|dK<|dK<|dK<|dK<|dK<|dW<|dS bF<|eD<|Zf<|ZQ<|Zd results65 (.tmp rfl) ?_
 rw [show En.ptB c p.rz[r] i kp=_ from if_pos (En.or_t hs1)]
 exact cB<|(by simp only [hs2f,decide_true,decide_false,Bool.and_true,Bool.true_and,Bool.false_and,Bool.and_false,Bool.true_or,Bool.false_or,Bool.or_true,Bool.or_false,Bool.not_true,Bool.not_false])
 have hs1f:(decide (p.rz[r].kind=2)||decide (p.rz[r].kind=5))=false:=by simpa using hs1
 refine Za<|oW<|oK (Zo (ZbY hr) hs1f) [.el (p.rz.flatMap cRu) (r*18)] rfl rfl<|oS bT<|jG<|oF (iv kp)<|oC (ZH rfl rfl) I0 I0<|oS (bv<|decide<|kp=(-1))<|jE<|Zb<|Zd results65 (.tmp rfl) ?_
 rw [show En.ptB c p.rz[r] i kp=_ from if_neg (En.or_f hs1f)]
 exact rfl
set_option maxRecDepth 100000 in
set_option maxHeartbeats 6400000 in
theorem localH_c (hn:(Ns.cntE p n f)=(c.st.length:Int)) (l8:c.st.length<=8) (hr:r<p.rz.length) (hi:i<c.st.length) {g:Nat->Int} (hg:∀ m,0<=g m/\g m<=3000000) (h8:p.rz.length<=8) (h3:p.msgs.length<=3) (hg2:p.rz[r].gz.length<=2) (hgd:∀ q∈p.rz[r].gz,0<=q.msg/\q.msg<p.msgs.length/\1<=q.coef/\q.coef<=100) (le:p.rz[r].ex.length<=9223372036854775807) (lf:p.rz[r].fa.length<=9223372036854775807):Ctr Tryz.prog J 66 [.el (En.sysP p n t f) 0,.agg (En.cfV sx c),.agg [iv r,iv i,iv kp],.agg (En.msA g)] (bv<|En.loB n t f c p.rz[r] g i):=by
 refine Zn func66 rfl (pN (show Plain (.el (En.sysP p n t f) 0) from .el (ZE<|En.plain_sysP p n t f))<|pN (Zg<|En.plain_cfV _ c)<|pN (Zg<|pN (.v _)<|pN (.v _)<|pN (.v _) pZ)<|pN (Zg<|En.plain_msA _) pZ) (n:=113) rfl (by simp)<|λw0 => jB<|oA (ZC (X := .agg (En.cfV sx c)) (.tmp 1) rfl rfl rfl) I0<|oA (ZC (X := .agg [iv r,iv i,iv kp]) (.tmp 2) rfl rfl rfl) I0<|oA (ZC (X := .agg (En.msA g)) (.tmp 3) rfl rfl rfl) I0<|oS bF<|jD<|tD<|dW<|dW<|dW<|dW<|dS (slA 18 cRu p.rz)<|dW<|dS (iv r)<|dC (xS (r*18) 19 21 U25) I0 I0<|dS (.el (p.rz.flatMap cRu) (r*18))<|eD<|jC<|Zi ?_
 refine Ye (True) (ofL []) (ofT 113 [(0,.el (En.sysP p n t f) 0),(5,.el (En.cfV sx c) 0),(6,.el ([iv r,iv i,iv kp]) 0),(7,.el (En.msA g) 0),(8,bF),(9,.el (p.rz.flatMap cRu) (r*18)),(36,bv (En.rdN c p.rz[r]))]) ?_<|λ_ => ?_
 by_cases hs1:0<=p.rz[r].rd
 by_cases hs2:c.val=p.rz[r].rd
 refine tD<|dW<|dW<|dW<|dL (iv p.rz[r].rd) (fT lenRu p.rz r 10)<|dh (dT hs1)<|dS bT<|dW<|dW<|dW<|dW<|dW<|dL (iv p.rz[r].rd) (fT lenRu p.rz r 10)<|dn (dT' hs2)<|dS bF<|eD<|kW 113 [] [(0,.el (En.sysP p n t f) 0),(5,.el (En.cfV sx c) 0),(6,.el ([iv r,iv i,iv kp]) 0),(7,.el (En.msA g) 0),(8,bF),(9,.el (p.rz.flatMap cRu) (r*18)),(36,bF)] ?_
 rw [show (En.rdN c p.rz[r])=false by unfold En.rdN;simp only [dT hs1,dT hs2,decide_true,decide_false,Bool.and_true,Bool.true_and,Bool.false_and,Bool.and_false,Bool.true_or,Bool.false_or,Bool.or_true,Bool.or_false,Bool.not_true,Bool.not_false]]
 exact YN T0<|Zk [] _
 refine tD<|dW<|dW<|dW<|dL (iv p.rz[r].rd) (fT lenRu p.rz r 10)<|dh (dT hs1)<|dS bT<|dW<|dW<|dW<|dW<|dW<|dL (iv p.rz[r].rd) (fT lenRu p.rz r 10)<|dn (dF' hs2)<|dS bT<|eD<|kW 113 [] [(0,.el (En.sysP p n t f) 0),(5,.el (En.cfV sx c) 0),(6,.el ([iv r,iv i,iv kp]) 0),(7,.el (En.msA g) 0),(8,bF),(9,.el (p.rz.flatMap cRu) (r*18)),(36,bT)] ?_
 rw [show (En.rdN c p.rz[r])=true by unfold En.rdN;simp only [dT hs1,dF hs2,decide_true,decide_false,Bool.and_true,Bool.true_and,Bool.false_and,Bool.and_false,Bool.true_or,Bool.false_or,Bool.or_true,Bool.or_false,Bool.not_true,Bool.not_false]]
 exact YN T0<|Zk [] _
 refine tD<|dW<|dW<|dW<|dL (iv p.rz[r].rd) (fT lenRu p.rz r 10)<|dh (dF hs1)<|dS bF<|dK<|dK<|dK<|dK<|dK<|dK<|dK<|dS bF<|eD<|kW 113 [] [(0,.el (En.sysP p n t f) 0),(5,.el (En.cfV sx c) 0),(6,.el ([iv r,iv i,iv kp]) 0),(7,.el (En.msA g) 0),(8,bF),(9,.el (p.rz.flatMap cRu) (r*18)),(36,bF)] ?_
 rw [show (En.rdN c p.rz[r])=false by unfold En.rdN;simp only [dF hs1,decide_true,decide_false,Bool.and_true,Bool.true_and,Bool.false_and,Bool.and_false,Bool.true_or,Bool.false_or,Bool.or_true,Bool.or_false,Bool.not_true,Bool.not_false]]
 exact YN T0<|Zk [] _
 refine Zf ?_
 by_cases hs3:(En.rdN c p.rz[r])=true
 rw [hs3]
 exact jK<|oS bF<|jE<|Zb<|Zd results66 (.tmp rfl)<|cB<|(En.lo_rd hs3).symm
 have hs3f:(En.rdN c p.rz[r])=false:=by simpa using hs3
 rw [hs3f]
 refine jL<|jM<|Za<|W3<|oL (slA 6 cTh p.rz[r].gz) (fT lenRu p.rz r 7)<|oS (iv (p.rz[r].gz.length:Nat))<|oS (iv 0)<|jA<|Zh<|Zw (σ:={k:Nat // k<=p.rz[r].gz.length/\Rd.noP p.rz[r].gz (En.gdN n t f g) k}) (λs=>(ofL [],ofT 113 [(0,.el (En.sysP p n t f) 0),(5,.el (En.cfV sx c) 0),(6,.el ([iv r,iv i,iv kp]) 0),(7,.el (En.msA g) 0),(9,.el (p.rz.flatMap cRu) (r*18)),(40,slA 6 cTh p.rz[r].gz),(41,iv (p.rz[r].gz.length:Nat)),(42,iv s.1)])) (λs=>p.rz[r].gz.length-s.1) ⟨0,Nat.zero_le _,Rd.noP_zero _ _⟩ (Zk [] _)<|λs => ?_
 obtain ⟨k,hk0,hs0⟩:=s
 show ETri J w0 (ofL []) (ofT 113 [(0,.el (En.sysP p n t f) 0),(5,.el (En.cfV sx c) 0),(6,.el ([iv r,iv i,iv kp]) 0),(7,.el (En.msA g) 0),(9,.el (p.rz.flatMap cRu) (r*18)),(40,slA 6 cTh p.rz[r].gz),(41,iv (p.rz[r].gz.length:Nat)),(42,iv k)]) _
 refine Zi ?_
 by_cases hs4:(k:Int)<((p.rz[r].gz.length:Nat):Int)
 have hk1:k<p.rz[r].gz.length:=by omega
 have hgk:=hgd _<|List.getElem_mem hk1
 have hgb:=hg p.rz[r].gz[k].msg.toNat
 refine Za<|ol (dT hs4)<|jD<|ZM rfl<|Zj<|jC<|Zh<|jB<|oW<|oC (xS (k*6) 40 42 U77) I0 I0<|oA (Zl (z:=6) (.tmp 45) rfl U118 rfl (by kernel_rfl) (ZJ lenTh p.rz[r].gz k (by omega)) rfl) I0<|oZ 1 Z118<|oS (iv k)<|oY<|kN 113 [(1,.box 118 (cTh p.rz[r].gz[k]))] [(0,.el (En.sysP p n t f) 0),(5,.el (En.cfV sx c) 0),(6,.el ([iv r,iv i,iv kp]) 0),(7,.el (En.msA g) 0),(9,.el (p.rz.flatMap cRu) (r*18)),(10,iv k),(11,bx 1),(40,slA 6 cTh p.rz[r].gz),(41,iv (p.rz[r].gz.length:Nat)),(42,iv k),(43,bT)]<|jC ?_
 by_cases hs5:p.rz[r].gz[k].coef*(g p.rz[r].gz[k].msg.toNat)<(En.gbV p.rz[r] n t f k)
 refine tD<|dW<|dS (iv p.rz[r].gz[k].coef)<|dW<|dS (iv p.rz[r].gz[k].msg)<|dC (ZV (off':=0+p.rz[r].gz[k].msg.toNat*1) (.tmp 7) (.tmp 50) rfl U60 (by kernel_rfl) (by omega) (by omega) rfl) I0 I0<|dA (lE (iv<|g p.rz[r].gz[k].msg.toNat) 51 U3<|En.msA_get<|by omega) I0<|dC (sp_mul (c:=p.rz[r].gz[k].coef*(g p.rz[r].gz[k].msg.toNat)) rfl<|En.mulW hgk.2.2.1 hgk.2.2.2 hgb.1 hgb.2) I0 I0<|dW<|dW<|dS (iv r)<|dS (iv k)<|dW<|dS (.el (En.sysP p n t f) 15)<|dC (ZV (off':=15+r*2) (.tmp 59) (.tmp 56) rfl U94 (by kernel_rfl) (by omega) (by omega) rfl) I0 I0<|dC (ZV (off':=15+r*2+k*1) (.tmp 60) (.tmp 57) rfl U93 (by kernel_rfl) (by omega) (by omega) rfl) I0 I0<|dA (lE (iv<|En.gbV p.rz[r] n t f k) 61 U3<|En.sysP_bd hr h8 hk1 hg2) I0<|dl (dT hs5)<|eD ?_
 exact Zf<|jK<|oS bF<|jE<|Ze<|Zb<|Zb<|Ze<|Zb<|Zd results66 (.tmp rfl)<|cB<|(En.lo_gd hk1 hs5).symm
 refine tD<|dW<|dS (iv p.rz[r].gz[k].coef)<|dW<|dS (iv p.rz[r].gz[k].msg)<|dC (ZV (off':=0+p.rz[r].gz[k].msg.toNat*1) (.tmp 7) (.tmp 50) rfl U60 (by kernel_rfl) (by omega) (by omega) rfl) I0 I0<|dA (lE (iv<|g p.rz[r].gz[k].msg.toNat) 51 U3<|En.msA_get<|by omega) I0<|dC (sp_mul (c:=p.rz[r].gz[k].coef*(g p.rz[r].gz[k].msg.toNat)) rfl<|En.mulW hgk.2.2.1 hgk.2.2.2 hgb.1 hgb.2) I0 I0<|dW<|dW<|dS (iv r)<|dS (iv k)<|dW<|dS (.el (En.sysP p n t f) 15)<|dC (ZV (off':=15+r*2) (.tmp 59) (.tmp 56) rfl U94 (by kernel_rfl) (by omega) (by omega) rfl) I0 I0<|dC (ZV (off':=15+r*2+k*1) (.tmp 60) (.tmp 57) rfl U93 (by kernel_rfl) (by omega) (by omega) rfl) I0 I0<|dA (lE (iv<|En.gbV p.rz[r] n t f k) 61 U3<|En.sysP_bd hr h8 hk1 hg2) I0<|dl (dF hs5)<|eD ?_
 exact Zf<|Zu rfl<|Zj<|Zs<|Zf<|Za<|oV ((k+1:Nat):Int)<|oS (iv (k+1:Nat))<|jA<|Zp ⟨k+1,by omega,Rd.noP_succ hk1 hs0 (En.gd_no hk1 hs5)⟩ (show p.rz[r].gz.length-(k+1)<p.rz[r].gz.length-k by omega)<|Zk [] _
 refine Za<|ol (dF hs4)<|jD<|Zu rfl<|jO<|jC<|Za<|W3<|oL (Zc p.rz[r].ex) (fT lenRu p.rz r 8)<|oS (iv (p.rz[r].ex.length:Nat))<|oC (ZH rfl rfl) I0 I0<|oS (bv<|decide<|((p.rz[r].ex.length:Nat):Int)=0)<|jD<|Zi ?_
 refine Za<|oS (.el (En.cfV sx c) 1)<|W2<|oF (iv<|Ns.cntE p n f)<|oC (Wl (n:=c.st.length) (off:=1) (ds:=(c.st.map iv)) (.tmp 71) (.tmp 75) rfl U58 (by kernel_rfl) (by omega) (by kernel_rfl) (by unfold maxLen;omega) (by show _<=16;omega) (En.cfV_row l8) hn) I0 I0<|oS (iv c.st.length)<|oS (iv 0)<|kN 113 [] [(6,.el ([iv r,iv i,iv kp]) 0),(9,.el (p.rz.flatMap cRu) (r*18)),(12,bv (decide<|((p.rz[r].ex.length:Nat):Int)=0)),(76,Zc c.st),(77,iv c.st.length),(78,iv 0)]<|Zf<|Zh ?_
 rw [<- En.exU_zero (c:=c) (i:=i)]
 refine Zw (σ:={j:Nat // j<=c.st.length/\En.noF c p.rz[r] i j}) (λs=>(ofL [],ofT 113 [(6,.el ([iv r,iv i,iv kp]) 0),(9,.el (p.rz.flatMap cRu) (r*18)),(12,bv (En.exU c p.rz[r] i s.1)),(76,Zc c.st),(77,iv c.st.length),(78,iv s.1)])) (λs=>c.st.length-s.1) ⟨0,Nat.zero_le _,En.noF_zero⟩ (Zk [] _)<|λs => ?_
 obtain ⟨j,hj0,hnf⟩:=s
 show ETri J w0 (ofL []) (ofT 113 [(6,.el ([iv r,iv i,iv kp]) 0),(9,.el (p.rz.flatMap cRu) (r*18)),(12,bv (En.exU c p.rz[r] i j)),(76,Zc c.st),(77,iv c.st.length),(78,iv j)]) _
 refine Zi ?_
 by_cases hs6:(j:Int)<(c.st.length:Int)
 have hj1:j<c.st.length:=by omega
 refine Za<|ol (dT hs6)<|jD<|ZM rfl<|Zj<|jC<|Zh<|jB<|oW<|oC (xS (j*1) 76 78 U24) I0 I0<|oL (iv c.st[j]) (Zr c.st<|by omega)<|oS (iv j)<|oS (iv c.st[j])<|jD<|Zi ?_
 by_cases hs7:(j:Int)=(i:Int)
 refine Za<|W3<|oe (dT hs7)<|jH<|KR<|ZS<|ZdP<|Zf<|Za<|oV ((j+1:Nat):Int)<|oS (iv (j+1:Nat))<|jA<|Zp ⟨j+1,by omega,En.noF_succ hnf (En.fa_same<|by omega)⟩ (show c.st.length-(j+1)<c.st.length-j by omega) ?_
 show Wk _ _ (ofL []) (ofT 113 [(6,.el ([iv r,iv i,iv kp]) 0),(9,.el (p.rz.flatMap cRu) (r*18)),(12,bv (En.exU c p.rz[r] i (j+1))),(76,Zc c.st),(77,iv c.st.length),(78,iv ((j+1):Nat))])
 rw [En.exU_same (by omega)]
 exact Zk [] _
 refine Za<|W3<|oe (dF hs7)<|jF<|jM ?_
 by_cases hs8:0<((p.rz[r].fa.length:Nat):Int)
 by_cases hs9:(decide<|c.st[j]∈p.rz[r].fa)=true
 refine Za<|W3<|oL (Zc p.rz[r].fa) (fT lenRu p.rz r 9)<|oW<|og (dT hs8)<|oS bT<|W3<|oL (Zc p.rz[r].fa) (fT lenRu p.rz r 9)<|oW<|oK (Zo (Ym p.rz[r].fa c.st[j] lf) hs9) [Zc p.rz[r].fa,iv c.st[j]] rfl rfl<|oW<|oS bF<|jF ?_
 by_cases hs10:(En.exU c p.rz[r] i j)=true
 rw [hs10]
 refine Za<|oF bT<|V5<|qK<|oF bT<|ZL<|Zs<|Zf<|Za<|oV ((j+1:Nat):Int)<|oS (iv (j+1:Nat))<|jA<|Zp ⟨j+1,by omega,En.noF_succ hnf (En.fa_in hj1 hs9)⟩ (show c.st.length-(j+1)<c.st.length-j by omega) ?_
 show Wk _ _ (ofL []) (ofT 113 [(6,.el ([iv r,iv i,iv kp]) 0),(9,.el (p.rz.flatMap cRu) (r*18)),(12,bv (En.exU c p.rz[r] i (j+1))),(76,Zc c.st),(77,iv c.st.length),(78,iv ((j+1):Nat))])
 rw [En.exU_t hs10]
 exact Zk [] _
 have hs10f:(En.exU c p.rz[r] i j)=false:=by simpa using hs10
 rw [hs10f]
 refine Za<|oF bF<|W3<|oL (Zc p.rz[r].ex) (fT lenRu p.rz r 8)<|oW<|oK (Ym p.rz[r].ex c.st[j] le) [Zc p.rz[r].ex,iv c.st[j]] rfl rfl<|oF (bv<|decide<|c.st[j]∈p.rz[r].ex)<|ZL<|Zs<|Zf<|Za<|oV ((j+1:Nat):Int)<|oS (iv (j+1:Nat))<|jA<|Zp ⟨j+1,by omega,En.noF_succ hnf (En.fa_in hj1 hs9)⟩ (show c.st.length-(j+1)<c.st.length-j by omega) ?_
 show Wk _ _ (ofL []) (ofT 113 [(6,.el ([iv r,iv i,iv kp]) 0),(9,.el (p.rz.flatMap cRu) (r*18)),(12,bv (En.exU c p.rz[r] i (j+1))),(76,Zc c.st),(77,iv c.st.length),(78,iv ((j+1):Nat))])
 rw [En.exU_f hj1 hs10f (by omega)]
 exact Zk [] _
 have hs9f:(decide<|c.st[j]∈p.rz[r].fa)=false:=by simpa using hs9
 exact Za<|W3<|oL (Zc p.rz[r].fa) (fT lenRu p.rz r 9)<|oW<|og (dT hs8)<|oS bT<|W3<|oL (Zc p.rz[r].fa) (fT lenRu p.rz r 9)<|oW<|oK (Zo (Ym p.rz[r].fa c.st[j] lf) hs9f) [Zc p.rz[r].fa,iv c.st[j]] rfl rfl<|oW<|oS bT<|jG<|oS bF<|jA<|jN<|Ze<|Zb<|Zb<|Ze<|Zb<|Zd results66 (.tmp rfl)<|cB<|(En.lo_fa hj1<|En.fa_out hj1 (by omega) hs8 hs9f).symm
 refine Za<|W3<|oL (Zc p.rz[r].fa) (fT lenRu p.rz r 9)<|oW<|og (dF hs8)<|oS bF<|V5<|V2<|oS bF<|jF ?_
 by_cases hs11:(En.exU c p.rz[r] i j)=true
 rw [hs11]
 refine Za<|oF bT<|V5<|qK<|oF bT<|ZL<|Zs<|Zf<|Za<|oV ((j+1:Nat):Int)<|oS (iv (j+1:Nat))<|jA<|Zp ⟨j+1,by omega,En.noF_succ hnf (En.fa_none hs8)⟩ (show c.st.length-(j+1)<c.st.length-j by omega) ?_
 show Wk _ _ (ofL []) (ofT 113 [(6,.el ([iv r,iv i,iv kp]) 0),(9,.el (p.rz.flatMap cRu) (r*18)),(12,bv (En.exU c p.rz[r] i (j+1))),(76,Zc c.st),(77,iv c.st.length),(78,iv ((j+1):Nat))])
 rw [En.exU_t hs11]
 exact Zk [] _
 have hs11f:(En.exU c p.rz[r] i j)=false:=by simpa using hs11
 rw [hs11f]
 refine Za<|oF bF<|W3<|oL (Zc p.rz[r].ex) (fT lenRu p.rz r 8)<|oW<|oK (Ym p.rz[r].ex c.st[j] le) [Zc p.rz[r].ex,iv c.st[j]] rfl rfl<|oF (bv<|decide<|c.st[j]∈p.rz[r].ex)<|ZL<|Zs<|Zf<|Za<|oV ((j+1:Nat):Int)<|oS (iv (j+1:Nat))<|jA<|Zp ⟨j+1,by omega,En.noF_succ hnf (En.fa_none hs8)⟩ (show c.st.length-(j+1)<c.st.length-j by omega) ?_
 show Wk _ _ (ofL []) (ofT 113 [(6,.el ([iv r,iv i,iv kp]) 0),(9,.el (p.rz.flatMap cRu) (r*18)),(12,bv (En.exU c p.rz[r] i (j+1))),(76,Zc c.st),(77,iv c.st.length),(78,iv ((j+1):Nat))])
 rw [En.exU_f hj1 hs11f (by omega)]
 exact Zk [] _
 exact Za<|ol (dF hs6)<|jD<|Zu rfl<|jO<|jC<|Za<|oF (bv<|En.exU c p.rz[r] i j)<|jE<|Zd results66 (.tmp rfl)<|cB<|(En.lo_ex hs3f (by omega) hs0 (by omega) hj0 hnf).symm
variable {l:List Int}
theorem ZcI (ll:l.length<=9223372036854775807) (l8:c.st.length<=8) (hx:x<(c.st.length:Int)):Ctr Tryz.prog J 105 [.agg (En.cfV sx c),iv x,Zc l] (bv<|En.fitB c x l):=by
 refine Zn func105 rfl (pN (Zg<|En.plain_cfV _ c)<|pN (.v _)<|pN (Zx _) pZ) (n:=22) rfl (by simp)<|λw0 => jB<|oA (ZC (X := .agg (En.cfV sx c)) (.tmp 0) rfl rfl rfl) I0<|oS bF<|jD ?_
 by_cases hs1:(l.length:Int)=0
 refine Za<|W2<|oe (dT hs1)<|oS bT<|V5<|V5<|oF bT<|jE<|Zd results105 (.tmp rfl) ?_
 exact cB<|(by unfold En.fitB;simp only [hs1,decide_true,decide_false,Bool.and_true,Bool.true_and,Bool.false_and,Bool.and_false,Bool.true_or,Bool.false_or,Bool.or_true,Bool.or_false,Bool.not_true,Bool.not_false])
 by_cases hs2:0<=x
 refine Za<|W2<|oe (dF hs1)<|oS bF<|oW<|oh (dT hs2)<|oS bT<|oW<|oS (iv x)<|oS (.el (En.cfV sx c) 1)<|gC (ZV (off':=1+x.toNat*1) (.tmp 16) (.tmp 15) rfl U58 (by kernel_rfl) (by omega) (by omega) rfl) I0 I0<|gA (lE (iv<|c.st.getD x.toNat 0) 17 U3<|En.cfV_st<|by omega) I0<|oK (Ym l (c.st.getD x.toNat 0) ll) [Zc l,iv (c.st.getD x.toNat 0)] rfl rfl<|oW<|oF (bv<|decide<|c.st.getD x.toNat 0∈l)<|jE<|Zd results105 (.tmp rfl) ?_
 exact cB<|(by unfold En.fitB;simp only [hs1,hs2,decide_true,decide_false,Bool.and_true,Bool.true_and,Bool.false_and,Bool.and_false,Bool.true_or,Bool.false_or,Bool.or_true,Bool.or_false,Bool.not_true,Bool.not_false])
 refine Za<|W2<|oe (dF hs1)<|oS bF<|oW<|oh (dF hs2)<|oS bF<|V5<|qK<|oW<|oF bF<|jE<|Zd results105 (.tmp rfl) ?_
 exact cB<|(by unfold En.fitB;simp only [hs1,hs2,decide_true,decide_false,Bool.and_true,Bool.true_and,Bool.false_and,Bool.and_false,Bool.true_or,Bool.false_or,Bool.or_true,Bool.or_false,Bool.not_true,Bool.not_false])
abbrev ZdD (x0:Fm) (x1:Cf) (x2:Nat):List (Nat × ABlk):=[(1,.box 84 ([iv (Jd.lkF x0.top x1.sh x1.st.length x2),iv (Jd.lkS x0.top x1.sh x1.st.length x2),iv (En.lkP x0.top x1.sh x1.st.length x2)]))]
theorem neighH_c (hn:(Ns.cntE p n f).toNat=c.st.length) (l8:c.st.length<=8) (hr:r<p.rz.length) (hi:i<c.st.length) (hrl:RuLen p.rz[r]) (hx0:0<=sx) (hx1:sx<(((En.shS p.top (Ns.cntE p n f).toNat).length:Nat):Int)) (hx2:(En.shS p.top (Ns.cntE p n f).toNat)[sx.toNat]? = some c.sh) (hlk:Jd.lkF p.top c.sh c.st.length i<(c.st.length:Int)/\Jd.lkS p.top c.sh c.st.length i<(c.st.length:Int)/\En.lkP p.top c.sh c.st.length i<(c.st.length:Int)):Ctr Tryz.prog J 67 [.el (En.sysP p n t f) 0,.agg (En.cfV sx c),.agg [iv r,iv i,iv kp]] (bv<|En.nbB p.top c p.rz[r] i):=by
 refine Zn func67 rfl (pN (show Plain (.el (En.sysP p n t f) 0) from .el (ZE<|En.plain_sysP p n t f))<|pN (Zg<|En.plain_cfV _ c)<|pN (Zg<|pN (.v _)<|pN (.v _)<|pN (.v _) pZ) pZ) (n:=79) rfl (by simp)<|λw0 => jB<|oA (ZC (X := .agg (En.cfV sx c)) (.tmp 1) rfl rfl rfl) I0<|oA (ZC (X := .agg [iv r,iv i,iv kp]) (.tmp 2) rfl rfl rfl) I0<|oS bF<|jD<|tD<|dW<|dW<|dW<|dW<|dS (slA 18 cRu p.rz)<|dW<|dS (iv r)<|dC (xS (r*18) 13 15 U25) I0 I0<|dS (.el (p.rz.flatMap cRu) (r*18))<|eD ?_
 refine kW 79 [] [(0,.el (En.sysP p n t f) 0),(4,.el (En.cfV sx c) 0),(5,.el ([iv r,iv i,iv kp]) 0),(6,bF),(7,.el (p.rz.flatMap cRu) (r*18))]<|jC<|tD<|dW<|dW<|dW<|dS (En.lkS p.top (Ns.cntE p n f).toNat)<|dW<|dS (iv sx)<|dC (xS (sx.toNat*1) 20 22 U95) I0 I0<|dA (lE (Jd.lkA p.top c.sh c.st.length) 23 U87<|En.links_at hx2 hn) I0<|dW<|dS (iv i)<|dC (xS (i*3) 24 26 U87) I0 I0<|dA (Zl (z:=3) (.tmp 27) rfl U84 rfl (by kernel_rfl) (En.lk_el<|by omega) rfl) I0<|dz 1 Z84<|dY<|eD<|jC<|Zh<|Zi ?_
 refine Ye (True) (ofL<|ZdD p c i) (ofT 79 [(4,.el (En.cfV sx c) 0),(6,bF),(7,.el (p.rz.flatMap cRu) (r*18)),(8,bx 1),(29,bv (decide (p.rz[r].pos=1) && !decide ((i:Int)=0)))]) ?_<|λ_ => ?_
 by_cases hs1:p.rz[r].pos=1
 by_cases hs2:(i:Int)=0
 refine Za<|W3<|oL (iv p.rz[r].pos) (fT lenRu p.rz r 13)<|oe (dT hs1)<|oS bT<|W2<|on (dT' hs2)<|oF bF<|kN 79 [(1,.box 84 ([iv (Jd.lkF p.top c.sh c.st.length i),iv (Jd.lkS p.top c.sh c.st.length i),iv (En.lkP p.top c.sh c.st.length i)]))] [(4,.el (En.cfV sx c) 0),(6,bF),(7,.el (p.rz.flatMap cRu) (r*18)),(8,bx 1),(29,bF)] ?_
 rw [show ((decide (p.rz[r].pos=1) && !decide ((i:Int)=0)))=false by simp only [dT hs1,dT hs2,decide_true,decide_false,Bool.and_true,Bool.true_and,Bool.false_and,Bool.and_false,Bool.true_or,Bool.false_or,Bool.or_true,Bool.or_false,Bool.not_true,Bool.not_false]]
 exact tM T0
 refine Za<|W3<|oL (iv p.rz[r].pos) (fT lenRu p.rz r 13)<|oe (dT hs1)<|oS bT<|W2<|on (dF' hs2)<|oF bT<|kN 79 [(1,.box 84 ([iv (Jd.lkF p.top c.sh c.st.length i),iv (Jd.lkS p.top c.sh c.st.length i),iv (En.lkP p.top c.sh c.st.length i)]))] [(4,.el (En.cfV sx c) 0),(6,bF),(7,.el (p.rz.flatMap cRu) (r*18)),(8,bx 1),(29,bT)] ?_
 rw [show ((decide (p.rz[r].pos=1) && !decide ((i:Int)=0)))=true by simp only [dT hs1,dF hs2,decide_true,decide_false,Bool.and_true,Bool.true_and,Bool.false_and,Bool.and_false,Bool.true_or,Bool.false_or,Bool.or_true,Bool.or_false,Bool.not_true,Bool.not_false]]
 exact tM T0
 refine Za<|W3<|oL (iv p.rz[r].pos) (fT lenRu p.rz r 13)<|oe (dF hs1)<|oS bF<|V3<|oF bF<|kN 79 [(1,.box 84 ([iv (Jd.lkF p.top c.sh c.st.length i),iv (Jd.lkS p.top c.sh c.st.length i),iv (En.lkP p.top c.sh c.st.length i)]))] [(4,.el (En.cfV sx c) 0),(6,bF),(7,.el (p.rz.flatMap cRu) (r*18)),(8,bx 1),(29,bF)] ?_
 rw [show ((decide (p.rz[r].pos=1) && !decide ((i:Int)=0)))=false by simp only [dF hs1,decide_true,decide_false,Bool.and_true,Bool.true_and,Bool.false_and,Bool.and_false,Bool.true_or,Bool.false_or,Bool.or_true,Bool.or_false,Bool.not_true,Bool.not_false]]
 exact tM T0
 refine Zf ?_
 by_cases hs3:(decide (p.rz[r].pos=1) && !decide ((i:Int)=0))=true
 rw [hs3]
 refine jK<|oS bF<|jE<|Ze<|Zb<|Zd results67 (.tmp rfl) ?_
 exact cB<|(by unfold En.nbB;simp only [hs3,decide_true,decide_false,Bool.and_true,Bool.true_and,Bool.false_and,Bool.and_false,Bool.true_or,Bool.false_or,Bool.or_true,Bool.or_false,Bool.not_true,Bool.not_false])
 have hs3f:(decide (p.rz[r].pos=1) && !decide ((i:Int)=0))=false:=by simpa using hs3
 rw [hs3f]
 refine Zu rfl<|Zi<|Ye (True) (ofL<|ZdD p c i) (ofT 79 [(4,.el (En.cfV sx c) 0),(6,bF),(7,.el (p.rz.flatMap cRu) (r*18)),(8,bx 1),(40,bv (decide (p.rz[r].pos=2)&&decide (0<=(Jd.lkS p.top c.sh c.st.length i))))]) ?_<|λ_ => ?_
 by_cases hs4:p.rz[r].pos=2
 by_cases hs5:0<=(Jd.lkS p.top c.sh c.st.length i)
 refine Za<|W3<|oL (iv p.rz[r].pos) (fT lenRu p.rz r 13)<|oe (dT hs4)<|oS bT<|W2<|oh (dT hs5)<|oF bT<|kN 79 [(1,.box 84 ([iv (Jd.lkF p.top c.sh c.st.length i),iv (Jd.lkS p.top c.sh c.st.length i),iv (En.lkP p.top c.sh c.st.length i)]))] [(4,.el (En.cfV sx c) 0),(6,bF),(7,.el (p.rz.flatMap cRu) (r*18)),(8,bx 1),(40,bT)] ?_
 rw [show ((decide (p.rz[r].pos=2)&&decide (0<=(Jd.lkS p.top c.sh c.st.length i))))=true by simp only [hs3f,dT hs4,dT hs5,decide_true,decide_false,Bool.and_true,Bool.true_and,Bool.false_and,Bool.and_false,Bool.true_or,Bool.false_or,Bool.or_true,Bool.or_false,Bool.not_true,Bool.not_false]]
 exact tM T0
 refine Za<|W3<|oL (iv p.rz[r].pos) (fT lenRu p.rz r 13)<|oe (dT hs4)<|oS bT<|W2<|oh (dF hs5)<|oF bF<|kN 79 [(1,.box 84 ([iv (Jd.lkF p.top c.sh c.st.length i),iv (Jd.lkS p.top c.sh c.st.length i),iv (En.lkP p.top c.sh c.st.length i)]))] [(4,.el (En.cfV sx c) 0),(6,bF),(7,.el (p.rz.flatMap cRu) (r*18)),(8,bx 1),(40,bF)] ?_
 rw [show ((decide (p.rz[r].pos=2)&&decide (0<=(Jd.lkS p.top c.sh c.st.length i))))=false by simp only [hs3f,dT hs4,dF hs5,decide_true,decide_false,Bool.and_true,Bool.true_and,Bool.false_and,Bool.and_false,Bool.true_or,Bool.false_or,Bool.or_true,Bool.or_false,Bool.not_true,Bool.not_false]]
 exact tM T0
 refine Za<|W3<|oL (iv p.rz[r].pos) (fT lenRu p.rz r 13)<|oe (dF hs4)<|oS bF<|V3<|oF bF<|kN 79 [(1,.box 84 ([iv (Jd.lkF p.top c.sh c.st.length i),iv (Jd.lkS p.top c.sh c.st.length i),iv (En.lkP p.top c.sh c.st.length i)]))] [(4,.el (En.cfV sx c) 0),(6,bF),(7,.el (p.rz.flatMap cRu) (r*18)),(8,bx 1),(40,bF)] ?_
 rw [show ((decide (p.rz[r].pos=2)&&decide (0<=(Jd.lkS p.top c.sh c.st.length i))))=false by simp only [hs3f,dF hs4,decide_true,decide_false,Bool.and_true,Bool.true_and,Bool.false_and,Bool.and_false,Bool.true_or,Bool.false_or,Bool.or_true,Bool.or_false,Bool.not_true,Bool.not_false]]
 exact tM T0
 refine Zf ?_
 by_cases hs6:(decide (p.rz[r].pos=2)&&decide (0<=(Jd.lkS p.top c.sh c.st.length i)))=true
 rw [hs6]
 refine jK<|oS bF<|jE<|Ze<|Zb<|Zd results67 (.tmp rfl) ?_
 exact cB<|(by unfold En.nbB;simp only [hs3f,hs6,decide_true,decide_false,Bool.and_true,Bool.true_and,Bool.false_and,Bool.and_false,Bool.true_or,Bool.false_or,Bool.or_true,Bool.or_false,Bool.not_true,Bool.not_false])
 have hs6f:(decide (p.rz[r].pos=2)&&decide (0<=(Jd.lkS p.top c.sh c.st.length i)))=false:=by simpa using hs6
 rw [hs6f]
 refine Zu rfl<|Zj<|Zs<|jC ?_
 by_cases hs7:(En.fitB c (Jd.lkF p.top c.sh c.st.length i) p.rz[r].left)=true
 by_cases hs8:(En.fitB c (Jd.lkS p.top c.sh c.st.length i) p.rz[r].right)=true
 refine tD<|dA (Zl (z:=16) (.tmp 4) rfl U62 rfl (by kernel_rfl) rfl rfl) I0<|dW<|dW<|dW<|dW<|dW<|dL (Zc p.rz[r].left) (fT lenRu p.rz r 14)<|dk (Zo (ZcI (Nat.le_trans hrl.left<|by decide) l8 hlk.1) hs7) [.agg (En.cfV sx c),iv (Jd.lkF p.top c.sh c.st.length i),Zc p.rz[r].left] rfl rfl<|dS bT<|dA (Zl (z:=16) (.tmp 4) rfl U62 rfl (by kernel_rfl) rfl rfl) I0<|dW<|dW<|dW<|dW<|dW<|dL (Zc p.rz[r].right) (fT lenRu p.rz r 15)<|dk (Zo (ZcI (Nat.le_trans hrl.right<|by decide) l8 hlk.2.1) hs8) [.agg (En.cfV sx c),iv (Jd.lkS p.top c.sh c.st.length i),Zc p.rz[r].right] rfl rfl<|dW<|dS bT<|dA (Zl (z:=16) (.tmp 4) rfl U62 rfl (by kernel_rfl) rfl rfl) I0<|dW<|dW<|dW<|dW<|dW<|dL (Zc p.rz[r].pz) (fT lenRu p.rz r 16)<|dk (ZcI (Nat.le_trans hrl.pz<|by decide) l8 hlk.2.2) [.agg (En.cfV sx c),iv (En.lkP p.top c.sh c.st.length i),Zc p.rz[r].pz] rfl rfl<|dW<|dS (bv<|En.fitB c (En.lkP p.top c.sh c.st.length i) p.rz[r].pz)<|eD ?_
 refine Zf<|ZQ<|Zd results67 (.tmp rfl) ?_
 exact cB<|(by unfold En.nbB;simp only [hs3f,hs6f,hs7,hs8,decide_true,decide_false,Bool.and_true,Bool.true_and,Bool.false_and,Bool.and_false,Bool.true_or,Bool.false_or,Bool.or_true,Bool.or_false,Bool.not_true,Bool.not_false])
 have hs8f:(En.fitB c (Jd.lkS p.top c.sh c.st.length i) p.rz[r].right)=false:=by simpa using hs8
 refine tD<|dA (Zl (z:=16) (.tmp 4) rfl U62 rfl (by kernel_rfl) rfl rfl) I0<|dW<|dW<|dW<|dW<|dW<|dL (Zc p.rz[r].left) (fT lenRu p.rz r 14)<|dk (Zo (ZcI (Nat.le_trans hrl.left<|by decide) l8 hlk.1) hs7) [.agg (En.cfV sx c),iv (Jd.lkF p.top c.sh c.st.length i),Zc p.rz[r].left] rfl rfl<|dS bT<|dA (Zl (z:=16) (.tmp 4) rfl U62 rfl (by kernel_rfl) rfl rfl) I0<|dW<|dW<|dW<|dW<|dW<|dL (Zc p.rz[r].right) (fT lenRu p.rz r 15)<|dk (Zo (ZcI (Nat.le_trans hrl.right<|by decide) l8 hlk.2.1) hs8f) [.agg (En.cfV sx c),iv (Jd.lkS p.top c.sh c.st.length i),Zc p.rz[r].right] rfl rfl<|dW<|dS bF<|dK<|dK<|dK<|dK<|dK<|dK<|dK<|dK<|dW<|dS bF<|eD ?_
 refine Zf<|ZQ<|Zd results67 (.tmp rfl) ?_
 exact cB<|(by unfold En.nbB;simp only [hs3f,hs6f,hs7,hs8f,decide_true,decide_false,Bool.and_true,Bool.true_and,Bool.false_and,Bool.and_false,Bool.true_or,Bool.false_or,Bool.or_true,Bool.or_false,Bool.not_true,Bool.not_false])
 have hs7f:(En.fitB c (Jd.lkF p.top c.sh c.st.length i) p.rz[r].left)=false:=by simpa using hs7
 refine tD<|dA (Zl (z:=16) (.tmp 4) rfl U62 rfl (by kernel_rfl) rfl rfl) I0<|dW<|dW<|dW<|dW<|dW<|dL (Zc p.rz[r].left) (fT lenRu p.rz r 14)<|dk (Zo (ZcI (Nat.le_trans hrl.left<|by decide) l8 hlk.1) hs7f) [.agg (En.cfV sx c),iv (Jd.lkF p.top c.sh c.st.length i),Zc p.rz[r].left] rfl rfl<|dS bF<|dK<|dK<|dK<|dK<|dK<|dK<|dK<|dK<|dW<|dS bF<|dK<|dK<|dK<|dK<|dK<|dK<|dK<|dK<|dW<|dS bF<|eD<|Zf<|ZQ<|Zd results67 (.tmp rfl) ?_
 exact cB<|(by unfold En.nbB;simp only [hs3f,hs6f,hs7f,decide_true,decide_false,Bool.and_true,Bool.true_and,Bool.false_and,Bool.and_false,Bool.true_or,Bool.false_or,Bool.or_true,Bool.or_false,Bool.not_true,Bool.not_false])
theorem passH_c (hn:(Ns.cntE p n f).toNat=c.st.length) (l8:c.st.length<=8) (hr:r<p.rz.length) (hi:i<c.st.length) (hrl:RuLen p.rz[r]) (hx0:0<=sx) (hx1:sx<(((En.shS p.top (Ns.cntE p n f).toNat).length:Nat):Int)) (hx2:(En.shS p.top (Ns.cntE p n f).toNat)[sx.toNat]? = some c.sh) (hlk:Jd.lkF p.top c.sh c.st.length i<(c.st.length:Int)/\Jd.lkS p.top c.sh c.st.length i<(c.st.length:Int)/\En.lkP p.top c.sh c.st.length i<(c.st.length:Int)):Ctr Tryz.prog J 68 [.el (En.sysP p n t f) 0,.agg (En.cfV sx c),.agg [iv r,iv i,iv kp]] (bv<|En.psB p.top c p.rz[r] i kp):=by
 refine Zn func68 rfl (pN (show Plain (.el (En.sysP p n t f) 0) from .el (ZE<|En.plain_sysP p n t f))<|pN (Zg<|En.plain_cfV _ c)<|pN (Zg<|pN (.v _)<|pN (.v _)<|pN (.v _) pZ) pZ) (n:=63) rfl (by simp)<|λw0 => jB<|oA (ZC (X := .agg (En.cfV sx c)) (.tmp 1) rfl rfl rfl) I0<|oA (ZC (X := .agg [iv r,iv i,iv kp]) (.tmp 2) rfl rfl rfl) I0<|oS bF<|jD ?_
 refine tD<|dW<|dW<|dW<|dS (En.lkS p.top (Ns.cntE p n f).toNat)<|dW<|dS (iv sx)<|dC (xS (sx.toNat*1) 11 13 U95) I0 I0<|dA (lE (Jd.lkA p.top c.sh c.st.length) 14 U87<|En.links_at hx2 hn) I0<|dW<|dS (iv i)<|dC (xS (i*3) 15 17 U87) I0 I0<|dA (Zl (z:=3) (.tmp 18) rfl U84 rfl (by kernel_rfl) (En.lk_el<|by omega) rfl) I0<|dz 1 Z84<|dY<|eD<|kW 63 (ZdD p c i) [(0,.el (En.sysP p n t f) 0),(5,.el ([iv r,iv i,iv kp]) 0),(6,bF),(7,bx 1)]<|jC<|Zi<|tD<|dW<|dW<|dW<|dW<|dS (slA 18 cRu p.rz)<|dW<|dS (iv r)<|dC (xS (r*18) 24 26 U25) I0 I0<|dW<|dL (iv p.rz[r].dir) (fT lenRu p.rz r 17)<|eD ?_
 refine kW 63 (ZdD p c i) [(5,.el ([iv r,iv i,iv kp]) 0),(6,bF),(7,bx 1),(29,iv p.rz[r].dir)]<|Zf<|Zh<|Zi ?_
 by_cases hs1:p.rz[r].dir=1
 refine Za<|oe (dT hs1)<|oS bT<|jG<|oF (iv kp)<|oF (iv<|Jd.lkS p.top c.sh c.st.length i)<|oC (ZH rfl rfl) I0 I0<|oS (bv<|decide<|kp=(Jd.lkS p.top c.sh c.st.length i))<|jE<|Ze<|Zb<|Zd results68 (.tmp rfl) ?_
 exact cB<|(by unfold En.psB;rw [if_pos hs1])
 refine Za<|oe (dF hs1)<|oS bF<|jI<|Zi ?_
 by_cases hs2:p.rz[r].dir=2
 refine Za<|oe (dT hs2)<|oS bT<|jG<|oF (iv kp)<|oF (iv<|Jd.lkF p.top c.sh c.st.length i)<|oC (ZH rfl rfl) I0 I0<|oS (bv<|decide<|kp=(Jd.lkF p.top c.sh c.st.length i))<|jE<|Ze<|Zb<|Zd results68 (.tmp rfl) ?_
 exact cB<|(by unfold En.psB;rw [if_neg hs1,if_pos hs2])
 refine Za<|oe (dF hs2)<|oS bF<|jI<|Zi ?_
 by_cases hs3:p.rz[r].dir=3
 refine Za<|oe (dT hs3)<|oS bT<|jH<|Zi ?_
 by_cases hs4:kp=(Jd.lkF p.top c.sh c.st.length i)
 refine Za<|W4<|oe (dT hs4)<|oS bT<|V5<|oF bT<|jE<|Ze<|Zb<|Zd results68 (.tmp rfl) ?_
 exact cB<|(by unfold En.psB;rw [if_neg hs1,if_neg hs2,if_pos hs3];simp only [dT hs4,decide_true,decide_false,Bool.and_true,Bool.true_and,Bool.false_and,Bool.and_false,Bool.true_or,Bool.false_or,Bool.or_true,Bool.or_false,Bool.not_true,Bool.not_false])
 refine Za<|W4<|oe (dF hs4)<|oS bF<|oF (iv kp)<|oF (iv<|Jd.lkS p.top c.sh c.st.length i)<|gC (ZH rfl rfl) I0 I0<|oF (bv<|decide<|kp=(Jd.lkS p.top c.sh c.st.length i))<|jE<|Ze<|Zb<|Zd results68 (.tmp rfl) ?_
 exact cB<|(by unfold En.psB;rw [if_neg hs1,if_neg hs2,if_pos hs3];simp only [dF hs4,decide_true,decide_false,Bool.and_true,Bool.true_and,Bool.false_and,Bool.and_false,Bool.true_or,Bool.false_or,Bool.or_true,Bool.or_false,Bool.not_true,Bool.not_false])
 refine Za<|oe (dF hs3)<|oS bF<|jI<|Zj<|Zs<|jC<|Za<|oF (iv kp)<|oF (iv<|En.lkP p.top c.sh c.st.length i)<|oC (ZH rfl rfl) I0 I0<|oS (bv<|decide<|kp=(En.lkP p.top c.sh c.st.length i))<|jE<|Zd results68 (.tmp rfl) ?_
 exact cB<|(by unfold En.psB;rw [if_neg hs1,if_neg hs2,if_neg hs3])
theorem En.nbr (hc:En.CfV p n f c) (hv:valE p=0) (hr:r<p.rz.length) (hk:¬ p.rz[r].kind<=3) (hi:i<c.st.length) :
 (0<=(Rd.shI p.top (Ns.shT p.top (Ns.cntE p n f)) c.sh)/\(Rd.shI p.top (Ns.shT p.top (Ns.cntE p n f)) c.sh)<(((En.shS p.top (Ns.cntE p n f).toNat).length:Nat):Int)/\(En.shS p.top (Ns.cntE p n f).toNat)[((Rd.shI p.top (Ns.shT p.top (Ns.cntE p n f)) c.sh)).toNat]? = some c.sh) /\
 (Jd.lkF p.top c.sh c.st.length i<(c.st.length:Int)/\Jd.lkS p.top c.sh c.st.length i<(c.st.length:Int)/\En.lkP p.top c.sh c.st.length i<(c.st.length:Int)):=by
 have R:=En.val_in hv (List.getElem_mem hr)
 have h1:¬ p.top=1:=λe=>hk (R.kt.2 e)
 have ht:=Jd.top_in hv
 have h0:0<=Ns.cntE p n f:=by have:=hc.ln;omega
 exact ⟨En.shI_at hc h1 ht h0,En.lk_ok hc h1 ht hi⟩
theorem En.isP_nat (h:i<m):En.isP m (i:Int)=true:=by unfold En.isP;rw [decide_eq_true (by omega),decide_eq_true (by omega)];rfl
theorem enabled_in (HL:FamLen p) (hc:En.CfV p n f c) (hv:valE p=0) (l8:c.st.length<=8) (hr:r<p.rz.length) (hi:i<c.st.length) {g:Nat->Int} (hg:∀ m,0<=g m/\g m<=3000000):Ctr Tryz.prog J 37 [.el (En.sysP p n t f) 0,.agg (En.cfV (Rd.shI p.top (Ns.shT p.top<|Ns.cntE p n f) c.sh) c),.agg [iv r,iv i,iv kp],.agg (En.msA g)] (bv<|En.enR p.top n t f c g p.rz[r] i kp):=by
 have R:=En.val_in hv<|List.getElem_mem hr
 have hz:=En.val_sizes hv
 have hn:=hc.ln.symm
 have hnN:(Ns.cntE p n f).toNat=c.st.length:=by omega
 have hle:=(HL.rz _<|List.getElem_mem hr).ex
 have hlf:=(HL.rz _<|List.getElem_mem hr).fa
 refine Zn func37 rfl (pN (show Plain (.el (En.sysP p n t f) 0) from .el (ZE<|En.plain_sysP p n t f))<|pN (Zg<|En.plain_cfV _ c)<|pN (Zg<|pN (.v _)<|pN (.v _)<|pN (.v _) pZ)<|pN (Zg<|En.plain_msA _) pZ) (n:=94) rfl (by simp)<|λw0 => jB<|oA (ZC (X := .agg (En.cfV (Rd.shI p.top (Ns.shT p.top<|Ns.cntE p n f) c.sh) c)) (.tmp 1) rfl rfl rfl) I0<|oA (ZC (X := .agg [iv r,iv i,iv kp]) (.tmp 2) rfl rfl rfl) I0<|oA (ZC (X := .agg (En.msA g)) (.tmp 3) rfl rfl rfl) I0<|oS bF<|jD<|Zi ?_
 refine tD<|dW<|dS (iv r)<|dC (Zcq rfl<|dF<|by omega) I0 I0<|dS bF<|dW<|dS (iv r)<|dW<|dW<|dW<|dW<|dW<|dS (iv p.rz.length)<|dC (ZbD rfl<|dF<|by omega) I0 I0<|dW<|dS bF<|dW<|dW<|dW<|dk (Zo (ZaE hn)<|En.isP_nat hi) [.el (En.sysP p n t f) 0,iv i] rfl rfl<|dW<|dS bF<|eD<|jJ<|Zi<|tD<|dW<|dW<|dW<|dW<|dS (slA 18 cRu p.rz)<|dW<|dS (iv r)<|dC (xS (r*18) 35 37 U25) I0 I0<|dS (.el (p.rz.flatMap cRu) (r*18))<|eD ?_
 refine kW 94 [] [(0,.el (En.sysP p n t f) 0),(5,.el (En.cfV (Rd.shI p.top (Ns.shT p.top<|Ns.cntE p n f) c.sh) c) 0),(6,.el ([iv r,iv i,iv kp]) 0),(7,.el (En.msA g) 0),(8,bF),(9,.el (p.rz.flatMap cRu) (r*18))]<|jC<|Zi ?_
 by_cases hs1:(c.st.getD i 0)=p.rz[r].frm
 by_cases hs2:(En.ptB c p.rz[r] i kp)=true
 refine tD<|dW<|dS (iv i)<|dS (.el (En.cfV (Rd.shI p.top (Ns.shT p.top<|Ns.cntE p n f) c.sh) c) 1)<|dC (ZV (off':=1+i*1) (.tmp 41) (.tmp 40) rfl U58 (by kernel_rfl) (by omega) (by omega) rfl) I0 I0<|dA (lE (iv<|c.st.getD i 0) 42 U3<|En.cfV_st<|by omega) I0<|dW<|dW<|dW<|dL (iv p.rz[r].frm) (fT lenRu p.rz r 2)<|dn (dT' hs1)<|dS bF<|dW<|dA (Zl (z:=16) (.tmp 5) rfl U62 rfl (by kernel_rfl) rfl rfl) I0<|dW<|dA (Zl (z:=3) (.tmp 6) rfl U67 rfl (by kernel_rfl) rfl rfl) I0<|dk (Zo (ZcF hn l8 hr hi) hs2) [.el (En.sysP p n t f) 0,.agg (En.cfV (Rd.shI p.top (Ns.shT p.top<|Ns.cntE p n f) c.sh) c),.el (p.rz.flatMap cRu) (r*18),.agg ([iv r,iv i,iv kp])] rfl rfl<|dW<|dS bF<|eD ?_
 refine jJ<|jM<|Za<|W3<|oL (iv p.rz[r].kind) (fT lenRu p.rz r 1)<|jA<|Zh<|Zi ?_
 by_cases hs3:p.rz[r].kind=1
 refine Za<|oe (dT hs3)<|oS bT<|jG<|oW<|oA (Zl (z:=16) (.tmp 5) rfl U62 rfl (by kernel_rfl) rfl rfl) I0<|oA (Zl (z:=3) (.tmp 6) rfl U67 rfl (by kernel_rfl) rfl rfl) I0<|oA (Zl (z:=3) (.tmp 7) rfl U60 rfl (by kernel_rfl) rfl rfl) I0<|oK (localH_c hn l8 hr hi hg hz.1 hz.2.2.1 R.gl R.gd (Nat.le_trans hle<|by decide)<|Nat.le_trans hlf<|by decide) [.el (En.sysP p n t f) 0,.agg (En.cfV (Rd.shI p.top (Ns.shT p.top<|Ns.cntE p n f) c.sh) c),.agg ([iv r,iv i,iv kp]),.agg (En.msA g)] rfl rfl<|oS (bv<|En.loB n t f c p.rz[r] g i)<|jE<|Ze<|Zb<|Zd results37 (.tmp rfl) ?_
 exact cB<|(by unfold En.enR;rw [if_pos hs3];simp only [dT hs1,hs2,decide_true,decide_false,Bool.and_true,Bool.true_and,Bool.false_and,Bool.and_false,Bool.true_or,Bool.false_or,Bool.or_true,Bool.or_false,Bool.not_true,Bool.not_false])
 refine Za<|oe (dF hs3)<|oS bF<|jI<|Zi ?_
 by_cases hs4:p.rz[r].kind=4
 refine Za<|oe (dT hs4)<|oS bT<|jG<|oW<|oA (Zl (z:=16) (.tmp 5) rfl U62 rfl (by kernel_rfl) rfl rfl) I0<|oA (Zl (z:=3) (.tmp 6) rfl U67 rfl (by kernel_rfl) rfl rfl) I0<|oK (neighH_c hnN l8 hr hi (kp:=kp) (HL.rz _<|List.getElem_mem hr) (En.nbr hc hv hr (by have:=hs4;omega) hi).1.1 (En.nbr hc hv hr (by have:=hs4;omega) hi).1.2.1 (En.nbr hc hv hr (by have:=hs4;omega) hi).1.2.2 (En.nbr hc hv hr (by have:=hs4;omega) hi).2) [.el (En.sysP p n t f) 0,.agg (En.cfV (Rd.shI p.top (Ns.shT p.top<|Ns.cntE p n f) c.sh) c),.agg ([iv r,iv i,iv kp])] rfl rfl<|oS (bv<|En.nbB p.top c p.rz[r] i)<|jE<|Ze<|Zb ?_
 refine Zd results37 (.tmp rfl) ?_
 exact cB<|(by unfold En.enR;rw [if_neg hs3,if_pos hs4];simp only [dT hs1,hs2,decide_true,decide_false,Bool.and_true,Bool.true_and,Bool.false_and,Bool.and_false,Bool.true_or,Bool.false_or,Bool.or_true,Bool.or_false,Bool.not_true,Bool.not_false])
 refine Za<|oe (dF hs4)<|oS bF<|jI<|Zi ?_
 by_cases hs5:p.rz[r].kind=5
 refine Za<|oe (dT hs5)<|oS bT<|jG<|oW<|oA (Zl (z:=16) (.tmp 5) rfl U62 rfl (by kernel_rfl) rfl rfl) I0<|oA (Zl (z:=3) (.tmp 6) rfl U67 rfl (by kernel_rfl) rfl rfl) I0<|oK (passH_c hnN l8 hr hi (HL.rz _<|List.getElem_mem hr) (En.nbr hc hv hr (by have:=hs5;omega) hi).1.1 (En.nbr hc hv hr (by have:=hs5;omega) hi).1.2.1 (En.nbr hc hv hr (by have:=hs5;omega) hi).1.2.2 (En.nbr hc hv hr (by have:=hs5;omega) hi).2) [.el (En.sysP p n t f) 0,.agg (En.cfV (Rd.shI p.top (Ns.shT p.top<|Ns.cntE p n f) c.sh) c),.agg ([iv r,iv i,iv kp])] rfl rfl<|oS (bv<|En.psB p.top c p.rz[r] i kp)<|jE<|Ze<|Zb ?_
 refine Zd results37 (.tmp rfl) ?_
 exact cB<|(by unfold En.enR;rw [if_neg hs3,if_neg hs4,if_pos hs5];simp only [dT hs1,hs2,decide_true,decide_false,Bool.and_true,Bool.true_and,Bool.false_and,Bool.and_false,Bool.true_or,Bool.false_or,Bool.or_true,Bool.or_false,Bool.not_true,Bool.not_false])
 refine Za<|oe (dF hs5)<|oS bF<|jI<|Zj<|Zs<|jC ?_
 by_cases hs6:p.rz[r].rd<0
 refine tD<|dW<|dW<|dW<|dL (iv p.rz[r].rd) (fT lenRu p.rz r 10)<|dl (dT hs6)<|dS bT<|dK<|dK<|dK<|dK<|dK<|dK<|dK<|dW<|dS bT<|eD<|Zf<|ZQ<|Zd results37 (.tmp rfl) ?_
 exact cB<|(by unfold En.enR;rw [if_neg hs3,if_neg hs4,if_neg hs5];simp only [dT hs1,hs2,dT hs6,decide_true,decide_false,Bool.and_true,Bool.true_and,Bool.false_and,Bool.and_false,Bool.true_or,Bool.false_or,Bool.or_true,Bool.or_false,Bool.not_true,Bool.not_false])
 refine tD<|dW<|dW<|dW<|dL (iv p.rz[r].rd) (fT lenRu p.rz r 10)<|dl (dF hs6)<|dS bF<|dW<|dS (iv c.val)<|dW<|dW<|dW<|dL (iv p.rz[r].rd) (fT lenRu p.rz r 10)<|dC (ZH rfl rfl) I0 I0<|dW<|dS (bv<|decide<|c.val=p.rz[r].rd)<|eD<|Zf<|ZQ<|Zd results37 (.tmp rfl) ?_
 exact cB<|(by unfold En.enR;rw [if_neg hs3,if_neg hs4,if_neg hs5];simp only [dT hs1,hs2,dF hs6,decide_true,decide_false,Bool.and_true,Bool.true_and,Bool.false_and,Bool.and_false,Bool.true_or,Bool.false_or,Bool.or_true,Bool.or_false,Bool.not_true,Bool.not_false])
 have hs2f:(En.ptB c p.rz[r] i kp)=false:=by simpa using hs2
 refine tD<|dW<|dS (iv i)<|dS (.el (En.cfV (Rd.shI p.top (Ns.shT p.top<|Ns.cntE p n f) c.sh) c) 1)<|dC (ZV (off':=1+i*1) (.tmp 41) (.tmp 40) rfl U58 (by kernel_rfl) (by omega) (by omega) rfl) I0 I0<|dA (lE (iv<|c.st.getD i 0) 42 U3<|En.cfV_st<|by omega) I0<|dW<|dW<|dW<|dL (iv p.rz[r].frm) (fT lenRu p.rz r 2)<|dn (dT' hs1)<|dS bF<|dW<|dA (Zl (z:=16) (.tmp 5) rfl U62 rfl (by kernel_rfl) rfl rfl) I0<|dW<|dA (Zl (z:=3) (.tmp 6) rfl U67 rfl (by kernel_rfl) rfl rfl) I0<|dk (Zo (ZcF hn l8 hr hi) hs2f) [.el (En.sysP p n t f) 0,.agg (En.cfV (Rd.shI p.top (Ns.shT p.top<|Ns.cntE p n f) c.sh) c),.el (p.rz.flatMap cRu) (r*18),.agg ([iv r,iv i,iv kp])] rfl rfl<|dW<|dS bT<|eD ?_
 refine Zf<|jK<|oS bF<|jE<|Zb<|Zd results37 (.tmp rfl) ?_
 exact cB<|(by unfold En.enR;simp only [dT hs1,hs2f,decide_true,decide_false,Bool.and_true,Bool.true_and,Bool.false_and,Bool.and_false,Bool.true_or,Bool.false_or,Bool.or_true,Bool.or_false,Bool.not_true,Bool.not_false])
 refine tD<|dW<|dS (iv i)<|dS (.el (En.cfV (Rd.shI p.top (Ns.shT p.top<|Ns.cntE p n f) c.sh) c) 1)<|dC (ZV (off':=1+i*1) (.tmp 41) (.tmp 40) rfl U58 (by kernel_rfl) (by omega) (by omega) rfl) I0 I0<|dA (lE (iv<|c.st.getD i 0) 42 U3<|En.cfV_st<|by omega) I0<|dW<|dW<|dW<|dL (iv p.rz[r].frm) (fT lenRu p.rz r 2)<|dn (dF' hs1)<|dS bT<|dK<|dK<|dK<|dK<|dK<|dK<|dS bT<|eD<|Zf<|jK<|oS bF<|jE<|Zb<|Zd results37 (.tmp rfl) ?_
 exact cB<|(by unfold En.enR;simp only [dF hs1,decide_true,decide_false,Bool.and_true,Bool.true_and,Bool.false_and,Bool.and_false,Bool.true_or,Bool.false_or,Bool.or_true,Bool.or_false,Bool.not_true,Bool.not_false])
variable {y:Int}
theorem ZcJ (HL:FamLen p) (hc:En.CfV p n f c) (hv:valE p=0) (l8:c.st.length<=8) (hno:(0<=x/\x<(p.rz.length:Int))->En.isP c.st.length y=false) {g:Nat->Int}:Ctr Tryz.prog J 37 [.el (En.sysP p n t f) 0,.agg (En.cfV (Rd.shI p.top (Ns.shT p.top<|Ns.cntE p n f) c.sh) c),.agg [iv x,iv y,iv kp],.agg (En.msA g)] bF:=by
 have hn:=hc.ln.symm
 have hz:=En.val_sizes hv
 refine Zn func37 rfl (pN (show Plain (.el (En.sysP p n t f) 0) from .el (ZE<|En.plain_sysP p n t f))<|pN (Zg<|En.plain_cfV _ c)<|pN (Zg<|pN (.v _)<|pN (.v _)<|pN (.v _) pZ)<|pN (Zg<|En.plain_msA _) pZ) (n:=94) rfl (by simp)<|λw0 => jB<|oA (ZC (X := .agg (En.cfV (Rd.shI p.top (Ns.shT p.top<|Ns.cntE p n f) c.sh) c)) (.tmp 1) rfl rfl rfl) I0<|oA (ZC (X := .agg [iv x,iv y,iv kp]) (.tmp 2) rfl rfl rfl) I0<|oA (ZC (X := .agg (En.msA g)) (.tmp 3) rfl rfl rfl) I0<|oS bF<|jD<|Zi ?_
 by_cases hs1:x<0
 exact tD<|dW<|dW<|dl (dT hs1)<|dS bT<|dK<|dK<|dK<|dK<|dK<|dK<|dK<|dK<|dK<|dW<|dS bT<|dK<|dK<|dK<|dK<|dK<|dS bT<|eD<|Zf<|jK<|oS bF<|jE<|Zb<|Zd results37 (.tmp rfl)<|rfl
 by_cases hs2:(p.rz.length:Int)<=x
 exact tD<|dW<|dW<|dl (dF hs1)<|dS bF<|dW<|dW<|dW<|dW<|dW<|dW<|dW<|dW<|dh (dT hs2)<|dW<|dS bT<|dK<|dK<|dK<|dK<|dK<|dS bT<|eD<|Zf<|jK<|oS bF<|jE<|Zb<|Zd results37 (.tmp rfl)<|rfl
 refine tD<|dW<|dW<|dl (dF hs1)<|dS bF<|dW<|dW<|dW<|dW<|dW<|dW<|dW<|dW<|dh (dF hs2)<|dW<|dS bF<|dW<|dW<|dW<|dk (Zo (ZaE hn)<|hno<|by have:=hs1;have:=hs2;omega) [.el (En.sysP p n t f) 0,iv y] rfl rfl<|dW<|dS bT<|eD ?_
 exact Zf<|jK<|oS bF<|jE<|Zb<|Zd results37 (.tmp rfl)<|rfl
theorem En.isP_no (h:¬ (0<=x/\x<(m:Int))):En.isP m x=false:=by
 unfold En.isP
 rw [Bool.and_eq_false_iff,decide_eq_false_iff_not,decide_eq_false_iff_not]
 omega
theorem Zb2 (HL:FamLen p) (hc:En.CfV p n f c) (hv:valE p=0) (l8:c.st.length<=8) {g:Nat->Int} (hg:∀ m,0<=g m/\g m<=3000000):Ctr Tryz.prog J 37 [.el (En.sysP p n t f) 0,.agg (En.cfV (Rd.shI p.top (Ns.shT p.top (Ns.cntE p n f)) c.sh) c),.agg [iv x,iv y,iv kp],.agg (En.msA g)] (bv (En.enB p n t f c g x y kp)):=by
 by_cases h1:0<=x/\x<(p.rz.length:Int)
 ·by_cases h2:0<=y/\y<(c.st.length:Int)
  ·obtain ⟨r,rfl⟩:=Int.eq_ofNat_of_zero_le h1.1
   obtain ⟨i,rfl⟩:=Int.eq_ofNat_of_zero_le h2.1
   have hr:r<p.rz.length:=by omega
   have hi:i<c.st.length:=by omega
   have e:En.enB p n t f c g (r:Int) (i:Int) kp=En.enR p.top n t f c g p.rz[r] i kp:=by
    unfold En.enB
    rw [En.isP_nat hr,En.isP_nat hi,Int.toNat_natCast,Int.toNat_natCast,List.getD_eq_getElem?_getD,List.getElem?_eq_getElem hr]
    rfl
   rw [e]
   exact enabled_in HL hc hv l8 hr hi hg
  have e:En.enB p n t f c g x y kp=false:=by
   unfold En.enB
   rw [En.isP_no h2];simp
  rw [e]
  exact ZcJ HL hc hv l8 λ_=>En.isP_no h2
 have e:En.enB p n t f c g x y kp=false:=by
  unfold En.enB
  rw [En.isP_no h1];rfl
 rw [e]
 exact ZcJ HL hc hv l8 λh=>absurd h h1
namespace En
theorem vc_ok (h:Rd.vcE p n t f c=0):Ns.sysE p n t f=0/\Rd.rdX p n f c=true:=by
 unfold Rd.vcE at h
 split at h
 ·rename_i hs
  split at h
  ·rename_i hx;exact ⟨hs,hx⟩
  cases h
 rename_i hs;exact absurd h hs
theorem cf_len (h:CfV p n f c) (ha:1<=n/\n<=1048576/\0<=f/\f<=n) (h8:¬ 8<n):c.st.length<=8:=by
 have:=h.ln
 unfold Ns.cntE at this
 split at this<;>omega
end En
end Go.Proofs.YtmpgnibfhjdfpaaGreat
namespace Go.Proofs.YtmpgnibfhjdfpaaGreat
open Go.RowKit Go.Deep Tryz
section
variable {P:Program} {J:World->Prop} {o:Oper}
end
theorem rulesE_all {q:Fm}:∀ (f i:Nat),rulesE q i f=0->∀ k,i<=k->k<i+f->ruleE q k (q.rz.getD k default)=0
 | 0,i,_,k,a,b=>absurd b (by omega)
 | f+1,i,e,k,a,b=>by
   unfold rulesE at e
   split at e
   ·rename_i e1
    by_cases x:i=k
    ·subst x;exact e1
    exact rulesE_all f (i+1) e k (by omega) (by omega)
   exact absurd e (by assumption)
variable {J:World->Prop}
end Go.Proofs.YtmpgnibfhjdfpaaGreat
namespace Go.Proofs.YtmpgnibfhjdfpaaGreat
open Go.RowKit Go.Deep Go.ChangeShapes Go.WideShapes Go.ChangeAt Go.Joins Tryz
theorem KG:Tryz.prog.cellsOf 3=1:=by kernel_rfl
theorem Wh:Tryz.prog.cellsOf 24=1:=by kernel_rfl
variable {w:World}{base:Nat}{held:Bool}{v:Value}
set_option maxRecDepth 100000 in
theorem Za3 {H:Type} {enc:TypeId × Value->H} {sp:Nat->Bool} {n:Nat} {x:DataW H × List MemPlace} (h:DataW.trod enc Tryz.prog w base sp held n 3 [v]=some x):∃ c,v = .int .i64 c/\I64 c:=by
 obtain ⟨c,e1,_,e3⟩:=DataW.trod_int underlying3 h
 simp at e1
 exact ⟨c,e1,I64.of_wf e3⟩
theorem ZeO:Tryz.prog.cellsOf 36=6:=by kernel_rfl
set_option maxRecDepth 100000 in
theorem Zfw {H:Type} {enc:TypeId × Value->H} {sp:Nat->Bool} {n:Nat} {cs:List Value} {x:DataW H × List MemPlace} (h:DataW.trod enc Tryz.prog w base sp held n 36 cs=some x) :
 ∃ u0 xs0 u1 xs1 c2 u3 xs3 u4 xs4 c5,cs=[u0,u1,.int .i64 c2,u3,u4,.int .i64 c5]/\IsInts 0 w u0 xs0/\IsInts 0 w u1 xs1/\I64 c2/\IsInts 0 w u3 xs3/\IsInts 0 w u4 xs4/\I64 c5:=by
 obtain ⟨ys,m,_,_,hlen,_,hf⟩:=DataW.trod_struct underlying36 h
 rw [ZeO] at hlen
 match cs,hlen with
 | [v0,v1,v2,v3,v4,v5],_ =>
   have h0:DataW.trod enc Tryz.prog w base sp held m 24 (([v0,v1,v2,v3,v4,v5].drop 0).take (Tryz.prog.cellsOf 24))=ys[0]? := hf 0 _ rfl
   rw [Wh] at h0
   simp only [List.drop_zero,List.take_succ_cons,List.take_zero] at h0
   have h1:DataW.trod enc Tryz.prog w base sp held m 24 (([v0,v1,v2,v3,v4,v5].drop 1).take (Tryz.prog.cellsOf 24))=ys[1]? := hf 1 _ rfl
   rw [Wh] at h1
   simp only [List.drop_succ_cons,List.drop_zero,List.take_succ_cons,List.take_zero] at h1
   have h2:DataW.trod enc Tryz.prog w base sp held m 3 (([v0,v1,v2,v3,v4,v5].drop 2).take (Tryz.prog.cellsOf 3))=ys[2]? := hf 2 _ rfl
   rw [KG] at h2
   simp only [List.drop_succ_cons,List.drop_zero,List.take_succ_cons,List.take_zero] at h2
   have h3:DataW.trod enc Tryz.prog w base sp held m 24 (([v0,v1,v2,v3,v4,v5].drop 3).take (Tryz.prog.cellsOf 24))=ys[3]? := hf 3 _ rfl
   rw [Wh] at h3
   simp only [List.drop_succ_cons,List.drop_zero,List.take_succ_cons,List.take_zero] at h3
   have h4:DataW.trod enc Tryz.prog w base sp held m 24 (([v0,v1,v2,v3,v4,v5].drop 4).take (Tryz.prog.cellsOf 24))=ys[4]? := hf 4 _ rfl
   rw [Wh] at h4
   simp only [List.drop_succ_cons,List.drop_zero,List.take_succ_cons,List.take_zero] at h4
   have h5:DataW.trod enc Tryz.prog w base sp held m 3 (([v0,v1,v2,v3,v4,v5].drop 5).take (Tryz.prog.cellsOf 3))=ys[5]? := hf 5 _ rfl
   rw [KG] at h5
   simp only [List.drop_succ_cons,List.drop_zero,List.take_succ_cons,List.take_zero] at h5
   have hx:∀ i,i<6->∃ y,ys[i]? = some y:=λi hi=>⟨ys[i]'(by simp at *;omega),List.getElem?_eq_getElem _⟩
   obtain ⟨y0,e0⟩:=hx 0 (by omega)
   rw [e0] at h0
   obtain ⟨xs0,q0⟩:=ZU underlying24 underlying3 KG h0
   obtain ⟨y1,e1⟩:=hx 1 (by omega)
   rw [e1] at h1
   obtain ⟨xs1,q1⟩:=ZU underlying24 underlying3 KG h1
   obtain ⟨y2,e2⟩:=hx 2 (by omega)
   rw [e2] at h2
   obtain ⟨c2,rfl,q2⟩:=Za3 h2
   obtain ⟨y3,e3⟩:=hx 3 (by omega)
   rw [e3] at h3
   obtain ⟨xs3,q3⟩:=ZU underlying24 underlying3 KG h3
   obtain ⟨y4,e4⟩:=hx 4 (by omega)
   rw [e4] at h4
   obtain ⟨xs4,q4⟩:=ZU underlying24 underlying3 KG h4
   obtain ⟨y5,e5⟩:=hx 5 (by omega)
   rw [e5] at h5
   obtain ⟨c5,rfl,q5⟩:=Za3 h5
   exact ⟨v0,xs0,v1,xs1,c2,v3,xs3,v4,xs4,c5,rfl,q0,q1,q2,q3,q4,q5⟩
end Go.Proofs.YtmpgnibfhjdfpaaGreat
namespace Go.Proofs.YtmpgnibfhjdfpaaGreat
open Go.RowKit Go.Deep Tryz
set_option maxHeartbeats 12800000
def wideCf (q:Cf):Bool:=decide (100<q.sh.length)||decide (100<q.st.length)||decide (100<q.se.length)||decide (100<q.fa.length)
variable {w:World}{v:Value}
theorem Wide_any {lo:Nat} {q:Cf} (h:IsCf lo w v q) :
 Calls Tryz.prog 11 #[v] w λe w'=>e = .returned (.bool (wideCf q))/\Below w.heap.size w w':=by
 obtain ⟨u0,u1,u3,u4,rfl,h0,h1,_,h3,h4,_⟩:=h
 have E:Hid (wideCf q=(decide (100<q.sh.length)||decide (100<q.st.length)||decide (100<q.se.length)||decide (100<q.fa.length))):=(rfl:wideCf q=_)
 have l0:q.sh.length<=9223372036854775807:=by obtain ⟨_,_,_,hh,hm,_⟩:=h0;unfold maxLen at hm;omega
 obtain ⟨a0,c0,rfl⟩:=h0.shape
 have l1:q.st.length<=9223372036854775807:=by obtain ⟨_,_,_,hh,hm,_⟩:=h1;unfold maxLen at hm;omega
 obtain ⟨a1,c1,rfl⟩:=h1.shape
 have l3:q.se.length<=9223372036854775807:=by obtain ⟨_,_,_,hh,hm,_⟩:=h3;unfold maxLen at hm;omega
 obtain ⟨a3,c3,rfl⟩:=h3.shape
 have l4:q.fa.length<=9223372036854775807:=by obtain ⟨_,_,_,hh,hm,_⟩:=h4;unfold maxLen at hm;omega
 obtain ⟨a4,c4,rfl⟩:=h4.shape
 clear h0 h1 h3 h4
 by_cases t0:100<q.sh.length
 ·have i0:(100:Int)<(q.sh.length:Int):=by omega
  go_enter func11,ntmps11
  go_wp2_with fail
  go_ret
  exact ⟨Zt (by rw [E.out,decide_eq_true t0];simp),Zm _ _⟩
 have i0:¬ (100:Int)<(q.sh.length:Int):=by omega
 by_cases t1:100<q.st.length
 ·have i1:(100:Int)<(q.st.length:Int):=by omega
  go_enter func11,ntmps11
  go_wp2_with fail
  go_ret
  exact ⟨Zt (by rw [E.out,decide_eq_true t1];simp),Zm _ _⟩
 have i1:¬ (100:Int)<(q.st.length:Int):=by omega
 by_cases t3:100<q.se.length
 ·have i3:(100:Int)<(q.se.length:Int):=by omega
  go_enter func11,ntmps11
  go_wp2_with fail
  go_ret
  exact ⟨Zt (by rw [E.out,decide_eq_true t3];simp),Zm _ _⟩
 have i3:¬ (100:Int)<(q.se.length:Int):=by omega
 by_cases t4:100<q.fa.length
 ·have i4:(100:Int)<(q.fa.length:Int):=by omega
  go_enter func11,ntmps11
  go_wp2_with fail
  go_ret
  exact ⟨Zt (by rw [E.out,decide_eq_true t4];simp),Zm _ _⟩
 have i4:¬ (100:Int)<(q.fa.length:Int):=by omega
 go_enter func11,ntmps11
 go_wp2_with fail
 go_ret
 exact ⟨Zt (by rw [E.out,decide_eq_false t0,decide_eq_false t1,decide_eq_false t3,decide_eq_false t4];simp),Zm _ _⟩
end Go.Proofs.YtmpgnibfhjdfpaaGreat
namespace Go.Proofs.YtmpgnibfhjdfpaaGreat
end Go.Proofs.YtmpgnibfhjdfpaaGreat
namespace Go.Proofs.YtmpgnibfhjdfpaaGreat
open Go.RowKit Go.Deep Tryz
namespace Rd
section
variable {J:World->Prop} {F ok:Nat->Prop} {w:World} {lo:Nat}
structure CgIn (c:Cf):Prop where
 sh:InOk c.sh
 st:InOk c.st
 se:InOk c.se
 fa:InOk c.fa
 cor:I64 c.cor
 val:I64 c.val
variable {v:Value}{c:Cf}
theorem cf_in (h:IsCf lo w v c):CgIn c:=by
 obtain ⟨_,_,_,_,_,h0,h1,h2,h3,h4,h5⟩:=h
 exact ⟨h0.ok,h1.ok,h3.ok,h4.ok,h2,h5⟩
theorem cf_pu (hok:∀ b,lo<=b->b<w.heap.size->ok b) (h:IsCf lo w v c):Pu F w ok (.agg (cCg c)) v:=by
 obtain ⟨u0,u1,u3,u4,rfl,h0,h1,_,h3,h4,_⟩:=h
 refine .agg rfl λj hj => ?_
 match j,hj with
 | 0,_=>exact YT hok h0
 | 1,_=>exact YT hok h1
 | 2,_=>exact .v _
 | 3,_=>exact YT hok h3
 | 4,_=>exact YT hok h4
 | 5,_=>exact .v _
theorem cf_of (H:CgIn c) (h:Pu F w ok (.agg (cCg c)) v):IsCf 0 w v c:=by
 obtain ⟨vs,rfl,hl,hv⟩:=Yt h
 match vs,hl,hv with
 | [v0,v1,v2,v3,v4,v5],_,hv =>
   have e2:=(hv 2 (by simp [cCg])).v_inv
   have e5:=(hv 5 (by simp [cCg])).v_inv
   simp only [List.getD_cons_succ,List.getD_cons_zero] at e2 e5
   subst e2 e5
   exact ⟨v0,v1,v3,v4,rfl,Yf H.sh (λ_ _=>Nat.zero_le _) (hv 0 (by simp [cCg])),Yf H.st (λ_ _=>Nat.zero_le _) (hv 1 (by simp [cCg])),H.cor,Yf H.se (λ_ _=>Nat.zero_le _) (hv 3 (by simp [cCg])),Yf H.fa (λ_ _=>Nat.zero_le _) (hv 4 (by simp [cCg])),H.val⟩
variable {cs ds:List AV}
theorem agg_app {us vs:List Value} (h1:Pu F w ok (.agg cs) (.agg us.toArray)) (h2:Pu F w ok (.agg ds) (.agg vs.toArray)):Pu F w ok (.agg (cs++ds)) (.agg (us++vs).toArray):=by
 obtain ⟨us',e1,l1,p1⟩:=Yt h1
 obtain ⟨vs',e2,l2,p2⟩:=Yt h2
 obtain rfl:us=us':=by simpa using e1
 obtain rfl:vs=vs':=by simpa using e2
 refine .agg (by simp [l1,l2]) λj hj => ?_
 by_cases hj':j<cs.length
 ·rw [List.getElem_append_left hj']
  have:=p1 j hj'
  simpa [Array.getD_eq_getD_getElem?,List.getD_eq_getElem?_getD,List.getElem?_append_left (show j<us.length by omega)] using this
 rw [List.getElem_append_right (by omega)]
 have:=p2 (j-cs.length) (by simp at hj;omega)
 simpa [Array.getD_eq_getD_getElem?,List.getD_eq_getElem?_getD,List.getElem?_append_right (show us.length<=j by omega),l1] using this
theorem Wide_c (H:CgIn c):Ctr Tryz.prog J 11 [.agg (cCg c)] (bv (wideCf c)):=ctr1 λw v _ h=>(Wide_any (cf_of H h)).mono λ_ _=>ret_sc
theorem cg_ok (H:CgIn c) (h:wideCf c=false):CgOk c:=by
 unfold wideCf at h
 simp only [Bool.or_eq_false_iff,decide_eq_false_iff_not] at h
 exact ⟨H.sh,H.st,H.se,H.fa,by omega,by omega,by omega,by omega⟩
end
end Rd
namespace Pe
open En Ap
section
variable {a b:Nat}
end
section
variable {a b:Nat} {c:Cf} (ha:a<c.st.length) (hb:b<c.st.length)
include ha hb
end
end Pe
namespace Rp
open En Ap
abbrev Sp:=Int × Int × Int
def cSp (s:Sp):List AV:=[iv s.1,iv s.2.1,iv s.2.2]
theorem len_cSp (s:Sp):(cSp s).length=3:=rfl
theorem plain_cSp (s:Sp):∀ X∈cSp s,Plain X:=by
 intro X hX
 simp only [cSp,List.mem_cons,List.not_mem_nil,or_false] at hX
 rcases hX with rfl | rfl | rfl<;>exact .v _
variable {l:List Int}
theorem bel_of {m:Int} (h:∀ x∈l,0<=x/\x<m):Rd.belB l m=true:=by
 unfold Rd.belB
 rw [Bool.not_eq_true',List.any_eq_false]
 intro x hx
 have:=h x hx
 unfold Rd.outB
 simp only [Bool.or_eq_true,decide_eq_true_eq,not_or]
 omega
variable {p:Fm}{n f:Int}{c:Cf}
theorem rd_of (h:CfV p n f c):Rd.rdX p n f c=true:=by
 unfold Rd.rdX Rd.rdB
 simp only [Bool.and_eq_true,Bool.not_eq_true',decide_eq_true_eq,decide_eq_false_iff_not]
 have hls:=h.ls
 have hlf:=h.lf
 have hva:=h.va
 refine ⟨⟨⟨⟨⟨⟨⟨⟨⟨h.sh,h.ln⟩,bel_of h.st⟩,h.co⟩,by omega⟩,bel_of λx hx => ?_⟩,by omega⟩,bel_of λx hx => ?_⟩,by omega⟩,by omega⟩
 ·have:=h.se x hx;omega
 have h1:=h.fa x hx
 have h2:=h.fz
 unfold Rd.mfE
 by_cases a:p.fzz=1\/p.fzz=2
 ·rw [if_pos a];omega
 rw [if_neg a]
 have:=h2 (λe=>a (.inl e)) (λe=>a (.inr e)) x hx
 omega
variable {t:Int}
theorem vc_of (hs:Ns.sysE p n t f=0) (h:CfV p n f c):Rd.vcE p n t f c=0:=by
 unfold Rd.vcE
 rw [if_pos hs,if_pos (rd_of h)]
theorem val_fault (h:valE p=0):0<=p.fzz/\p.fzz<=3:=by
 unfold valE at h
 split at h
 ·cases h
 split at h
 ·cases h
 rename_i _ h2
 have:inB 0 3 p.fzz=true:=by
  cases e:inB 0 3 p.fzz with
  | true=>rfl
  | false=>exact absurd (.inr e) h2
 unfold inB at this
 simp at this
 omega
variable {r i:Nat}{kp:Int}
theorem af_cf (hs:Ns.sysE p n t f=0) (hc:CfV p n f c) (hr:r<p.rz.length) (hi:i<c.st.length) (hl:lgB (af (n-f) c p.rz[r] i kp)=true):CfV p n f (af (n-f) c p.rz[r] i kp):=by
 obtain ⟨hv,ha,h8⟩:=Ns.sys_ok hs
 have hai:=Ns.adm_in ha
 have R:=val_in hv (List.getElem_mem hr)
 have hln:=hc.ln
 rw [lg_and] at hl
 refine ⟨?_,st_in hc R,hc.co,?_,λx hx => ?_,?_,λx hx => ?_,λn1 n2 x hx => ?_,?_,hc.sh⟩
 ·show (((stA _ _ _ _).length:Nat):Int)=_
  rw [Zda];exact hc.ln
 ·show (seA _ _ _ _ _).length=_
  rw [seA_len];exact hc.ls
 ·have:=Zac hl.1 x hx;omega
 ·show (faA _ _ _ _ _).length=_
  rw [faA_len];exact hc.lf
 ·have:=Zac hl.2 x hx;omega
 ·have hi2:(i:Int)<n-f:=by
   unfold Ns.cntE at hln
   by_cases h3:p.fzz=3
   ·rw [if_pos h3] at hln;omega
   rw [if_neg h3] at hln
   have h0:p.fzz=0->f=0:=λe=>by
    unfold admB at ha
    simp only [Bool.and_eq_true] at ha
    have:=ha.1.1.2
    rw [e] at this
    simp at this
    exact this.2
   have:=val_fault hv
   have:p.fzz=0:=by omega
   have:=h0 this
   omega
  have e:(af (n-f) c p.rz[r] i kp).fa=c.fa:=if_pos hi2
  rw [e] at hx
  exact hc.fz n1 n2 x hx
 show 0<=(if 0<=p.rz[r].wr then p.rz[r].wr else c.val)/\(if 0<=p.rz[r].wr then p.rz[r].wr else c.val)<max (p.vals.length:Int) 1
 have:=hc.va
 have hw:=R.wr
 split<;>omega
def nx (p:Fm) (n f:Int) (c:Cf) (s:Sp):Cf:=afX p n f c s.1 s.2.1 s.2.2
def ee (p:Fm) (n t f:Int) (c:Cf) (s:Sp):Int:=apE p n t f c s.1 s.2.1 s.2.2
def cK (p:Fm) (n f:Int) (c:Cf) (ss:List Sp) (k:Nat):Cf:=(ss.take k).foldl (nx p n f) c
variable {k:Nat}
theorem cK_succ {ss:List Sp} (h:k<ss.length):cK p n f c ss (k+1)=nx p n f (cK p n f c ss k) ss[k]:=by
 unfold cK
 rw [List.take_succ_eq_append_getElem h,List.foldl_append]
 rfl
theorem cK_sh {ss:List Sp} (k:Nat):(cK p n f c ss k).sh=c.sh:=by
 unfold cK
 generalize ss.take k=l
 induction l generalizing c with
 | nil=>rfl
 | cons s l ih=>show (l.foldl (nx p n f) (nx p n f c s)).sh=_;rw [ih];rfl
theorem ee_ok {s:Sp} (hs:Ns.sysE p n t f=0) (hc:CfV p n f c) (h:ee p n t f c s=0) :
 ∃ (r i:Nat) (hr:r<p.rz.length),i<c.st.length/\s.1=(r:Int)/\s.2.1=(i:Int)/\enB p n t f c (hdJ p f c p.msgs.length) s.1 s.2.1 s.2.2=true/\lgB (nx p n f c s)=true/\nx p n f c s=af (n-f) c p.rz[r] i s.2.2:=by
 have hz:=vc_of hs hc
 unfold ee at h
 cases he:enB p n t f c (hdJ p f c p.msgs.length) s.1 s.2.1 s.2.2 with
 | false=>rw [apE_no hz he] at h;cases h
 | true =>
   obtain ⟨r,i,hr,hi,e1,e2⟩:=en_at he
   refine ⟨r,i,hr,hi,e1,e2,rfl,?_,?_⟩
   ·unfold apE at h
    rw [if_pos hz,if_pos he] at h
    cases e:lgB (afX p n f c s.1 s.2.1 s.2.2) with
    | true=>exact e
    | false=>rw [e] at h;cases h
   unfold nx;rw [e1,e2,afX_at hr]
theorem nx_cf {s:Sp} (hs:Ns.sysE p n t f=0) (hc:CfV p n f c) (h:ee p n t f c s=0):CfV p n f (nx p n f c s):=by
 obtain ⟨r,i,hr,hi,e1,e2,he,hl,e⟩:=ee_ok hs hc h
 rw [e] at hl ⊢
 exact af_cf hs hc hr hi hl
theorem nx_ok {s:Sp} (HL:FamLen p) (hs:Ns.sysE p n t f=0) (hc:CfV p n f c) (HC:Rd.CgOk c) (h:ee p n t f c s=0):Rd.CgOk (nx p n f c s):=by
 obtain ⟨r,i,hr,hi,e1,e2,he,hl,e⟩:=ee_ok hs hc h
 obtain ⟨hv,ha,h8⟩:=Ns.sys_ok hs
 rw [e]
 exact af_ok HL hc hv HC (cf_len hc (Ns.adm_in ha) h8) hr hi
def okK (p:Fm) (n t f:Int) (c:Cf) (ss:List Sp) (k:Nat):Prop:=∀ j (h:j<ss.length),j<k->ee p n t f (cK p n f c ss j) ss[j]=0
theorem ok_zero {ss:List Sp}:okK p n t f c ss 0:=λ_ _ h=>absurd h (by omega)
theorem ok_succ {ss:List Sp} (hk:k<ss.length) (h:okK p n t f c ss k) (e:ee p n t f (cK p n f c ss k) ss[k]=0):okK p n t f c ss (k+1):=λj hj hjk=>by
 by_cases a:j=k
 ·subst a;exact e
 exact h j hj (by omega)
theorem cK_cf {p:Fm} {n t f:Int} {c:Cf} {ss:List Sp} (hs:Ns.sysE p n t f=0) (hc:CfV p n f c):∀ k,k<=ss.length->okK p n t f c ss k->CfV p n f (cK p n f c ss k)
 | 0,_,_=>hc
 | k+1,hk,h=>by
   have h1:=cK_cf hs hc k (by omega) λj hj hjk=>h j hj (by omega)
   rw [cK_succ (by omega)]
   exact nx_cf hs h1 (h k (by omega) (by omega))
theorem cK_ok {p:Fm} {n t f:Int} {c:Cf} {ss:List Sp} (HL:FamLen p) (hs:Ns.sysE p n t f=0) (hc:CfV p n f c) (HC:Rd.CgOk c):∀ k,k<=ss.length->okK p n t f c ss k->Rd.CgOk (cK p n f c ss k)
 | 0,_,_=>HC
 | k+1,hk,h=>by
   have h0:okK p n t f c ss k:=λj hj hjk=>h j hj (by omega)
   have h1:=cK_ok HL hs hc HC k (by omega) h0
   rw [cK_succ (by omega)]
   exact nx_ok HL hs (cK_cf hs hc k (by omega) h0) h1 (h k (by omega) (by omega))
theorem len_cCg (c:Cf):(Rd.cCg c).length=6:=rfl
def cRun (c:Cf) (ss:List Sp):List AV:=Rd.cCg c++[slA 3 cSp ss]
def frst:List Int->Int
 | []=>0
 | e::l=>if e=0 then frst l else e
theorem Zey:∀ {l:List Int},(∀ e∈l,e=0)->frst l=0
 | [],_=>rfl
 | e::l,h=>by unfold frst;rw [if_pos (h e (by simp))];exact Zey λx hx=>h x (by simp [hx])
theorem frst_all:∀ {l:List Int},frst l=0->∀ e∈l,e=0
 | [],_,_,h=>absurd h List.not_mem_nil
 | a::l,h,e,he=>by
   unfold frst at h
   split at h
   ·rename_i ha
    rcases List.mem_cons.1 he with rfl | he
    ·exact ha
    exact frst_all h e he
   rename_i ha;exact absurd h ha
theorem frst_at:∀ {l:List Int} {k:Nat} (hk:k<l.length),(∀ j (hj:j<l.length),j<k->l[j]=0)->¬ l[k]=0->frst l=l[k]
 | [],_,hk,_,_=>absurd hk (by simp)
 | a::l,0,_,_,he=>by unfold frst;rw [if_neg (show ¬ a=0 from he)];rfl
 | a::l,k+1,hk,h,he=>by
   unfold frst
   rw [if_pos (show a=0 from h 0 (by simp) (by omega))]
   exact frst_at (l:=l) (k:=k) (by simpa using hk) (λj hj hjk=>h (j+1) (by simpa using hj) (by omega)) he
def eeL (p:Fm) (n t f:Int) (c:Cf) (ss:List Sp):List Int:=(List.range ss.length).map λj=>ee p n t f (cK p n f c ss j) (ss.getD j (0,0,0))
theorem Zdu (p:Fm) (n t f:Int) (c:Cf) (ss:List Sp):(eeL p n t f c ss).length=ss.length:=by simp [eeL]
variable {j:Nat}
theorem ZeB {ss:List Sp} (h:j<ss.length):(eeL p n t f c ss)[j]'(by rw [Zdu];exact h)=ee p n t f (cK p n f c ss j) ss[j]:=by
 simp only [eeL,List.getElem_map,List.getElem_range]
 rw [List.getD_eq_getElem?_getD,List.getElem?_eq_getElem h];rfl
def rpE (p:Fm) (n t f:Int) (c:Cf) (ss:List Sp):Int:=if Ns.sysE p n t f=0 then (if Rd.rdX p n f c=true then frst (eeL p n t f c ss) else 10) else Ns.sysE p n t f
def rpK (p:Fm) (n f:Int) (c:Cf) (ss:List Sp) (k:Nat):List Cf:=(List.range (k+1)).map (cK p n f c ss)
def rpL (p:Fm) (n t f:Int) (c:Cf) (ss:List Sp):List Cf:=if rpE p n t f c ss=0 then rpK p n f c ss ss.length else []
theorem rpK_succ (p:Fm) (n f:Int) (c:Cf) (ss:List Sp) (k:Nat):rpK p n f c ss (k+1)=rpK p n f c ss k++[cK p n f c ss (k+1)]:=by
 unfold rpK
 rw [List.range_succ (n:=k+1),List.map_append]
 rfl
theorem rpK_len (p:Fm) (n f:Int) (c:Cf) (ss:List Sp) (k:Nat):(rpK p n f c ss k).length=k+1:=by simp [rpK]
theorem rpK_at {ss:List Sp} (h:j<k+1):(rpK p n f c ss k)[j]'(by rw [rpK_len];exact h)=cK p n f c ss j:=by simp [rpK]
section
variable {p:Fm} {n t f:Int} {c:Cf} {ss:List Sp}
theorem rp_sys (h:¬ Ns.sysE p n t f=0):rpE p n t f c ss=Ns.sysE p n t f:=by unfold rpE;rw [if_neg h]
theorem rp_run (h:Ns.sysE p n t f=0) (hx:Rd.rdX p n f c=false):rpE p n t f c ss=10:=by unfold rpE;rw [if_pos h,hx];rfl
theorem rp_err (h:Ns.sysE p n t f=0) (hx:Rd.rdX p n f c=true) (hk:k<ss.length) (ok:okK p n t f c ss k) (e:¬ ee p n t f (cK p n f c ss k) ss[k]=0):rpE p n t f c ss=ee p n t f (cK p n f c ss k) ss[k]:=by
 unfold rpE
 rw [if_pos h,if_pos hx,frst_at (k:=k) (by rw [Zdu];exact hk) (λj hj hjk => ?_) (by rw [ZeB hk];exact e),ZeB hk]
 have hj':j<ss.length:=by rw [Zdu] at hj;exact hj
 rw [ZeB hj']
 exact ok j hj' hjk
theorem rp_ok (h:Ns.sysE p n t f=0) (hx:Rd.rdX p n f c=true) (ok:okK p n t f c ss ss.length):rpE p n t f c ss=0:=by
 unfold rpE
 rw [if_pos h,if_pos hx]
 refine Zey λe he => ?_
 obtain ⟨j,hj,rfl⟩:=List.getElem_of_mem he
 have hj':j<ss.length:=by rw [Zdu] at hj;exact hj
 rw [ZeB hj']
 exact ok j hj' hj'
theorem ok_rp (h:rpE p n t f c ss=0):Ns.sysE p n t f=0/\Rd.rdX p n f c=true/\okK p n t f c ss ss.length:=by
 unfold rpE at h
 split at h
 ·rename_i hs
  split at h
  ·rename_i hx
   refine ⟨hs,hx,λj hj _ => ?_⟩
   rw [<- ZeB hj]
   exact frst_all h _ (List.getElem_mem _)
  cases h
 rename_i hs;exact absurd h hs
theorem rpL_no (h:¬ rpE p n t f c ss=0):rpL p n t f c ss=[]:=by unfold rpL;rw [if_neg h]
theorem rpL_yes (h:rpE p n t f c ss=0):rpL p n t f c ss=rpK p n f c ss ss.length:=by unfold rpL;rw [if_pos h]
theorem rpL_len (h:rpE p n t f c ss=0):(rpL p n t f c ss).length=ss.length+1:=by rw [rpL_yes h,rpK_len]
theorem rpL_at (h:rpE p n t f c ss=0) (hj:j<(rpL p n t f c ss).length):(rpL p n t f c ss)[j]=cK p n f c ss j:=by
 have hl:=rpL_len h
 simp only [rpL_yes h]
 exact rpK_at (by omega)
end
def frCg (c:Cf):List AV:=[.fr (Zc c.sh),.fr (Zc c.st),iv c.cor,.fr (Zc c.se),.fr (Zc c.fa),iv c.val]
theorem newCg (c:Cf):∀ d∈frCg c,d.isNew=true:=λd hd=>by
 simp only [frCg,List.mem_cons,List.not_mem_nil,or_false] at hd;rcases hd with rfl | rfl | rfl | rfl | rfl | rfl<;>rfl
theorem cellCg (c:Cf):∀ d∈frCg c,d.cell=true:=λd hd=>by
 simp only [frCg,List.mem_cons,List.not_mem_nil,or_false] at hd;rcases hd with rfl | rfl | rfl | rfl | rfl | rfl<;>rfl
theorem snocCg {ss:List Sp} :(rpK p n f c ss k).flatMap Rd.cCg++Z6 true (frCg (cK p n f c ss (k+1)))=(rpK p n f c ss (k+1)).flatMap Rd.cCg:=by
 rw [rpK_succ,List.flatMap_append]
 simp [Z6,AV.unfr,frCg,Rd.cCg]
end Rp
namespace Vi
open En
variable {p:Fm}{n f:Int}{c:Cf}
theorem v_ok (hai:1<=n/\n<=1048576/\0<=f/\f<=n) (h:CfV p n f c):Jd.okB p c=true:=by
 have h1:=h.ln
 have h2:=h.co
 have h4:0<=c.cor/\c.cor<=(c.st.length:Int):=by
  rw [h2,h1]
  unfold Ns.cntE
  split<;>omega
 unfold Jd.okB Ct.plB
 rw [Rp.bel_of h.st,decide_eq_true h4.1,decide_eq_true h4.2]
 by_cases ht:p.top=4
 ·rw [En.sh_tree h ht];simp
 rw [decide_eq_false ht];rfl
def viB (p:Fm) (q:Pq) (n t f:Int) (c:Cf) (ss:List Rp.Sp):Bool :=
 decide (vpE p q=0)&&(decide (q.kind=1)&&(decide (Rp.rpE p n t f c ss=0)&&(inB p q (n-f) c&&Jd.bdV p q (Rp.cK p n f c ss ss.length))))
section
variable {p:Fm} {q:Pq} {n t f:Int} {c:Cf} {ss:List Rp.Sp}
theorem vi_vp (h:¬ vpE p q=0):viB p q n t f c ss=false:=by unfold viB;rw [decide_eq_false h];rfl
theorem vi_kd (h:¬ q.kind=1):viB p q n t f c ss=false:=by unfold viB;rw [decide_eq_false h];simp
theorem vi_rp (h:¬ Rp.rpE p n t f c ss=0):viB p q n t f c ss=false:=by unfold viB;rw [decide_eq_false h];simp
theorem vi_in (h:inB p q (n-f) c=false):viB p q n t f c ss=false:=by unfold viB;rw [h];simp
theorem vi_sys (h:¬ Ns.sysE p n t f=0):viB p q n t f c ss=false:=vi_rp (by rw [Rp.rp_sys h];exact h)
theorem vi_rv (h:Ns.sysE p n t f=0) (hx:Rd.rdX p n f c=false):viB p q n t f c ss=false:=vi_rp (by rw [Rp.rp_run h hx];decide)
theorem vi_yes (h1:vpE p q=0) (h2:q.kind=1) (h3:Rp.rpE p n t f c ss=0) (h4:inB p q (n-f) c=true):viB p q n t f c ss=Jd.bdV p q (Rp.cK p n f c ss ss.length):=by
 unfold viB;rw [decide_eq_true h1,decide_eq_true h2,decide_eq_true h3,h4];rfl
end
end Vi
end Go.Proofs.YtmpgnibfhjdfpaaGreat
