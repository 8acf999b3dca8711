import Derived.Test.YtdbehgbggaaipaaGreatProg
import Derived.ChangeArms
import Derived.Test.YtdbehgbggaaipaaGreatGrplepkmfdd
import Derived.Test.YtdbehgbggaaipaaGreatGrpjljjncbf
import Derived.Test.YtdbehgbggaaipaaGreatGrpebeobalj
import Derived.Test.YtdbehgbggaaipaaGreatGrphcbildpf
import Derived.Test.YtdbehgbggaaipaaGreatGrpinmkkjpe
import Derived.Test.YtdbehgbggaaipaaGreatGrpcihmmilk
import Derived.Test.YtdbehgbggaaipaaGreatGrpblcpooha
import Derived.Test.YtdbehgbggaaipaaGreatGrpmknfboop
import Derived.Test.YtdbehgbggaaipaaGreatGrpblgjngcl
set_option linter.all false
namespace Go.Proofs.YtdbehgbggaaipaaGreat
open Go.RowKit Go.Deep
variable {J:World→Prop}
variable {p:Fm}{n t f:Int}{c:Cf}
theorem En.read_t (HC:Rd.CgOk c) (hx:Rd.rdX p n f c=true):Ctr Tryz.prog J 30 [.el (Ns.sysC p n t f) 0,.agg (Rd.cCg c)] (.tup [.agg (En.cfV (Rd.shI p.top (Ns.shT p.top (Ns.cntE p n f)) c.sh) c),bT]):=by
 have h:=read_c (J:=J) (p:=p) (n:=n) (t:=t) (f:=f) HC
 rw [show Rd.rdY p n f c=true from hx,hx] at h
 exact h
variable {w:World}{v:Value}
theorem pu_part {F ok:Nat→Prop} {cs ds:List AV} {o:Nat} (hl:cs.length=ds.length) (h:∀ (j:Nat) (h1:j<cs.length) (h2:j<ds.length),ds[j]=cs[j]∨ds[j] = .any) (hp:Pu F w ok (.el cs o) v):Pu F w ok (.el ds o) v:=by
 cases hp with
 | el hb hw hf hh =>
   refine .el hb hw (fun j hj=>hf j (by omega)) fun j hj => ?_
   rcases h j (by omega) hj with e | e
   ·rw [e];exact hh j (by omega)
   rw [e];exact .any _
theorem En.sys_part :(En.sysP p n t f).length=(Ns.sysC p n t f).length∧∀ (j:Nat) (h1:j<(En.sysP p n t f).length) (h2:j<(Ns.sysC p n t f).length),(Ns.sysC p n t f)[j]=(En.sysP p n t f)[j]∨(Ns.sysC p n t f)[j] = .any:=by
 refine ⟨by unfold En.sysP;rw [En.sysB_len];rfl,fun j h1 h2 => ?_⟩
 have h3:j<33:=h2
 obtain rfl | rfl | rfl | rfl | rfl | rfl | rfl | rfl | rfl | rfl | rfl | rfl | rfl | rfl | rfl | rfl | rfl | rfl | rfl | rfl | rfl | rfl | rfl | rfl | rfl | rfl | rfl | rfl | rfl | rfl | rfl | rfl | rfl:j=0∨j=1∨j=2∨j=3∨j=4∨j=5∨j=6∨j=7∨j=8∨j=9∨j=10∨j=11∨j=12∨j=13∨j=14∨j=15∨j=16∨j=17∨j=18∨j=19∨j=20∨j=21∨j=22∨j=23∨j=24∨j=25∨j=26∨j=27∨j=28∨j=29∨j=30∨j=31∨j=32:=by omega
 ·exact .inl (by kernel_rfl)
 ·exact .inl (by kernel_rfl)
 ·exact .inl (by kernel_rfl)
 ·exact .inl (by kernel_rfl)
 ·exact .inl (by kernel_rfl)
 ·exact .inl (by kernel_rfl)
 ·exact .inl (by kernel_rfl)
 ·exact .inl (by kernel_rfl)
 ·exact .inl (by kernel_rfl)
 ·exact .inl (by kernel_rfl)
 ·exact .inl (by kernel_rfl)
 ·exact .inl (by kernel_rfl)
 ·exact .inl (by kernel_rfl)
 ·exact .inl (by kernel_rfl)
 ·exact .inl (by kernel_rfl)
 ·exact .inr rfl
 ·exact .inr rfl
 ·exact .inr rfl
 ·exact .inr rfl
 ·exact .inr rfl
 ·exact .inr rfl
 ·exact .inr rfl
 ·exact .inr rfl
 ·exact .inr rfl
 ·exact .inr rfl
 ·exact .inr rfl
 ·exact .inr rfl
 ·exact .inr rfl
 ·exact .inr rfl
 ·exact .inr rfl
 ·exact .inr rfl
 ·exact .inl (by kernel_rfl)
 exact .inr rfl
theorem En.read_p (HC:Rd.CgOk c) (hx:Rd.rdX p n f c=true):Ctr Tryz.prog J 30 [.el (En.sysP p n t f) 0,.agg (Rd.cCg c)] (.tup [.agg (En.cfV (Rd.shI p.top (Ns.shT p.top (Ns.cntE p n f)) c.sh) c),bT]):=by
 intro w vs hJ hl hv
 refine En.read_t (J:=J) (p:=p) (n:=n) (t:=t) (f:=f) HC hx w vs hJ hl fun j hj => ?_
 match j,hj with
 | 0,_=>exact pu_part En.sys_part.1 En.sys_part.2 (hv 0 (by simp))
 | 1,_=>exact hv 1 (by simp)
theorem En.read_q (HC:Rd.CgOk c) (hx:Rd.rdX p n f c=false):Ctr Tryz.prog J 30 [.el (En.sysP p n t f) 0,.agg (Rd.cCg c)] (.tup [.agg (Rd.cfZ false (Rd.shI p.top (Ns.shT p.top (Ns.cntE p n f)) c.sh) c),bF]):=by
 intro w vs hJ hl hv
 have h:=read_c (J:=J) (p:=p) (n:=n) (t:=t) (f:=f) HC w vs hJ hl fun j hj => ?_
 ·rw [show Rd.rdY p n f c=false from hx,hx] at h
  exact h
 match j,hj with
 | 0,_=>exact pu_part En.sys_part.1 En.sys_part.2 (hv 0 (by simp))
 | 1,_=>exact hv 1 (by simp)
set_option maxRecDepth 100000
set_option maxHeartbeats 6400000
variable {m:Nat}{x:Int}
theorem ZaH (hn:(Ns.cntE p n f)=(m:Int)) :Ctr Tryz.prog J 58 [.el (En.sysP p n t f) 0,iv x] (bv (En.isP m x)):=by
 refine Zm Tryz.func58 rfl (pN (show Plain (.el (En.sysP p n t f) 0) from .el (ZN (En.plain_sysP p n t f))) (pN (.v _) pZ)) (n:=15) rfl (by simp) (fun w0 => ?_)
 refine kW 15 [] [(0,.el (En.sysP p n t f) 0),(1,iv x)] (jB (oS bF (jD ?_)))
 by_cases hs1:0≤x
 refine Za (oW (oh (dT hs1) (oS bT (oS (iv x) (oW (oW (oF (iv (Ns.cntE p n f)) (gC (Zcc rfl rfl) I0 I0 (oF (bv (decide (x<(Ns.cntE p n f)))) (jE ?_))))))))))
 refine Zg Tryz.results58 (.tmp rfl) ?_
 exact cB ((by unfold En.isP;rw [← hn];simp only [hs1,decide_true,decide_false,Bool.and_true,Bool.true_and,Bool.false_and,Bool.and_false,Bool.true_or,Bool.false_or,Bool.or_true,Bool.or_false,Bool.not_true,Bool.not_false]))
 refine Za (oW (oh (dF hs1) (oS bF (qK (qK (qK (qK (qK (qK (oF bF (jE ?_)))))))))))
 refine Zg Tryz.results58 (.tmp rfl) ?_
 exact cB ((by unfold En.isP;rw [← hn];simp only [hs1,decide_true,decide_false,Bool.and_true,Bool.true_and,Bool.false_and,Bool.and_false,Bool.true_or,Bool.false_or,Bool.or_true,Bool.or_false,Bool.not_true,Bool.not_false]))
variable {r:Nat}
theorem ZbM (hr:r<p.rz.length):Ctr Tryz.prog J 63 [.el (p.rz.flatMap cRu) (r*18)] (bv (decide (p.rz[r].kind=2)||decide (p.rz[r].kind=5))):=by
 refine Zm Tryz.func63 rfl (pN (.el (ZN fun X hX=>by obtain ⟨x,_,hx⟩:=List.mem_flatMap.1 hX;exact Y0 x X hx)) pZ) (n:=15) rfl (by simp) (fun w0 => ?_)
 refine kW 15 [] [(0,.el (p.rz.flatMap cRu) (r*18))] (jB (oS bF (jD ?_)))
 by_cases hs1:p.rz[r].kind=2
 refine Za (oW (oW (oW (oL (iv p.rz[r].kind) (fT lenRu p.rz r 1) (oe (dT hs1) (oS bT (qK (qK (qK (qK (qK (oF bT (jE ?_)))))))))))))
 refine Zg Tryz.results63 (.tmp rfl) ?_
 exact cB ((by simp only [hs1,decide_true,decide_false,Bool.and_true,Bool.true_and,Bool.false_and,Bool.and_false,Bool.true_or,Bool.false_or,Bool.or_true,Bool.or_false,Bool.not_true,Bool.not_false]))
 refine Za (oW (oW (oW (oL (iv p.rz[r].kind) (fT lenRu p.rz r 1) (oe (dF hs1) (oS bF (oW (oW (oW (oL (iv p.rz[r].kind) (fT lenRu p.rz r 1) (gC (ZM rfl rfl) I0 I0 (oF (bv (decide (p.rz[r].kind=5))) (jE ?_)))))))))))))
 refine Zg Tryz.results63 (.tmp rfl) ?_
 exact cB ((by simp only [hs1,decide_true,decide_false,Bool.and_true,Bool.true_and,Bool.false_and,Bool.and_false,Bool.true_or,Bool.false_or,Bool.or_true,Bool.or_false,Bool.not_true,Bool.not_false]))
abbrev XEn4_h1 (x0:Cf):List (Nat × ABlk):=[(1,.box 69 [iv 0,iv 0,iv 0]),(2,.box 69 [iv (x0.se.getD 0 0),iv (x0.se.getD 1 0),iv (x0.se.getD 2 0)])]
abbrev WL (x0:Fm) (x1:Int) (x2:Cf) (x3:Nat):List (Nat × ABlk):=[(1,.box 69 [iv 0,iv 0,iv 0]),(2,.box 69 (En.msA (En.hdJ x0 x1 x2 (x3+1))))]
abbrev XEn4_h3 (x0:Fm) (x1:Int) (x2:Int) (x3:Int) (x4:Int) (x5:Cf) (x6:Nat):List (Nat × AV):=[(0,.el (En.sysP x0 x1 x2 x3) 0),(3,.el (En.cfV x4 x5) 0),(4,bx 1),(5,bx 2),(6,iv x6),(14,iv x0.msgs.length),(15,iv x6),(16,bT),(22,iv x0.fzz),(23,bT)]
abbrev XEn4_h4 (x0:Fm) (x1:Int) (x2:Int) (x3:Int) (x4:Int) (x5:Cf) (x6:Nat):List (Nat × AV):=[(0,.el (En.sysP x0 x1 x2 x3) 0),(3,.el (En.cfV x4 x5) 0),(4,bx 1),(5,bx 2),(6,iv x6),(14,iv x0.msgs.length),(15,iv (x6+1:Nat)),(16,bT),(22,iv x0.fzz),(23,bT)]
abbrev Zfe (x0:Fm) (x1:Int) (x2:Int) (x3:Int) (x4:Int) (x5:Cf) (x6:Nat):List (Nat × AV):=[(0,.el (En.sysP x0 x1 x2 x3) 0),(3,.el (En.cfV x4 x5) 0),(4,bx 1),(5,bx 2),(14,iv x0.msgs.length),(15,iv ((x6+1):Nat))]
variable {sx:Int}
theorem ZeU (hc:En.CfV p n f c) (hf:0≤f∧f≤1048576) (h3:p.msgs.length≤3) :Ctr Tryz.prog J 39 [.el (En.sysP p n t f) 0,.agg (En.cfV sx c)] (.agg (En.msA (En.hdJ p f c p.msgs.length))):=by
 refine Zm Tryz.func39 rfl (pN (show Plain (.el (En.sysP p n t f) 0) from .el (ZN (En.plain_sysP p n t f))) (pN (Zh (En.plain_cfV _ c)) pZ)) (n:=49) rfl (by simp) (fun w0 => ?_)
 refine kW 49 [] [(0,.el (En.sysP p n t f) 0),(1,.agg (En.cfV sx c))] (jB (oA (ZD (X := .agg (En.cfV sx c)) (.tmp 1) rfl rfl rfl) I0 (oZ 1 Z69 (jD (Za (oS (.el (En.cfV sx c) 9) (oA (Zj (z:=3) (ds:=[iv (c.se.getD 0 0),iv (c.se.getD 1 0),iv (c.se.getD 2 0)]) (.tmp 7) rfl U69 rfl (by kernel_rfl) (by kernel_rfl) rfl) I0 (oZ 2 Z69 (oY (kN 49 (XEn4_h1 c) [(0,.el (En.sysP p n t f) 0),(3,.el (En.cfV sx c) 0),(4,bx 1),(5,bx 2)] (jC (jB (oW (oW (oW (oW (oF (iv p.msgs.length) (oS (iv 0) ?_))))))))))))))))))
 refine kN 49 (XEn4_h1 c) [(0,.el (En.sysP p n t f) 0),(3,.el (En.cfV sx c) 0),(4,bx 1),(5,bx 2),(14,iv p.msgs.length),(15,iv 0)] (Zf (Zo ?_))
 refine ZL (σ:={j:Nat // j≤p.msgs.length}) (fun s=>(ofL [(1,.box 69 [iv 0,iv 0,iv 0]),(2,.box 69 (En.msA (En.hdJ p f c s.1)))],ofT 49 [(0,.el (En.sysP p n t f) 0),(3,.el (En.cfV sx c) 0),(4,bx 1),(5,bx 2),(14,iv p.msgs.length),(15,iv s.1)])) (fun s=>p.msgs.length-s.1) ⟨0,Nat.zero_le _⟩ (Zp _ _) (fun s => ?_)
 obtain ⟨j,hj0⟩:=s
 show ETri J w0 (ofL [(1,.box 69 [iv 0,iv 0,iv 0]),(2,.box 69 (En.msA (En.hdJ p f c j)))]) (ofT 49 [(0,.el (En.sysP p n t f) 0),(3,.el (En.cfV sx c) 0),(4,bx 1),(5,bx 2),(14,iv p.msgs.length),(15,iv j)]) _
 refine Zl ?_
 by_cases hs1:(j:Int)<(p.msgs.length:Int)
 have hj1:j<3:=by omega
 have hb1:=En.hdJ_in hc hf j j
 have hb2:=hc.fa_at j
 refine Za (ol (dT hs1) (jD (Yb rfl (Zq (jC (Zo (jB (oF (iv j) (jD (Za (oW (oW (oW (oF (iv p.fzz) (jA (Zo ?_))))))))))))))))
 refine jM ?_
 by_cases hs2:p.fzz=1
 refine Za (oe (dT hs2) (oS bT (jH (Zq (Zf (Yb rfl ?_))))))
 refine tD (dS (iv j) (dC (Z6 (off':=0+j*1) (.tmp 5) (.tmp 26) rfl U69 (by kernel_rfl) (by omega) (by omega) rfl) I0 I0 (dB (lB (.box 69 (En.msA (En.hdJ p f c j))) (iv (En.hdJ p f c j j)) (.tmp 27) rfl U3 rfl (En.msA_get (by omega))) I0 rfl (dS (iv j) (dS (.el (En.cfV sx c) 12) (dC (ZX (off':=12+j*1) (.tmp 30) (.tmp 29) rfl U69 (by kernel_rfl) (by omega) (by omega) rfl) I0 I0 (dA (lE (iv (c.fa.getD j 0)) 31 U3 (En.cfV_fa (by omega))) I0 (dC (WW (c:=(En.hdJ p f c j j)+(c.fa.getD j 0)) rfl (w64 (by omega) (by omega) (by omega))) I0 I0 (dC (Z6 (off':=0+j*1) (.tmp 5) (.tmp 26) rfl U69 (by kernel_rfl) (by omega) (by omega) rfl) I0 I0 (dR (Yo (T0:=69) (X:=iv ((En.hdJ p f c j j)+(c.fa.getD j 0))) (off:=0+j*1) (cs:=En.msA (En.hdJ p f c j)) (ds:=En.msA (En.hdJ p f c (j+1))) (z:=1) (.tmp 34) (.tmp 33) rfl (by kernel_rfl) (by kernel_rfl) (by kernel_rfl) (by show _≤3;omega) (En.msA_step (by omega) (En.hd_12 (.inl hs2)))) ⟨I0,I0,T0⟩ ⟨rfl,T0⟩ rfl (eD ?_)))))))))))
 refine kW 49 (WL p f c j) (XEn4_h3 p n t f sx c j) (Zv (Zv (Zf (Za (oV ((j+1:Nat):Int) (oS (iv (j+1:Nat)) (kN 49 (WL p f c j) (XEn4_h4 p n t f sx c j) (Zf ?_))))))))
 refine Zs ⟨j+1,by omega⟩ (show p.msgs.length-(j+1)<p.msgs.length-j by omega) ?_
 show Wk _ _ (ofL (WL p f c j)) (ofT 49 (Zfe p n t f sx c j))
 exact Zp _ _
 refine Za (oe (dF hs2) (oS bF (jI ?_)))
 by_cases hs3:p.fzz=2
 refine Za (oe (dT hs3) (oS bT (jH ?_)))
 refine tD (dS (iv j) (dC (Z6 (off':=0+j*1) (.tmp 5) (.tmp 26) rfl U69 (by kernel_rfl) (by omega) (by omega) rfl) I0 I0 (dB (lB (.box 69 (En.msA (En.hdJ p f c j))) (iv (En.hdJ p f c j j)) (.tmp 27) rfl U3 rfl (En.msA_get (by omega))) I0 rfl (dS (iv j) (dS (.el (En.cfV sx c) 12) (dC (ZX (off':=12+j*1) (.tmp 30) (.tmp 29) rfl U69 (by kernel_rfl) (by omega) (by omega) rfl) I0 I0 (dA (lE (iv (c.fa.getD j 0)) 31 U3 (En.cfV_fa (by omega))) I0 (dC (WW (c:=(En.hdJ p f c j j)+(c.fa.getD j 0)) rfl (w64 (by omega) (by omega) (by omega))) I0 I0 (dC (Z6 (off':=0+j*1) (.tmp 5) (.tmp 26) rfl U69 (by kernel_rfl) (by omega) (by omega) rfl) I0 I0 (dR (Yo (T0:=69) (X:=iv ((En.hdJ p f c j j)+(c.fa.getD j 0))) (off:=0+j*1) (cs:=En.msA (En.hdJ p f c j)) (ds:=En.msA (En.hdJ p f c (j+1))) (z:=1) (.tmp 34) (.tmp 33) rfl (by kernel_rfl) (by kernel_rfl) (by kernel_rfl) (by show _≤3;omega) (En.msA_step (by omega) (En.hd_12 (.inr hs3)))) ⟨I0,I0,T0⟩ ⟨rfl,T0⟩ rfl (eD ?_)))))))))))
 refine kW 49 (WL p f c j) (XEn4_h3 p n t f sx c j) (Zv (Zv (Zf (Za (oV ((j+1:Nat):Int) (oS (iv (j+1:Nat)) (kN 49 (WL p f c j) (XEn4_h4 p n t f sx c j) (Zf ?_))))))))
 refine Zs ⟨j+1,by omega⟩ (show p.msgs.length-(j+1)<p.msgs.length-j by omega) ?_
 show Wk _ _ (ofL (WL p f c j)) (ofT 49 (Zfe p n t f sx c j))
 exact Zp _ _
 refine Za (oe (dF hs3) (oS bF (jI (Zl ?_))))
 by_cases hs4:p.fzz=3
 refine Za (oe (dT hs4) (oS bT (jH ?_)))
 refine tD (dS (iv j) (dC (Z6 (off':=0+j*1) (.tmp 5) (.tmp 37) rfl U69 (by kernel_rfl) (by omega) (by omega) rfl) I0 I0 (dB (lB (.box 69 (En.msA (En.hdJ p f c j))) (iv (En.hdJ p f c j j)) (.tmp 38) rfl U3 rfl (En.msA_get (by omega))) I0 rfl (dW (dW (dW (dW (dS (iv f) (dC (WW (c:=(En.hdJ p f c j j)+f) rfl (w64 (by omega) (by omega) (by omega))) I0 I0 (dC (Z6 (off':=0+j*1) (.tmp 5) (.tmp 37) rfl U69 (by kernel_rfl) (by omega) (by omega) rfl) I0 I0 (dR (Yo (T0:=69) (X:=iv ((En.hdJ p f c j j)+f)) (off:=0+j*1) (cs:=En.msA (En.hdJ p f c j)) (ds:=En.msA (En.hdJ p f c (j+1))) (z:=1) (.tmp 46) (.tmp 45) rfl (by kernel_rfl) (by kernel_rfl) (by kernel_rfl) (by show _≤3;omega) (En.msA_step (by omega) (En.hd_3 hs2 hs3 hs4))) ⟨I0,I0,T0⟩ ⟨rfl,T0⟩ rfl (eD ?_))))))))))))
 refine kW 49 (WL p f c j) [(0,.el (En.sysP p n t f) 0),(3,.el (En.cfV sx c) 0),(4,bx 1),(5,bx 2),(6,iv j),(14,iv p.msgs.length),(15,iv j),(16,bT),(22,iv p.fzz),(23,bF),(35,bT)] (Zv (Zv (Zf (Za (oV ((j+1:Nat):Int) (oS (iv (j+1:Nat)) (kN 49 (WL p f c j) [(0,.el (En.sysP p n t f) 0),(3,.el (En.cfV sx c) 0),(4,bx 1),(5,bx 2),(6,iv j),(14,iv p.msgs.length),(15,iv (j+1:Nat)),(16,bT),(22,iv p.fzz),(23,bF),(35,bT)] (Zf ?_))))))))
 refine Zs ⟨j+1,by omega⟩ (show p.msgs.length-(j+1)<p.msgs.length-j by omega) ?_
 show Wk _ _ (ofL (WL p f c j)) (ofT 49 (Zfe p n t f sx c j))
 exact Zp _ _
 refine Za (oe (dF hs4) (oS bF (jI (Zq (Zv (Zv (Zf (Za (oV ((j+1:Nat):Int) (oS (iv (j+1:Nat)) (kN 49 [(1,.box 69 [iv 0,iv 0,iv 0]),(2,.box 69 (En.msA (En.hdJ p f c j)))] [(0,.el (En.sysP p n t f) 0),(3,.el (En.cfV sx c) 0),(4,bx 1),(5,bx 2),(6,iv j),(14,iv p.msgs.length),(15,iv (j+1:Nat)),(16,bT),(22,iv p.fzz),(23,bF),(35,bF)] (Zf ?_))))))))))))
 refine Zs ⟨j+1,by omega⟩ (show p.msgs.length-(j+1)<p.msgs.length-j by omega) ?_
 show Wk _ _ (ofL [(1,.box 69 [iv 0,iv 0,iv 0]),(2,.box 69 (En.msA (En.hdJ p f c (j+1))))]) (ofT 49 [(0,.el (En.sysP p n t f) 0),(3,.el (En.cfV sx c) 0),(4,bx 1),(5,bx 2),(14,iv p.msgs.length),(15,iv ((j+1):Nat))])
 rw [En.hdJ_skip hs2 hs3 hs4]
 exact Zp _ _
 refine Za (ol (dF hs1) (jD (ZA rfl (jO (jC (Za (oW (oY (kN 49 [(1,.box 69 (En.msA (En.hdJ p f c j)))] [(4,bx 1)] (Zf (Z4 ?_)))))))))))
 refine Zg Tryz.results39 (.cellS rfl rfl U69 rfl (z:=3) (by kernel_rfl) rfl (by decide)) ?_
 obtain hje:j=p.msgs.length:=by omega
 rw [hje]
 exact rfl
theorem has_c (xs:List Int) (x:Int) (hx:xs.length≤9223372036854775807):Ctr Tryz.prog J 69 [Zb xs,iv x] (bv (decide (x∈xs))):=by
 refine Zm Tryz.func69 rfl (pN (ZK _) (pN (.v _) pZ)) (n:=18) rfl (by simp) (fun w0 => ?_)
 refine kW 18 [] [(0,Zb xs),(1,iv x)] (jB (oS bF (jD (jB (oS (iv 0) (kN 18 [] [(0,Zb xs),(1,iv x),(4,bF),(5,iv 0)] (Zf (Zo ?_))))))))
 refine ZL (σ:={k:Nat // k≤xs.length∧noI xs x k}) (fun s=>(ofL [],ofT 18 [(0,Zb xs),(1,iv x),(5,iv s.1)])) (fun s=>xs.length-s.1) ⟨0,Nat.zero_le _,noI_zero _ _⟩ (Zp [] _) (fun s => ?_)
 obtain ⟨k,hk0,hs0⟩:=s
 show ETri J w0 (ofL []) (ofT 18 [(0,Zb xs),(1,iv x),(5,iv k)]) _
 refine jM ?_
 by_cases hs1:(k:Int)<(xs.length:Int)
 refine Za (oW (oW (oW (ol (dT hs1) (jH (Zq (jC (Zo (Zl ?_)))))))))
 by_cases hs2:xs[k]=x
 refine Za (oS (Zb xs) (oS (iv k) (oC (xS (k*1) 12 13 U24) I0 I0 (oL (iv xs[k]) (Zw xs (by omega)) (oW (oe (dT hs2) (jG (oS bT (jE (Zn (Zc (Zc (Zn (Zc ?_))))))))))))))
 refine Zg Tryz.results69 (.tmp rfl) ?_
 exact congrArg (fun b:Bool=>AV.v (.bool b)) ((has_yes (k:=k) (by omega) hs2).symm)
 refine Za (oS (Zb xs) (oS (iv k) (oC (xS (k*1) 12 13 U24) I0 I0 (oL (iv xs[k]) (Zw xs (by omega)) (oW (oe (dF hs2) (jI (Zq (Zv (Zf (Za (oS (iv k) (oV ((k+1:Nat):Int) (oS (iv (k+1:Nat)) (kN 18 [] [(0,Zb xs),(1,iv x),(5,iv (k+1:Nat)),(9,bT),(17,bF)] (Zf ?_))))))))))))))))
 refine Zs ⟨k+1,by omega,noI_succ' (by omega) hs0 hs2⟩ (show xs.length-(k+1)<xs.length-k by omega) ?_
 exact Zp [] _
 refine Za (oW (oW (oW (ol (dF hs1) (jI (jO (jC (Za (oS bF (jE ?_))))))))))
 refine Zg Tryz.results69 (.tmp rfl) ?_
 exact congrArg (fun b:Bool=>AV.v (.bool b)) ((has_no (k:=k) (by omega) hs0).symm)
theorem index_c (xs:List Int) (x:Int) (hx:xs.length≤9223372036854775807):Ctr Tryz.prog J 115 [Zb xs,iv x] (iv (idxI xs x)):=by
 refine Zm Tryz.func115 rfl (pN (ZK _) (pN (.v _) pZ)) (n:=19) rfl (by simp) (fun w0 => ?_)
 refine kW 19 [] [(0,Zb xs),(1,iv x)] (jB (oS (iv 0) (kN 19 [] [(0,Zb xs),(1,iv x),(4,iv 0)] (jC (jB (oF (iv xs.length) (oS (iv 0) (kN 19 [] [(0,Zb xs),(1,iv x),(4,iv 0),(7,iv xs.length),(8,iv 0)] (Zf (Zo ?_))))))))))
 refine ZL (σ:={k:Nat // k≤xs.length∧noI xs x k}) (fun s=>(ofL [],ofT 19 [(0,Zb xs),(1,iv x),(7,iv xs.length),(8,iv s.1)])) (fun s=>xs.length-s.1) ⟨0,Nat.zero_le _,noI_zero _ _⟩ (Zp [] _) (fun s => ?_)
 obtain ⟨k,hk0,hs0⟩:=s
 show ETri J w0 (ofL []) (ofT 19 [(0,Zb xs),(1,iv x),(7,iv xs.length),(8,iv k)]) _
 refine Zl ?_
 by_cases hs1:(k:Int)<(xs.length:Int)
 refine Za (ol (dT hs1) (jD (Yb rfl (Zq (jC (Zo (jB (oF (iv k) (jD ?_)))))))))
 by_cases hs2:x=xs[k]
 refine Za (oW (oS (Zb xs) (oS (iv k) (oC (xS (k*1) 12 13 U24) I0 I0 (oL (iv xs[k]) (Zw xs (by omega)) (oe (dT hs2) (jG (oF (iv k) (jE (Zn (Zc (Zc (Zn (Zc ?_))))))))))))))
 refine Zg Tryz.results115 (.tmp rfl) ?_
 exact congrArg (fun x:Int=>AV.v (.int .i64 x)) (idx_yes (by omega) hs0 hs2)
 refine Za (oW (oS (Zb xs) (oS (iv k) (oC (xS (k*1) 12 13 U24) I0 I0 (oL (iv xs[k]) (Zw xs (by omega)) (oe (dF hs2) (jI (Zq (Zv (Zf (Za (oV ((k+1:Nat):Int) (oS (iv (k+1:Nat)) (kN 19 [] [(0,Zb xs),(1,iv x),(5,iv k),(7,iv xs.length),(8,iv (k+1:Nat)),(9,bT),(16,bF)] (Zf ?_)))))))))))))))
 refine Zs ⟨k+1,by omega,noI_succ (by omega) hs0 hs2⟩ (show xs.length-(k+1)<xs.length-k by omega) ?_
 exact Zp [] _
 refine Za (ol (dF hs1) (jD (ZA rfl (jO (jC (Za (oS (iv (-1)) (jE ?_))))))))
 refine Zg Tryz.results115 (.tmp rfl) ?_
 exact congrArg (fun x:Int=>AV.v (.int .i64 x)) (idx_no (k:=k) (by omega) hs0)
theorem Wj (xs:List Int) (x:Int) (hx:xs.length≤9223372036854775807):Ctr Tryz.prog J 97 [Zb xs,iv x] (bv (decide (x∈xs))):=by
 refine Zm Tryz.func97 rfl (pN (ZK _) (pN (.v _) pZ)) (n:=9) rfl (by simp) (fun w0 => ?_)
 refine kW 9 [] [(0,Zb xs),(1,iv x)] (jB (oS bF (jD (Za (oW (oW (oK (index_c xs x hx) [Zb xs,iv x] rfl rfl (oC (Zbq rfl rfl) I0 I0 (oS (bv (decide (0≤idxI xs x))) (jE ?_))))))))))
 refine Zg Tryz.results97 (.tmp rfl) ?_
 exact congrArg (fun b:Bool=>AV.v (.bool b)) (idx_has xs x)
theorem En.or_t {a b:Prop} [Decidable a] [Decidable b] (h:(decide a||decide b)=true):a∨b:=by simpa using h
theorem En.or_f {a b:Prop} [Decidable a] [Decidable b] (h:(decide a||decide b)=false):¬ (a∨b):=by simpa using h
theorem En.isP_in (h:En.isP m x=true):0≤x∧x<(m:Int):=by
 unfold En.isP at h
 simpa using h
variable {i:Nat}{kp:Int}
set_option maxRecDepth 100000 in
set_option maxHeartbeats 6400000 in
theorem Zcj (hn:(Ns.cntE p n f)=(c.st.length:Int)) (l8:c.st.length≤8) (hr:r<p.rz.length) (hi:i<c.st.length) :Ctr Tryz.prog J 59 [.el (En.sysP p n t f) 0,.agg (En.cfV sx c),.el (p.rz.flatMap cRu) (r*18),.agg [iv r,iv i,iv kp]] (bv (En.ptB c p.rz[r] i kp)):=by
 refine Zm Tryz.func59 rfl (pN (show Plain (.el (En.sysP p n t f) 0) from .el (ZN (En.plain_sysP p n t f))) (pN (Zh (En.plain_cfV _ c)) (pN (.el (ZN fun X hX=>by obtain ⟨x,_,hx⟩:=List.mem_flatMap.1 hX;exact Y0 x X hx)) (pN (Zh (pN (.v _) (pN (.v _) (pN (.v _) pZ)))) pZ)))) (n:=38) rfl (by simp) (fun w0 => ?_)
 refine kW 38 [] [(0,.el (En.sysP p n t f) 0),(1,.agg (En.cfV sx c)),(2,.el (p.rz.flatMap cRu) (r*18)),(3,.agg [iv r,iv i,iv kp])] (jB (oA (ZD (X := .agg (En.cfV sx c)) (.tmp 1) rfl rfl rfl) I0 (oA (ZD (X := .agg [iv r,iv i,iv kp]) (.tmp 3) rfl rfl rfl) I0 (oS bF (jD (Zl ?_))))))
 by_cases hs1:(decide (p.rz[r].kind=2)||decide (p.rz[r].kind=5))=true
 refine Za (oW (oK (Zr (ZbM hr) hs1) [.el (p.rz.flatMap cRu) (r*18)] rfl rfl (oS bF (jF (Zl ?_)))))
 by_cases hs2:(En.isP c.st.length kp)=true
 have hk0:=En.isP_in hs2
 by_cases hs3:kp=(i:Int)
 refine tD (dW (dW (dW (dk (Zr (ZaH hn) hs2) [.el (En.sysP p n t f) 0,iv kp] rfl rfl (dS bT (dW (dW (dW (dW (dn (dT' hs3) (dW (dS bF (dK (dK (dK (dK (dK (dK (dK (dK (dK (dK (dW (dS bF (eD ?_)))))))))))))))))))))))))
 refine Zf (Z4 ?_)
 refine Zg Tryz.results59 (.tmp rfl) ?_
 rw [show En.ptB c p.rz[r] i kp=_ from if_pos (En.or_t hs1)]
 exact cB ((by simp only [hs2,hs3,decide_true,decide_false,Bool.and_true,Bool.true_and,Bool.false_and,Bool.and_false,Bool.true_or,Bool.false_or,Bool.or_true,Bool.or_false,Bool.not_true,Bool.not_false]))
 refine tD (dW (dW (dW (dk (Zr (ZaH hn) hs2) [.el (En.sysP p n t f) 0,iv kp] rfl rfl (dS bT (dW (dW (dW (dW (dn (dF' hs3) (dW (dS bT (dW (dS (iv kp) (dS (.el (En.cfV sx c) 1) (dC (ZX (off':=1+kp.toNat*1) (.tmp 29) (.tmp 28) rfl U67 (by kernel_rfl) (by omega) (by omega) rfl) I0 I0 (dA (lE (iv (c.st.getD kp.toNat 0)) 30 U3 (En.cfV_st (by omega))) I0 (dW (dW (dW (dL (iv p.rz[r].pf) (fT lenRu p.rz r 4) (dC (ZM rfl rfl) I0 I0 (dW (dS (bv (decide ((c.st.getD kp.toNat 0)=p.rz[r].pf))) (eD ?_)))))))))))))))))))))))))
 refine Zf (Z4 ?_)
 refine Zg Tryz.results59 (.tmp rfl) ?_
 rw [show En.ptB c p.rz[r] i kp=_ from if_pos (En.or_t hs1)]
 exact cB ((by simp only [hs2,hs3,decide_true,decide_false,Bool.and_true,Bool.true_and,Bool.false_and,Bool.and_false,Bool.true_or,Bool.false_or,Bool.or_true,Bool.or_false,Bool.not_true,Bool.not_false]))
 have hs2f:(En.isP c.st.length kp)=false:=by simpa using hs2
 refine tD (dW (dW (dW (dk (Zr (ZaH hn) hs2f) [.el (En.sysP p n t f) 0,iv kp] rfl rfl (dS bF (dK (dK (dK (dK (dK (dW (dS bF (dK (dK (dK (dK (dK (dK (dK (dK (dK (dK (dW (dS bF (eD ?_)))))))))))))))))))))))))
 refine Zf (Z4 ?_)
 refine Zg Tryz.results59 (.tmp rfl) ?_
 rw [show En.ptB c p.rz[r] i kp=_ from if_pos (En.or_t hs1)]
 exact cB ((by simp only [hs2f,decide_true,decide_false,Bool.and_true,Bool.true_and,Bool.false_and,Bool.and_false,Bool.true_or,Bool.false_or,Bool.or_true,Bool.or_false,Bool.not_true,Bool.not_false]))
 have hs1f:(decide (p.rz[r].kind=2)||decide (p.rz[r].kind=5))=false:=by simpa using hs1
 refine Za (oW (oK (Zr (ZbM hr) hs1f) [.el (p.rz.flatMap cRu) (r*18)] rfl rfl (oS bT (jG (oF (iv kp) (oC (ZM rfl rfl) I0 I0 (oS (bv (decide (kp=(-1)))) (jE (Zc ?_)))))))))
 refine Zg Tryz.results59 (.tmp rfl) ?_
 rw [show En.ptB c p.rz[r] i kp=_ from if_neg (En.or_f hs1f)]
 exact rfl
set_option maxRecDepth 100000 in
set_option maxHeartbeats 6400000 in
theorem localH_c (hn:(Ns.cntE p n f)=(c.st.length:Int)) (l8:c.st.length≤8) (hr:r<p.rz.length) (hi:i<c.st.length) {g:Nat→Int} (hg:∀ m,0≤g m∧g m≤3000000) (h8:p.rz.length≤8) (h3:p.msgs.length≤3) (hg2:p.rz[r].gz.length≤2) (hgd:∀ q∈p.rz[r].gz,0≤q.msg∧q.msg<p.msgs.length∧1≤q.coef∧q.coef≤100) (le:p.rz[r].ex.length≤9223372036854775807) (lf:p.rz[r].fa.length≤9223372036854775807):Ctr Tryz.prog J 60 [.el (En.sysP p n t f) 0,.agg (En.cfV sx c),.agg [iv r,iv i,iv kp],.agg (En.msA g)] (bv (En.loB n t f c p.rz[r] g i)):=by
 refine Zm Tryz.func60 rfl (pN (show Plain (.el (En.sysP p n t f) 0) from .el (ZN (En.plain_sysP p n t f))) (pN (Zh (En.plain_cfV _ c)) (pN (Zh (pN (.v _) (pN (.v _) (pN (.v _) pZ)))) (pN (Zh (En.plain_msA _)) pZ)))) (n:=113) rfl (by simp) (fun w0 => ?_)
 refine kW 113 [] [(0,.el (En.sysP p n t f) 0),(1,.agg (En.cfV sx c)),(2,.agg [iv r,iv i,iv kp]),(3,.agg (En.msA g))] (jB (oA (ZD (X := .agg (En.cfV sx c)) (.tmp 1) rfl rfl rfl) I0 (oA (ZD (X := .agg [iv r,iv i,iv kp]) (.tmp 2) rfl rfl rfl) I0 (oA (ZD (X := .agg (En.msA g)) (.tmp 3) rfl rfl rfl) I0 (oS bF (jD ?_))))))
 refine tD (dW (dW (dW (dW (dS (slA 18 cRu p.rz) (dW (dS (iv r) (dC (xS (r*18) 19 21 U25) I0 I0 (dS (.el (p.rz.flatMap cRu) (r*18)) (eD ?_))))))))))
 refine kW 113 [] [(0,.el (En.sysP p n t f) 0),(5,.el (En.cfV sx c) 0),(6,.el ([iv r,iv i,iv kp]) 0),(7,.el (En.msA g) 0),(8,bF),(9,.el (p.rz.flatMap cRu) (r*18))] (jC (Zl ?_))
 refine Ym (True) (ofL []) (ofT 113 [(0,.el (En.sysP p n t f) 0),(5,.el (En.cfV sx c) 0),(6,.el ([iv r,iv i,iv kp]) 0),(7,.el (En.msA g) 0),(8,bF),(9,.el (p.rz.flatMap cRu) (r*18)),(36,bv (En.rdN c p.rz[r]))]) ?_ (fun _ => ?_)
 by_cases hs1:0≤p.rz[r].rd
 by_cases hs2:c.val=p.rz[r].rd
 refine tD (dW (dW (dW (dL (iv p.rz[r].rd) (fT lenRu p.rz r 10) (dh (dT hs1) (dS bT (dW (dW (dW (dW (dW (dL (iv p.rz[r].rd) (fT lenRu p.rz r 10) (dn (dT' hs2) (dS bF (eD ?_)))))))))))))))
 refine kW 113 [] [(0,.el (En.sysP p n t f) 0),(5,.el (En.cfV sx c) 0),(6,.el ([iv r,iv i,iv kp]) 0),(7,.el (En.msA g) 0),(8,bF),(9,.el (p.rz.flatMap cRu) (r*18)),(36,bF)] ?_
 rw [show (En.rdN c p.rz[r])=false by unfold En.rdN;simp only [dT hs1,dT hs2,decide_true,decide_false,Bool.and_true,Bool.true_and,Bool.false_and,Bool.and_false,Bool.true_or,Bool.false_or,Bool.or_true,Bool.or_false,Bool.not_true,Bool.not_false]]
 exact Ky T0 (Zp [] _)
 refine tD (dW (dW (dW (dL (iv p.rz[r].rd) (fT lenRu p.rz r 10) (dh (dT hs1) (dS bT (dW (dW (dW (dW (dW (dL (iv p.rz[r].rd) (fT lenRu p.rz r 10) (dn (dF' hs2) (dS bT (eD ?_)))))))))))))))
 refine kW 113 [] [(0,.el (En.sysP p n t f) 0),(5,.el (En.cfV sx c) 0),(6,.el ([iv r,iv i,iv kp]) 0),(7,.el (En.msA g) 0),(8,bF),(9,.el (p.rz.flatMap cRu) (r*18)),(36,bT)] ?_
 rw [show (En.rdN c p.rz[r])=true by unfold En.rdN;simp only [dT hs1,dF hs2,decide_true,decide_false,Bool.and_true,Bool.true_and,Bool.false_and,Bool.and_false,Bool.true_or,Bool.false_or,Bool.or_true,Bool.or_false,Bool.not_true,Bool.not_false]]
 exact Ky T0 (Zp [] _)
 refine tD (dW (dW (dW (dL (iv p.rz[r].rd) (fT lenRu p.rz r 10) (dh (dF hs1) (dS bF (dK (dK (dK (dK (dK (dK (dK (dS bF (eD ?_)))))))))))))))
 refine kW 113 [] [(0,.el (En.sysP p n t f) 0),(5,.el (En.cfV sx c) 0),(6,.el ([iv r,iv i,iv kp]) 0),(7,.el (En.msA g) 0),(8,bF),(9,.el (p.rz.flatMap cRu) (r*18)),(36,bF)] ?_
 rw [show (En.rdN c p.rz[r])=false by unfold En.rdN;simp only [dF hs1,decide_true,decide_false,Bool.and_true,Bool.true_and,Bool.false_and,Bool.and_false,Bool.true_or,Bool.false_or,Bool.or_true,Bool.or_false,Bool.not_true,Bool.not_false]]
 exact Ky T0 (Zp [] _)
 refine Zf ?_
 by_cases hs3:(En.rdN c p.rz[r])=true
 rw [hs3]
 refine kW 113 [] [(0,.el (En.sysP p n t f) 0),(5,.el (En.cfV sx c) 0),(6,.el ([iv r,iv i,iv kp]) 0),(7,.el (En.msA g) 0),(8,bF),(9,.el (p.rz.flatMap cRu) (r*18)),(36,bT)] (jK (oS bF (jE (Zc ?_))))
 refine Zg Tryz.results60 (.tmp rfl) ?_
 exact cB ((En.lo_rd hs3).symm)
 have hs3f:(En.rdN c p.rz[r])=false:=by simpa using hs3
 rw [hs3f]
 refine kW 113 [] [(0,.el (En.sysP p n t f) 0),(5,.el (En.cfV sx c) 0),(6,.el ([iv r,iv i,iv kp]) 0),(7,.el (En.msA g) 0),(8,bF),(9,.el (p.rz.flatMap cRu) (r*18)),(36,bF)] (jL (jM (Za (oW (oW (oW (oL (slA 6 cTh p.rz[r].gz) (fT lenRu p.rz r 7) (oS (iv (p.rz[r].gz.length:Nat)) (oS (iv 0) (kN 113 [] [(0,.el (En.sysP p n t f) 0),(5,.el (En.cfV sx c) 0),(6,.el ([iv r,iv i,iv kp]) 0),(7,.el (En.msA g) 0),(8,bF),(9,.el (p.rz.flatMap cRu) (r*18)),(40,slA 6 cTh p.rz[r].gz),(41,iv (p.rz[r].gz.length:Nat)),(42,iv 0)] (Zf (Zo ?_))))))))))))
 refine ZL (σ:={k:Nat // k≤p.rz[r].gz.length∧Rd.noP p.rz[r].gz (En.gdN n t f g) k}) (fun s=>(ofL [],ofT 113 [(0,.el (En.sysP p n t f) 0),(5,.el (En.cfV sx c) 0),(6,.el ([iv r,iv i,iv kp]) 0),(7,.el (En.msA g) 0),(9,.el (p.rz.flatMap cRu) (r*18)),(40,slA 6 cTh p.rz[r].gz),(41,iv (p.rz[r].gz.length:Nat)),(42,iv s.1)])) (fun s=>p.rz[r].gz.length-s.1) ⟨0,Nat.zero_le _,Rd.noP_zero _ _⟩ (Zp [] _) (fun s => ?_)
 obtain ⟨k,hk0,hs0⟩:=s
 show ETri J w0 (ofL []) (ofT 113 [(0,.el (En.sysP p n t f) 0),(5,.el (En.cfV sx c) 0),(6,.el ([iv r,iv i,iv kp]) 0),(7,.el (En.msA g) 0),(9,.el (p.rz.flatMap cRu) (r*18)),(40,slA 6 cTh p.rz[r].gz),(41,iv (p.rz[r].gz.length:Nat)),(42,iv k)]) _
 refine Zl ?_
 by_cases hs4:(k:Int)<((p.rz[r].gz.length:Nat):Int)
 have hk1:k<p.rz[r].gz.length:=by omega
 have hgk:=hgd _ (List.getElem_mem hk1)
 have hgb:=hg p.rz[r].gz[k].msg.toNat
 refine Za (ol (dT hs4) (jD (Yb rfl (Zq (jC (Zo (jB (oW (oC (xS (k*6) 40 42 U55) I0 I0 (oA (Zj (z:=6) (.tmp 45) rfl U111 rfl (by kernel_rfl) (Z9 lenTh p.rz[r].gz k (by omega)) rfl) I0 (oZ 1 Z111 (oS (iv k) (oY (kN 113 [(1,.box 111 (cTh p.rz[r].gz[k]))] [(0,.el (En.sysP p n t f) 0),(5,.el (En.cfV sx c) 0),(6,.el ([iv r,iv i,iv kp]) 0),(7,.el (En.msA g) 0),(9,.el (p.rz.flatMap cRu) (r*18)),(10,iv k),(11,bx 1),(40,slA 6 cTh p.rz[r].gz),(41,iv (p.rz[r].gz.length:Nat)),(42,iv k),(43,bT)] (jC ?_)))))))))))))))
 by_cases hs5:p.rz[r].gz[k].coef*(g p.rz[r].gz[k].msg.toNat)<(En.gbV p.rz[r] n t f k)
 refine tD (dW (dS (iv p.rz[r].gz[k].coef) (dW (dS (iv p.rz[r].gz[k].msg) (dC (ZX (off':=0+p.rz[r].gz[k].msg.toNat*1) (.tmp 7) (.tmp 50) rfl U69 (by kernel_rfl) (by omega) (by omega) rfl) I0 I0 (dA (lE (iv (g p.rz[r].gz[k].msg.toNat)) 51 U3 (En.msA_get (by omega))) I0 (dC (sp_mul (c:=p.rz[r].gz[k].coef*(g p.rz[r].gz[k].msg.toNat)) rfl (En.mulW hgk.2.2.1 hgk.2.2.2 hgb.1 hgb.2)) I0 I0 (dW (dW (dS (iv r) (dS (iv k) (dW (dS (.el (En.sysP p n t f) 15) (dC (ZX (off':=15+r*2) (.tmp 59) (.tmp 56) rfl U99 (by kernel_rfl) (by omega) (by omega) rfl) I0 I0 (dC (ZX (off':=15+r*2+k*1) (.tmp 60) (.tmp 57) rfl U98 (by kernel_rfl) (by omega) (by omega) rfl) I0 I0 (dA (lE (iv (En.gbV p.rz[r] n t f k)) 61 U3 (En.sysP_bd hr h8 hk1 hg2)) I0 (dl (dT hs5) (eD ?_))))))))))))))))))
 refine kW 113 [(1,.box 111 (cTh p.rz[r].gz[k]))] [(0,.el (En.sysP p n t f) 0),(5,.el (En.cfV sx c) 0),(6,.el ([iv r,iv i,iv kp]) 0),(7,.el (En.msA g) 0),(9,.el (p.rz.flatMap cRu) (r*18)),(10,iv k),(11,bx 1),(40,slA 6 cTh p.rz[r].gz),(41,iv (p.rz[r].gz.length:Nat)),(42,iv k),(43,bT),(63,bT)] (Zf (jK (oS bF (jE (Zn (Zc (Zc (Zn (Zc ?_)))))))))
 refine Zg Tryz.results60 (.tmp rfl) ?_
 exact cB ((En.lo_gd hk1 hs5).symm)
 refine tD (dW (dS (iv p.rz[r].gz[k].coef) (dW (dS (iv p.rz[r].gz[k].msg) (dC (ZX (off':=0+p.rz[r].gz[k].msg.toNat*1) (.tmp 7) (.tmp 50) rfl U69 (by kernel_rfl) (by omega) (by omega) rfl) I0 I0 (dA (lE (iv (g p.rz[r].gz[k].msg.toNat)) 51 U3 (En.msA_get (by omega))) I0 (dC (sp_mul (c:=p.rz[r].gz[k].coef*(g p.rz[r].gz[k].msg.toNat)) rfl (En.mulW hgk.2.2.1 hgk.2.2.2 hgb.1 hgb.2)) I0 I0 (dW (dW (dS (iv r) (dS (iv k) (dW (dS (.el (En.sysP p n t f) 15) (dC (ZX (off':=15+r*2) (.tmp 59) (.tmp 56) rfl U99 (by kernel_rfl) (by omega) (by omega) rfl) I0 I0 (dC (ZX (off':=15+r*2+k*1) (.tmp 60) (.tmp 57) rfl U98 (by kernel_rfl) (by omega) (by omega) rfl) I0 I0 (dA (lE (iv (En.gbV p.rz[r] n t f k)) 61 U3 (En.sysP_bd hr h8 hk1 hg2)) I0 (dl (dF hs5) (eD ?_))))))))))))))))))
 refine kW 113 [(1,.box 111 (cTh p.rz[r].gz[k]))] [(0,.el (En.sysP p n t f) 0),(5,.el (En.cfV sx c) 0),(6,.el ([iv r,iv i,iv kp]) 0),(7,.el (En.msA g) 0),(9,.el (p.rz.flatMap cRu) (r*18)),(10,iv k),(11,bx 1),(40,slA 6 cTh p.rz[r].gz),(41,iv (p.rz[r].gz.length:Nat)),(42,iv k),(43,bT),(63,bF)] (Zf (ZA rfl (Zq (Zv (Zf (Za (oV ((k+1:Nat):Int) (oS (iv (k+1:Nat)) (kN 113 [(1,.box 111 (cTh p.rz[r].gz[k]))] [(0,.el (En.sysP p n t f) 0),(5,.el (En.cfV sx c) 0),(6,.el ([iv r,iv i,iv kp]) 0),(7,.el (En.msA g) 0),(9,.el (p.rz.flatMap cRu) (r*18)),(10,iv k),(11,bx 1),(40,slA 6 cTh p.rz[r].gz),(41,iv (p.rz[r].gz.length:Nat)),(42,iv (k+1:Nat)),(43,bT),(63,bF)] (Zf ?_))))))))))
 refine Zs ⟨k+1,by omega,Rd.noP_succ hk1 hs0 (En.gd_no hk1 hs5)⟩ (show p.rz[r].gz.length-(k+1)<p.rz[r].gz.length-k by omega) ?_
 exact Zp [] _
 refine Za (ol (dF hs4) (jD (ZA rfl (jO (jC (Za (oW (oW (oW (oL (Zb p.rz[r].ex) (fT lenRu p.rz r 8) (oS (iv (p.rz[r].ex.length:Nat)) (oC (ZM rfl rfl) I0 I0 (oS (bv (decide (((p.rz[r].ex.length:Nat):Int)=0))) (jD (Zl ?_)))))))))))))))
 refine Za (oS (.el (En.cfV sx c) 1) (oW (oW (oF (iv (Ns.cntE p n f)) (oC (KC (n:=c.st.length) (off:=1) (ds:=(c.st.map iv)) (.tmp 71) (.tmp 75) rfl U67 (by kernel_rfl) (by omega) (by kernel_rfl) (by unfold maxLen;omega) (by show _≤16;omega) (En.cfV_row l8) hn) I0 I0 (oS (iv c.st.length) (oS (iv 0) (kN 113 [] [(6,.el ([iv r,iv i,iv kp]) 0),(9,.el (p.rz.flatMap cRu) (r*18)),(12,bv (decide (((p.rz[r].ex.length:Nat):Int)=0))),(76,Zb c.st),(77,iv c.st.length),(78,iv 0)] (Zf (Zo ?_))))))))))
 rw [← En.exU_zero (c:=c) (i:=i)]
 refine ZL (σ:={j:Nat // j≤c.st.length∧En.noF c p.rz[r] i j}) (fun s=>(ofL [],ofT 113 [(6,.el ([iv r,iv i,iv kp]) 0),(9,.el (p.rz.flatMap cRu) (r*18)),(12,bv (En.exU c p.rz[r] i s.1)),(76,Zb c.st),(77,iv c.st.length),(78,iv s.1)])) (fun s=>c.st.length-s.1) ⟨0,Nat.zero_le _,En.noF_zero⟩ (Zp [] _) (fun s => ?_)
 obtain ⟨j,hj0,hnf⟩:=s
 show ETri J w0 (ofL []) (ofT 113 [(6,.el ([iv r,iv i,iv kp]) 0),(9,.el (p.rz.flatMap cRu) (r*18)),(12,bv (En.exU c p.rz[r] i j)),(76,Zb c.st),(77,iv c.st.length),(78,iv j)]) _
 refine Zl ?_
 by_cases hs6:(j:Int)<(c.st.length:Int)
 have hj1:j<c.st.length:=by omega
 refine Za (ol (dT hs6) (jD (Yb rfl (Zq (jC (Zo (jB (oW (oC (xS (j*1) 76 78 U24) I0 I0 (oL (iv c.st[j]) (Zw c.st (by omega)) (oS (iv j) (oS (iv c.st[j]) (jD (Zl ?_))))))))))))))
 by_cases hs7:(j:Int)=(i:Int)
 refine Za (oW (oW (oW (oe (dT hs7) (jH (ZcI (Wt (t_hit (Zf (Za (oV ((j+1:Nat):Int) (oS (iv (j+1:Nat)) (kN 113 [] [(6,.el ([iv r,iv i,iv kp]) 0),(9,.el (p.rz.flatMap cRu) (r*18)),(12,bv (En.exU c p.rz[r] i j)),(13,iv j),(14,iv c.st[j]),(76,Zb c.st),(77,iv c.st.length),(78,iv (j+1:Nat)),(79,bT),(86,bT)] (Zf ?_))))))))))))))
 refine Zs ⟨j+1,by omega,En.noF_succ hnf (En.fa_same (by omega))⟩ (show c.st.length-(j+1)<c.st.length-j by omega) ?_
 show Wk _ _ (ofL []) (ofT 113 [(6,.el ([iv r,iv i,iv kp]) 0),(9,.el (p.rz.flatMap cRu) (r*18)),(12,bv (En.exU c p.rz[r] i (j+1))),(76,Zb c.st),(77,iv c.st.length),(78,iv ((j+1):Nat))])
 rw [En.exU_same (by omega)]
 exact Zp [] _
 refine Za (oW (oW (oW (oe (dF hs7) (jF (jM ?_))))))
 by_cases hs8:0<((p.rz[r].fa.length:Nat):Int)
 by_cases hs9:(decide (c.st[j]∈p.rz[r].fa))=true
 refine Za (oW (oW (oW (oL (Zb p.rz[r].fa) (fT lenRu p.rz r 9) (oW (og (dT hs8) (oS bT (oW (oW (oW (oL (Zb p.rz[r].fa) (fT lenRu p.rz r 9) (oW (oK (Zr (Wj p.rz[r].fa c.st[j] lf) hs9) [Zb p.rz[r].fa,iv c.st[j]] rfl rfl (oW (oS bF (jF ?_))))))))))))))))
 by_cases hs10:(En.exU c p.rz[r] i j)=true
 rw [hs10]
 refine kW 113 [] [(6,.el ([iv r,iv i,iv kp]) 0),(9,.el (p.rz.flatMap cRu) (r*18)),(12,bT),(13,iv j),(14,iv c.st[j]),(76,Zb c.st),(77,iv c.st.length),(78,iv j),(79,bT),(86,bF),(101,bF)] (Za (oF bT (qK (qK (qK (qK (qK (qK (oF bT (Yh (Zv (Zf (Za (oV ((j+1:Nat):Int) (oS (iv (j+1:Nat)) (kN 113 [] [(6,.el ([iv r,iv i,iv kp]) 0),(9,.el (p.rz.flatMap cRu) (r*18)),(12,bT),(13,iv j),(14,iv c.st[j]),(76,Zb c.st),(77,iv c.st.length),(78,iv (j+1:Nat)),(79,bT),(86,bF),(101,bF)] (Zf ?_)))))))))))))))))
 refine Zs ⟨j+1,by omega,En.noF_succ hnf (En.fa_in hj1 hs9)⟩ (show c.st.length-(j+1)<c.st.length-j by omega) ?_
 show Wk _ _ (ofL []) (ofT 113 [(6,.el ([iv r,iv i,iv kp]) 0),(9,.el (p.rz.flatMap cRu) (r*18)),(12,bv (En.exU c p.rz[r] i (j+1))),(76,Zb c.st),(77,iv c.st.length),(78,iv ((j+1):Nat))])
 rw [En.exU_t hs10]
 exact Zp [] _
 have hs10f:(En.exU c p.rz[r] i j)=false:=by simpa using hs10
 rw [hs10f]
 refine kW 113 [] [(6,.el ([iv r,iv i,iv kp]) 0),(9,.el (p.rz.flatMap cRu) (r*18)),(12,bF),(13,iv j),(14,iv c.st[j]),(76,Zb c.st),(77,iv c.st.length),(78,iv j),(79,bT),(86,bF),(101,bF)] (Za (oF bF (oW (oW (oW (oL (Zb p.rz[r].ex) (fT lenRu p.rz r 8) (oW (oK (Wj p.rz[r].ex c.st[j] le) [Zb p.rz[r].ex,iv c.st[j]] rfl rfl (oF (bv (decide (c.st[j]∈p.rz[r].ex))) (Yh (Zv (Zf (Za (oV ((j+1:Nat):Int) (oS (iv (j+1:Nat)) (kN 113 [] [(6,.el ([iv r,iv i,iv kp]) 0),(9,.el (p.rz.flatMap cRu) (r*18)),(12,bv (decide (c.st[j]∈p.rz[r].ex))),(13,iv j),(14,iv c.st[j]),(76,Zb c.st),(77,iv c.st.length),(78,iv (j+1:Nat)),(79,bT),(86,bF),(101,bF)] (Zf ?_)))))))))))))))))
 refine Zs ⟨j+1,by omega,En.noF_succ hnf (En.fa_in hj1 hs9)⟩ (show c.st.length-(j+1)<c.st.length-j by omega) ?_
 show Wk _ _ (ofL []) (ofT 113 [(6,.el ([iv r,iv i,iv kp]) 0),(9,.el (p.rz.flatMap cRu) (r*18)),(12,bv (En.exU c p.rz[r] i (j+1))),(76,Zb c.st),(77,iv c.st.length),(78,iv ((j+1):Nat))])
 rw [En.exU_f hj1 hs10f (by omega)]
 exact Zp [] _
 have hs9f:(decide (c.st[j]∈p.rz[r].fa))=false:=by simpa using hs9
 refine Za (oW (oW (oW (oL (Zb p.rz[r].fa) (fT lenRu p.rz r 9) (oW (og (dT hs8) (oS bT (oW (oW (oW (oL (Zb p.rz[r].fa) (fT lenRu p.rz r 9) (oW (oK (Zr (Wj p.rz[r].fa c.st[j] lf) hs9f) [Zb p.rz[r].fa,iv c.st[j]] rfl rfl (oW (oS bT (jG (oS bF (jA ?_))))))))))))))))))
 refine jN (Zn (Zc (Zc (Zn (Zc ?_)))))
 refine Zg Tryz.results60 (.tmp rfl) ?_
 exact cB ((En.lo_fa hj1 (En.fa_out hj1 (by omega) hs8 hs9f)).symm)
 refine Za (oW (oW (oW (oL (Zb p.rz[r].fa) (fT lenRu p.rz r 9) (oW (og (dF hs8) (oS bF (qK (qK (qK (qK (qK (qK (qK (oS bF (jF ?_))))))))))))))))
 by_cases hs11:(En.exU c p.rz[r] i j)=true
 rw [hs11]
 refine kW 113 [] [(6,.el ([iv r,iv i,iv kp]) 0),(9,.el (p.rz.flatMap cRu) (r*18)),(12,bT),(13,iv j),(14,iv c.st[j]),(76,Zb c.st),(77,iv c.st.length),(78,iv j),(79,bT),(86,bF),(101,bF)] (Za (oF bT (qK (qK (qK (qK (qK (qK (oF bT (Yh (Zv (Zf (Za (oV ((j+1:Nat):Int) (oS (iv (j+1:Nat)) (kN 113 [] [(6,.el ([iv r,iv i,iv kp]) 0),(9,.el (p.rz.flatMap cRu) (r*18)),(12,bT),(13,iv j),(14,iv c.st[j]),(76,Zb c.st),(77,iv c.st.length),(78,iv (j+1:Nat)),(79,bT),(86,bF),(101,bF)] (Zf ?_)))))))))))))))))
 refine Zs ⟨j+1,by omega,En.noF_succ hnf (En.fa_none hs8)⟩ (show c.st.length-(j+1)<c.st.length-j by omega) ?_
 show Wk _ _ (ofL []) (ofT 113 [(6,.el ([iv r,iv i,iv kp]) 0),(9,.el (p.rz.flatMap cRu) (r*18)),(12,bv (En.exU c p.rz[r] i (j+1))),(76,Zb c.st),(77,iv c.st.length),(78,iv ((j+1):Nat))])
 rw [En.exU_t hs11]
 exact Zp [] _
 have hs11f:(En.exU c p.rz[r] i j)=false:=by simpa using hs11
 rw [hs11f]
 refine kW 113 [] [(6,.el ([iv r,iv i,iv kp]) 0),(9,.el (p.rz.flatMap cRu) (r*18)),(12,bF),(13,iv j),(14,iv c.st[j]),(76,Zb c.st),(77,iv c.st.length),(78,iv j),(79,bT),(86,bF),(101,bF)] (Za (oF bF (oW (oW (oW (oL (Zb p.rz[r].ex) (fT lenRu p.rz r 8) (oW (oK (Wj p.rz[r].ex c.st[j] le) [Zb p.rz[r].ex,iv c.st[j]] rfl rfl (oF (bv (decide (c.st[j]∈p.rz[r].ex))) (Yh (Zv (Zf (Za (oV ((j+1:Nat):Int) (oS (iv (j+1:Nat)) (kN 113 [] [(6,.el ([iv r,iv i,iv kp]) 0),(9,.el (p.rz.flatMap cRu) (r*18)),(12,bv (decide (c.st[j]∈p.rz[r].ex))),(13,iv j),(14,iv c.st[j]),(76,Zb c.st),(77,iv c.st.length),(78,iv (j+1:Nat)),(79,bT),(86,bF),(101,bF)] (Zf ?_)))))))))))))))))
 refine Zs ⟨j+1,by omega,En.noF_succ hnf (En.fa_none hs8)⟩ (show c.st.length-(j+1)<c.st.length-j by omega) ?_
 show Wk _ _ (ofL []) (ofT 113 [(6,.el ([iv r,iv i,iv kp]) 0),(9,.el (p.rz.flatMap cRu) (r*18)),(12,bv (En.exU c p.rz[r] i (j+1))),(76,Zb c.st),(77,iv c.st.length),(78,iv ((j+1):Nat))])
 rw [En.exU_f hj1 hs11f (by omega)]
 exact Zp [] _
 refine Za (ol (dF hs6) (jD (ZA rfl (jO (jC (Za (oF (bv (En.exU c p.rz[r] i j)) (jE ?_))))))))
 refine Zg Tryz.results60 (.tmp rfl) ?_
 exact cB ((En.lo_ex hs3f (by omega) hs0 (by omega) hj0 hnf).symm)
theorem Zcn {l:List Int} (ll:l.length≤9223372036854775807) (l8:c.st.length≤8) (hx:x<(c.st.length:Int)):Ctr Tryz.prog J 98 [.agg (En.cfV sx c),iv x,Zb l] (bv (En.fitB c x l)):=by
 refine Zm Tryz.func98 rfl (pN (Zh (En.plain_cfV _ c)) (pN (.v _) (pN (ZK _) pZ))) (n:=22) rfl (by simp) (fun w0 => ?_)
 refine kW 22 [] [(0,.agg (En.cfV sx c)),(1,iv x),(2,Zb l)] (jB (oA (ZD (X := .agg (En.cfV sx c)) (.tmp 0) rfl rfl rfl) I0 (oS bF (jD ?_))))
 by_cases hs1:(l.length:Int)=0
 refine Za (oW (oW (oe (dT hs1) (oS bT (qK (qK (qK (qK (qK (qK (qK (qK (qK (qK (oF bT (jE ?_))))))))))))))))
 refine Zg Tryz.results98 (.tmp rfl) ?_
 exact cB ((by unfold En.fitB;simp only [hs1,decide_true,decide_false,Bool.and_true,Bool.true_and,Bool.false_and,Bool.and_false,Bool.true_or,Bool.false_or,Bool.or_true,Bool.or_false,Bool.not_true,Bool.not_false]))
 by_cases hs2:0≤x
 refine Za (oW (oW (oe (dF hs1) (oS bF (oW (oh (dT hs2) (oS bT (oW (oS (iv x) (oS (.el (En.cfV sx c) 1) (gC (ZX (off':=1+x.toNat*1) (.tmp 16) (.tmp 15) rfl U67 (by kernel_rfl) (by omega) (by omega) rfl) I0 I0 (gA (lE (iv (c.st.getD x.toNat 0)) 17 U3 (En.cfV_st (by omega))) I0 (oK (Wj l (c.st.getD x.toNat 0) ll) [Zb l,iv (c.st.getD x.toNat 0)] rfl rfl (oW (oF (bv (decide (c.st.getD x.toNat 0∈l))) (jE ?_))))))))))))))))
 refine Zg Tryz.results98 (.tmp rfl) ?_
 exact cB ((by unfold En.fitB;simp only [hs1,hs2,decide_true,decide_false,Bool.and_true,Bool.true_and,Bool.false_and,Bool.and_false,Bool.true_or,Bool.false_or,Bool.or_true,Bool.or_false,Bool.not_true,Bool.not_false]))
 refine Za (oW (oW (oe (dF hs1) (oS bF (oW (oh (dF hs2) (oS bF (qK (qK (qK (qK (qK (qK (oW (oF bF (jE ?_))))))))))))))))
 refine Zg Tryz.results98 (.tmp rfl) ?_
 exact cB ((by unfold En.fitB;simp only [hs1,hs2,decide_true,decide_false,Bool.and_true,Bool.true_and,Bool.false_and,Bool.and_false,Bool.true_or,Bool.false_or,Bool.or_true,Bool.or_false,Bool.not_true,Bool.not_false]))
abbrev WK (x0:Fm) (x1:Cf) (x2:Nat):List (Nat × ABlk):=[(1,.box 90 ([iv (Jd.lkF x0.top x1.sh x1.st.length x2),iv (Jd.lkS x0.top x1.sh x1.st.length x2),iv (En.lkP x0.top x1.sh x1.st.length x2)]))]
theorem neighH_c (hn:(Ns.cntE p n f).toNat=c.st.length) (l8:c.st.length≤8) (hr:r<p.rz.length) (hi:i<c.st.length) (hrl:RuLen p.rz[r]) (hx0:0≤sx) (hx1:sx<(((En.shS p.top (Ns.cntE p n f).toNat).length:Nat):Int)) (hx2:(En.shS p.top (Ns.cntE p n f).toNat)[sx.toNat]? = some c.sh) (hlk:Jd.lkF p.top c.sh c.st.length i<(c.st.length:Int)∧Jd.lkS p.top c.sh c.st.length i<(c.st.length:Int)∧En.lkP p.top c.sh c.st.length i<(c.st.length:Int)):Ctr Tryz.prog J 61 [.el (En.sysP p n t f) 0,.agg (En.cfV sx c),.agg [iv r,iv i,iv kp]] (bv (En.nbB p.top c p.rz[r] i)):=by
 refine Zm Tryz.func61 rfl (pN (show Plain (.el (En.sysP p n t f) 0) from .el (ZN (En.plain_sysP p n t f))) (pN (Zh (En.plain_cfV _ c)) (pN (Zh (pN (.v _) (pN (.v _) (pN (.v _) pZ)))) pZ))) (n:=79) rfl (by simp) (fun w0 => ?_)
 refine kW 79 [] [(0,.el (En.sysP p n t f) 0),(1,.agg (En.cfV sx c)),(2,.agg [iv r,iv i,iv kp])] (jB (oA (ZD (X := .agg (En.cfV sx c)) (.tmp 1) rfl rfl rfl) I0 (oA (ZD (X := .agg [iv r,iv i,iv kp]) (.tmp 2) rfl rfl rfl) I0 (oS bF (jD ?_)))))
 refine tD (dW (dW (dW (dW (dS (slA 18 cRu p.rz) (dW (dS (iv r) (dC (xS (r*18) 13 15 U25) I0 I0 (dS (.el (p.rz.flatMap cRu) (r*18)) (eD ?_))))))))))
 refine kW 79 [] [(0,.el (En.sysP p n t f) 0),(4,.el (En.cfV sx c) 0),(5,.el ([iv r,iv i,iv kp]) 0),(6,bF),(7,.el (p.rz.flatMap cRu) (r*18))] (jC ?_)
 refine tD (dW (dW (dW (dS (En.lkS p.top (Ns.cntE p n f).toNat) (dW (dS (iv sx) (dC (xS (sx.toNat*1) 20 22 U100) I0 I0 (dA (lE (Jd.lkA p.top c.sh c.st.length) 23 U93 (En.links_at hx2 hn)) I0 (dW (dS (iv i) (dC (xS (i*3) 24 26 U93) I0 I0 (dA (Zj (z:=3) (.tmp 27) rfl U90 rfl (by kernel_rfl) (En.lk_el (by omega)) rfl) I0 (dz 1 Z90 (dY (eD ?_)))))))))))))))
 refine kW 79 (WK p c i) [(4,.el (En.cfV sx c) 0),(5,.el ([iv r,iv i,iv kp]) 0),(6,bF),(7,.el (p.rz.flatMap cRu) (r*18)),(8,bx 1)] (jC (Zo (Zl ?_)))
 refine Ym (True) (ofL (WK p c i)) (ofT 79 [(4,.el (En.cfV sx c) 0),(6,bF),(7,.el (p.rz.flatMap cRu) (r*18)),(8,bx 1),(29,bv (decide (p.rz[r].pos=1) && !decide ((i:Int)=0)))]) ?_ (fun _ => ?_)
 by_cases hs1:p.rz[r].pos=1
 by_cases hs2:(i:Int)=0
 refine Za (oW (oW (oW (oL (iv p.rz[r].pos) (fT lenRu p.rz r 13) (oe (dT hs1) (oS bT (oW (oW (on (dT' hs2) (oF bF (kN 79 [(1,.box 90 ([iv (Jd.lkF p.top c.sh c.st.length i),iv (Jd.lkS p.top c.sh c.st.length i),iv (En.lkP p.top c.sh c.st.length i)]))] [(4,.el (En.cfV sx c) 0),(6,bF),(7,.el (p.rz.flatMap cRu) (r*18)),(8,bx 1),(29,bF)] ?_)))))))))))
 rw [show ((decide (p.rz[r].pos=1) && !decide ((i:Int)=0)))=false by simp only [dT hs1,dT hs2,decide_true,decide_false,Bool.and_true,Bool.true_and,Bool.false_and,Bool.and_false,Bool.true_or,Bool.false_or,Bool.or_true,Bool.or_false,Bool.not_true,Bool.not_false]]
 exact tM T0
 refine Za (oW (oW (oW (oL (iv p.rz[r].pos) (fT lenRu p.rz r 13) (oe (dT hs1) (oS bT (oW (oW (on (dF' hs2) (oF bT (kN 79 [(1,.box 90 ([iv (Jd.lkF p.top c.sh c.st.length i),iv (Jd.lkS p.top c.sh c.st.length i),iv (En.lkP p.top c.sh c.st.length i)]))] [(4,.el (En.cfV sx c) 0),(6,bF),(7,.el (p.rz.flatMap cRu) (r*18)),(8,bx 1),(29,bT)] ?_)))))))))))
 rw [show ((decide (p.rz[r].pos=1) && !decide ((i:Int)=0)))=true by simp only [dT hs1,dF hs2,decide_true,decide_false,Bool.and_true,Bool.true_and,Bool.false_and,Bool.and_false,Bool.true_or,Bool.false_or,Bool.or_true,Bool.or_false,Bool.not_true,Bool.not_false]]
 exact tM T0
 refine Za (oW (oW (oW (oL (iv p.rz[r].pos) (fT lenRu p.rz r 13) (oe (dF hs1) (oS bF (qK (qK (qK (oF bF (kN 79 [(1,.box 90 ([iv (Jd.lkF p.top c.sh c.st.length i),iv (Jd.lkS p.top c.sh c.st.length i),iv (En.lkP p.top c.sh c.st.length i)]))] [(4,.el (En.cfV sx c) 0),(6,bF),(7,.el (p.rz.flatMap cRu) (r*18)),(8,bx 1),(29,bF)] ?_)))))))))))
 rw [show ((decide (p.rz[r].pos=1) && !decide ((i:Int)=0)))=false by simp only [dF hs1,decide_true,decide_false,Bool.and_true,Bool.true_and,Bool.false_and,Bool.and_false,Bool.true_or,Bool.false_or,Bool.or_true,Bool.or_false,Bool.not_true,Bool.not_false]]
 exact tM T0
 refine Zf ?_
 by_cases hs3:(decide (p.rz[r].pos=1) && !decide ((i:Int)=0))=true
 rw [hs3]
 refine kW 79 (WK p c i) [(4,.el (En.cfV sx c) 0),(6,bF),(7,.el (p.rz.flatMap cRu) (r*18)),(8,bx 1),(29,bT)] (jK (oS bF (jE (Zn (Zc ?_)))))
 refine Zg Tryz.results61 (.tmp rfl) ?_
 exact cB ((by unfold En.nbB;simp only [hs3,decide_true,decide_false,Bool.and_true,Bool.true_and,Bool.false_and,Bool.and_false,Bool.true_or,Bool.false_or,Bool.or_true,Bool.or_false,Bool.not_true,Bool.not_false]))
 have hs3f:(decide (p.rz[r].pos=1) && !decide ((i:Int)=0))=false:=by simpa using hs3
 rw [hs3f]
 refine kW 79 (WK p c i) [(4,.el (En.cfV sx c) 0),(6,bF),(7,.el (p.rz.flatMap cRu) (r*18)),(8,bx 1),(29,bF)] (ZA rfl (Zl ?_))
 refine Ym (True) (ofL (WK p c i)) (ofT 79 [(4,.el (En.cfV sx c) 0),(6,bF),(7,.el (p.rz.flatMap cRu) (r*18)),(8,bx 1),(40,bv (decide (p.rz[r].pos=2)&&decide (0≤(Jd.lkS p.top c.sh c.st.length i))))]) ?_ (fun _ => ?_)
 by_cases hs4:p.rz[r].pos=2
 by_cases hs5:0≤(Jd.lkS p.top c.sh c.st.length i)
 refine Za (oW (oW (oW (oL (iv p.rz[r].pos) (fT lenRu p.rz r 13) (oe (dT hs4) (oS bT (oW (oW (oh (dT hs5) (oF bT (kN 79 [(1,.box 90 ([iv (Jd.lkF p.top c.sh c.st.length i),iv (Jd.lkS p.top c.sh c.st.length i),iv (En.lkP p.top c.sh c.st.length i)]))] [(4,.el (En.cfV sx c) 0),(6,bF),(7,.el (p.rz.flatMap cRu) (r*18)),(8,bx 1),(40,bT)] ?_)))))))))))
 rw [show ((decide (p.rz[r].pos=2)&&decide (0≤(Jd.lkS p.top c.sh c.st.length i))))=true by simp only [hs3f,dT hs4,dT hs5,decide_true,decide_false,Bool.and_true,Bool.true_and,Bool.false_and,Bool.and_false,Bool.true_or,Bool.false_or,Bool.or_true,Bool.or_false,Bool.not_true,Bool.not_false]]
 exact tM T0
 refine Za (oW (oW (oW (oL (iv p.rz[r].pos) (fT lenRu p.rz r 13) (oe (dT hs4) (oS bT (oW (oW (oh (dF hs5) (oF bF (kN 79 [(1,.box 90 ([iv (Jd.lkF p.top c.sh c.st.length i),iv (Jd.lkS p.top c.sh c.st.length i),iv (En.lkP p.top c.sh c.st.length i)]))] [(4,.el (En.cfV sx c) 0),(6,bF),(7,.el (p.rz.flatMap cRu) (r*18)),(8,bx 1),(40,bF)] ?_)))))))))))
 rw [show ((decide (p.rz[r].pos=2)&&decide (0≤(Jd.lkS p.top c.sh c.st.length i))))=false by simp only [hs3f,dT hs4,dF hs5,decide_true,decide_false,Bool.and_true,Bool.true_and,Bool.false_and,Bool.and_false,Bool.true_or,Bool.false_or,Bool.or_true,Bool.or_false,Bool.not_true,Bool.not_false]]
 exact tM T0
 refine Za (oW (oW (oW (oL (iv p.rz[r].pos) (fT lenRu p.rz r 13) (oe (dF hs4) (oS bF (qK (qK (qK (oF bF (kN 79 [(1,.box 90 ([iv (Jd.lkF p.top c.sh c.st.length i),iv (Jd.lkS p.top c.sh c.st.length i),iv (En.lkP p.top c.sh c.st.length i)]))] [(4,.el (En.cfV sx c) 0),(6,bF),(7,.el (p.rz.flatMap cRu) (r*18)),(8,bx 1),(40,bF)] ?_)))))))))))
 rw [show ((decide (p.rz[r].pos=2)&&decide (0≤(Jd.lkS p.top c.sh c.st.length i))))=false by simp only [hs3f,dF hs4,decide_true,decide_false,Bool.and_true,Bool.true_and,Bool.false_and,Bool.and_false,Bool.true_or,Bool.false_or,Bool.or_true,Bool.or_false,Bool.not_true,Bool.not_false]]
 exact tM T0
 refine Zf ?_
 by_cases hs6:(decide (p.rz[r].pos=2)&&decide (0≤(Jd.lkS p.top c.sh c.st.length i)))=true
 rw [hs6]
 refine kW 79 (WK p c i) [(4,.el (En.cfV sx c) 0),(6,bF),(7,.el (p.rz.flatMap cRu) (r*18)),(8,bx 1),(40,bT)] (jK (oS bF (jE (Zn (Zc ?_)))))
 refine Zg Tryz.results61 (.tmp rfl) ?_
 exact cB ((by unfold En.nbB;simp only [hs3f,hs6,decide_true,decide_false,Bool.and_true,Bool.true_and,Bool.false_and,Bool.and_false,Bool.true_or,Bool.false_or,Bool.or_true,Bool.or_false,Bool.not_true,Bool.not_false]))
 have hs6f:(decide (p.rz[r].pos=2)&&decide (0≤(Jd.lkS p.top c.sh c.st.length i)))=false:=by simpa using hs6
 rw [hs6f]
 refine kW 79 (WK p c i) [(4,.el (En.cfV sx c) 0),(6,bF),(7,.el (p.rz.flatMap cRu) (r*18)),(8,bx 1),(40,bF)] (ZA rfl (Zq (Zv (jC ?_))))
 by_cases hs7:(En.fitB c (Jd.lkF p.top c.sh c.st.length i) p.rz[r].left)=true
 by_cases hs8:(En.fitB c (Jd.lkS p.top c.sh c.st.length i) p.rz[r].right)=true
 refine tD (dA (Zj (z:=16) (.tmp 4) rfl U71 rfl (by kernel_rfl) rfl rfl) I0 (dW (dW (dW (dW (dW (dL (Zb p.rz[r].left) (fT lenRu p.rz r 14) (dk (Zr (Zcn (Nat.le_trans hrl.left (by decide)) l8 hlk.1) hs7) [.agg (En.cfV sx c),iv (Jd.lkF p.top c.sh c.st.length i),Zb p.rz[r].left] rfl rfl (dS bT (dA (Zj (z:=16) (.tmp 4) rfl U71 rfl (by kernel_rfl) rfl rfl) I0 (dW (dW (dW (dW (dW (dL (Zb p.rz[r].right) (fT lenRu p.rz r 15) (dk (Zr (Zcn (Nat.le_trans hrl.right (by decide)) l8 hlk.2.1) hs8) [.agg (En.cfV sx c),iv (Jd.lkS p.top c.sh c.st.length i),Zb p.rz[r].right] rfl rfl (dW (dS bT (dA (Zj (z:=16) (.tmp 4) rfl U71 rfl (by kernel_rfl) rfl rfl) I0 (dW (dW (dW (dW (dW (dL (Zb p.rz[r].pz) (fT lenRu p.rz r 16) (dk (Zcn (Nat.le_trans hrl.pz (by decide)) l8 hlk.2.2) [.agg (En.cfV sx c),iv (En.lkP p.top c.sh c.st.length i),Zb p.rz[r].pz] rfl rfl (dW (dS (bv (En.fitB c (En.lkP p.top c.sh c.st.length i) p.rz[r].pz)) (eD ?_))))))))))))))))))))))))))))))
 refine Zf (Z4 ?_)
 refine Zg Tryz.results61 (.tmp rfl) ?_
 exact cB ((by unfold En.nbB;simp only [hs3f,hs6f,hs7,hs8,decide_true,decide_false,Bool.and_true,Bool.true_and,Bool.false_and,Bool.and_false,Bool.true_or,Bool.false_or,Bool.or_true,Bool.or_false,Bool.not_true,Bool.not_false]))
 have hs8f:(En.fitB c (Jd.lkS p.top c.sh c.st.length i) p.rz[r].right)=false:=by simpa using hs8
 refine tD (dA (Zj (z:=16) (.tmp 4) rfl U71 rfl (by kernel_rfl) rfl rfl) I0 (dW (dW (dW (dW (dW (dL (Zb p.rz[r].left) (fT lenRu p.rz r 14) (dk (Zr (Zcn (Nat.le_trans hrl.left (by decide)) l8 hlk.1) hs7) [.agg (En.cfV sx c),iv (Jd.lkF p.top c.sh c.st.length i),Zb p.rz[r].left] rfl rfl (dS bT (dA (Zj (z:=16) (.tmp 4) rfl U71 rfl (by kernel_rfl) rfl rfl) I0 (dW (dW (dW (dW (dW (dL (Zb p.rz[r].right) (fT lenRu p.rz r 15) (dk (Zr (Zcn (Nat.le_trans hrl.right (by decide)) l8 hlk.2.1) hs8f) [.agg (En.cfV sx c),iv (Jd.lkS p.top c.sh c.st.length i),Zb p.rz[r].right] rfl rfl (dW (dS bF (dK (dK (dK (dK (dK (dK (dK (dK (dW (dS bF (eD ?_))))))))))))))))))))))))))))))
 refine Zf (Z4 ?_)
 refine Zg Tryz.results61 (.tmp rfl) ?_
 exact cB ((by unfold En.nbB;simp only [hs3f,hs6f,hs7,hs8f,decide_true,decide_false,Bool.and_true,Bool.true_and,Bool.false_and,Bool.and_false,Bool.true_or,Bool.false_or,Bool.or_true,Bool.or_false,Bool.not_true,Bool.not_false]))
 have hs7f:(En.fitB c (Jd.lkF p.top c.sh c.st.length i) p.rz[r].left)=false:=by simpa using hs7
 refine tD (dA (Zj (z:=16) (.tmp 4) rfl U71 rfl (by kernel_rfl) rfl rfl) I0 (dW (dW (dW (dW (dW (dL (Zb p.rz[r].left) (fT lenRu p.rz r 14) (dk (Zr (Zcn (Nat.le_trans hrl.left (by decide)) l8 hlk.1) hs7f) [.agg (En.cfV sx c),iv (Jd.lkF p.top c.sh c.st.length i),Zb p.rz[r].left] rfl rfl (dS bF (dK (dK (dK (dK (dK (dK (dK (dK (dW (dS bF (dK (dK (dK (dK (dK (dK (dK (dK (dW (dS bF (eD ?_))))))))))))))))))))))))))))))
 refine Zf (Z4 ?_)
 refine Zg Tryz.results61 (.tmp rfl) ?_
 exact cB ((by unfold En.nbB;simp only [hs3f,hs6f,hs7f,decide_true,decide_false,Bool.and_true,Bool.true_and,Bool.false_and,Bool.and_false,Bool.true_or,Bool.false_or,Bool.or_true,Bool.or_false,Bool.not_true,Bool.not_false]))
theorem passH_c (hn:(Ns.cntE p n f).toNat=c.st.length) (l8:c.st.length≤8) (hr:r<p.rz.length) (hi:i<c.st.length) (hrl:RuLen p.rz[r]) (hx0:0≤sx) (hx1:sx<(((En.shS p.top (Ns.cntE p n f).toNat).length:Nat):Int)) (hx2:(En.shS p.top (Ns.cntE p n f).toNat)[sx.toNat]? = some c.sh) (hlk:Jd.lkF p.top c.sh c.st.length i<(c.st.length:Int)∧Jd.lkS p.top c.sh c.st.length i<(c.st.length:Int)∧En.lkP p.top c.sh c.st.length i<(c.st.length:Int)):Ctr Tryz.prog J 62 [.el (En.sysP p n t f) 0,.agg (En.cfV sx c),.agg [iv r,iv i,iv kp]] (bv (En.psB p.top c p.rz[r] i kp)):=by
 refine Zm Tryz.func62 rfl (pN (show Plain (.el (En.sysP p n t f) 0) from .el (ZN (En.plain_sysP p n t f))) (pN (Zh (En.plain_cfV _ c)) (pN (Zh (pN (.v _) (pN (.v _) (pN (.v _) pZ)))) pZ))) (n:=63) rfl (by simp) (fun w0 => ?_)
 refine kW 63 [] [(0,.el (En.sysP p n t f) 0),(1,.agg (En.cfV sx c)),(2,.agg [iv r,iv i,iv kp])] (jB (oA (ZD (X := .agg (En.cfV sx c)) (.tmp 1) rfl rfl rfl) I0 (oA (ZD (X := .agg [iv r,iv i,iv kp]) (.tmp 2) rfl rfl rfl) I0 (oS bF (jD ?_)))))
 refine tD (dW (dW (dW (dS (En.lkS p.top (Ns.cntE p n f).toNat) (dW (dS (iv sx) (dC (xS (sx.toNat*1) 11 13 U100) I0 I0 (dA (lE (Jd.lkA p.top c.sh c.st.length) 14 U93 (En.links_at hx2 hn)) I0 (dW (dS (iv i) (dC (xS (i*3) 15 17 U93) I0 I0 (dA (Zj (z:=3) (.tmp 18) rfl U90 rfl (by kernel_rfl) (En.lk_el (by omega)) rfl) I0 (dz 1 Z90 (dY (eD ?_)))))))))))))))
 refine kW 63 (WK p c i) [(0,.el (En.sysP p n t f) 0),(5,.el ([iv r,iv i,iv kp]) 0),(6,bF),(7,bx 1)] (jC (Zl ?_))
 refine tD (dW (dW (dW (dW (dS (slA 18 cRu p.rz) (dW (dS (iv r) (dC (xS (r*18) 24 26 U25) I0 I0 (dW (dL (iv p.rz[r].dir) (fT lenRu p.rz r 17) (eD ?_)))))))))))
 refine kW 63 (WK p c i) [(5,.el ([iv r,iv i,iv kp]) 0),(6,bF),(7,bx 1),(29,iv p.rz[r].dir)] (Zf (Zo (Zl ?_)))
 by_cases hs1:p.rz[r].dir=1
 refine Za (oe (dT hs1) (oS bT (jG (oF (iv kp) (oF (iv (Jd.lkS p.top c.sh c.st.length i)) (oC (ZM rfl rfl) I0 I0 (oS (bv (decide (kp=(Jd.lkS p.top c.sh c.st.length i)))) (jE (Zn (Zc ?_))))))))))
 refine Zg Tryz.results62 (.tmp rfl) ?_
 exact cB ((by unfold En.psB;rw [if_pos hs1]))
 refine Za (oe (dF hs1) (oS bF (jI (Zl ?_))))
 by_cases hs2:p.rz[r].dir=2
 refine Za (oe (dT hs2) (oS bT (jG (oF (iv kp) (oF (iv (Jd.lkF p.top c.sh c.st.length i)) (oC (ZM rfl rfl) I0 I0 (oS (bv (decide (kp=(Jd.lkF p.top c.sh c.st.length i)))) (jE (Zn (Zc ?_))))))))))
 refine Zg Tryz.results62 (.tmp rfl) ?_
 exact cB ((by unfold En.psB;rw [if_neg hs1,if_pos hs2]))
 refine Za (oe (dF hs2) (oS bF (jI (Zl ?_))))
 by_cases hs3:p.rz[r].dir=3
 refine Za (oe (dT hs3) (oS bT (jH (Zl ?_))))
 by_cases hs4:kp=(Jd.lkF p.top c.sh c.st.length i)
 refine Za (oW (oW (oW (oW (oe (dT hs4) (oS bT (qK (qK (qK (qK (qK (oF bT (jE (Zn (Zc ?_)))))))))))))))
 refine Zg Tryz.results62 (.tmp rfl) ?_
 exact cB ((by unfold En.psB;rw [if_neg hs1,if_neg hs2,if_pos hs3];simp only [dT hs4,decide_true,decide_false,Bool.and_true,Bool.true_and,Bool.false_and,Bool.and_false,Bool.true_or,Bool.false_or,Bool.or_true,Bool.or_false,Bool.not_true,Bool.not_false]))
 refine Za (oW (oW (oW (oW (oe (dF hs4) (oS bF (oF (iv kp) (oF (iv (Jd.lkS p.top c.sh c.st.length i)) (gC (ZM rfl rfl) I0 I0 (oF (bv (decide (kp=(Jd.lkS p.top c.sh c.st.length i)))) (jE (Zn (Zc ?_)))))))))))))
 refine Zg Tryz.results62 (.tmp rfl) ?_
 exact cB ((by unfold En.psB;rw [if_neg hs1,if_neg hs2,if_pos hs3];simp only [dF hs4,decide_true,decide_false,Bool.and_true,Bool.true_and,Bool.false_and,Bool.and_false,Bool.true_or,Bool.false_or,Bool.or_true,Bool.or_false,Bool.not_true,Bool.not_false]))
 refine Za (oe (dF hs3) (oS bF (jI (Zq (Zv (jC (Za (oF (iv kp) (oF (iv (En.lkP p.top c.sh c.st.length i)) (oC (ZM rfl rfl) I0 I0 (oS (bv (decide (kp=(En.lkP p.top c.sh c.st.length i)))) (jE ?_))))))))))))
 refine Zg Tryz.results62 (.tmp rfl) ?_
 exact cB ((by unfold En.psB;rw [if_neg hs1,if_neg hs2,if_neg hs3]))
theorem En.nbr (hc:En.CfV p n f c) (hv:valE p=0) (hr:r<p.rz.length) (hk:¬ p.rz[r].kind≤3) (hi:i<c.st.length) :
 (0≤(Rd.shI p.top (Ns.shT p.top (Ns.cntE p n f)) c.sh)∧(Rd.shI p.top (Ns.shT p.top (Ns.cntE p n f)) c.sh)<(((En.shS p.top (Ns.cntE p n f).toNat).length:Nat):Int)∧(En.shS p.top (Ns.cntE p n f).toNat)[((Rd.shI p.top (Ns.shT p.top (Ns.cntE p n f)) c.sh)).toNat]? = some c.sh) ∧
 (Jd.lkF p.top c.sh c.st.length i<(c.st.length:Int)∧Jd.lkS p.top c.sh c.st.length i<(c.st.length:Int)∧En.lkP p.top c.sh c.st.length i<(c.st.length:Int)):=by
 have R:=En.val_in hv (List.getElem_mem hr)
 have h1:¬ p.top=1:=fun e=>hk (R.kt.2 e)
 have ht:=Jd.top_in hv
 have h0:0≤Ns.cntE p n f:=by have:=hc.ln;omega
 exact ⟨En.shI_at hc h1 ht h0,En.lk_ok hc h1 ht hi⟩
theorem En.isP_nat (h:i<m):En.isP m (i:Int)=true:=by unfold En.isP;rw [decide_eq_true (by omega),decide_eq_true (by omega)];rfl
theorem enabled_in (HL:FamLen p) (hc:En.CfV p n f c) (hv:valE p=0) (l8:c.st.length≤8) (hr:r<p.rz.length) (hi:i<c.st.length) {g:Nat→Int} (hg:∀ m,0≤g m∧g m≤3000000):Ctr Tryz.prog J 38 [.el (En.sysP p n t f) 0,.agg (En.cfV (Rd.shI p.top (Ns.shT p.top (Ns.cntE p n f)) c.sh) c),.agg [iv r,iv i,iv kp],.agg (En.msA g)] (bv (En.enR p.top n t f c g p.rz[r] i kp)):=by
 have R:=En.val_in hv (List.getElem_mem hr)
 have hz:=En.val_sizes hv
 have hn:=hc.ln.symm
 have hnN:(Ns.cntE p n f).toNat=c.st.length:=by omega
 have hle:=(HL.rz _ (List.getElem_mem hr)).ex
 have hlf:=(HL.rz _ (List.getElem_mem hr)).fa
 refine Zm Tryz.func38 rfl (pN (show Plain (.el (En.sysP p n t f) 0) from .el (ZN (En.plain_sysP p n t f))) (pN (Zh (En.plain_cfV _ c)) (pN (Zh (pN (.v _) (pN (.v _) (pN (.v _) pZ)))) (pN (Zh (En.plain_msA _)) pZ)))) (n:=94) rfl (by simp) (fun w0 => ?_)
 refine kW 94 [] [(0,.el (En.sysP p n t f) 0),(1,.agg (En.cfV (Rd.shI p.top (Ns.shT p.top (Ns.cntE p n f)) c.sh) c)),(2,.agg [iv r,iv i,iv kp]),(3,.agg (En.msA g))] (jB (oA (ZD (X := .agg (En.cfV (Rd.shI p.top (Ns.shT p.top (Ns.cntE p n f)) c.sh) c)) (.tmp 1) rfl rfl rfl) I0 (oA (ZD (X := .agg [iv r,iv i,iv kp]) (.tmp 2) rfl rfl rfl) I0 (oA (ZD (X := .agg (En.msA g)) (.tmp 3) rfl rfl rfl) I0 (oS bF (jD (Zl ?_)))))))
 refine tD (dW (dS (iv r) (dC (Zcc rfl (dF (by omega))) I0 I0 (dS bF (dW (dS (iv r) (dW (dW (dW (dW (dW (dS (iv p.rz.length) (dC (Zbq rfl (dF (by omega))) I0 I0 (dW (dS bF (dW (dW (dW (dk (Zr (ZaH hn) (En.isP_nat hi)) [.el (En.sysP p n t f) 0,iv i] rfl rfl (dW (dS bF (eD ?_))))))))))))))))))))))
 refine kW 94 [] [(0,.el (En.sysP p n t f) 0),(5,.el (En.cfV (Rd.shI p.top (Ns.shT p.top (Ns.cntE p n f)) c.sh) c) 0),(6,.el ([iv r,iv i,iv kp]) 0),(7,.el (En.msA g) 0),(8,bF),(30,bF)] (jJ (Zl ?_))
 refine tD (dW (dW (dW (dW (dS (slA 18 cRu p.rz) (dW (dS (iv r) (dC (xS (r*18) 35 37 U25) I0 I0 (dS (.el (p.rz.flatMap cRu) (r*18)) (eD ?_))))))))))
 refine kW 94 [] [(0,.el (En.sysP p n t f) 0),(5,.el (En.cfV (Rd.shI p.top (Ns.shT p.top (Ns.cntE p n f)) c.sh) c) 0),(6,.el ([iv r,iv i,iv kp]) 0),(7,.el (En.msA g) 0),(8,bF),(9,.el (p.rz.flatMap cRu) (r*18))] (jC (Zl ?_))
 by_cases hs1:(c.st.getD i 0)=p.rz[r].frm
 by_cases hs2:(En.ptB c p.rz[r] i kp)=true
 refine tD (dW (dS (iv i) (dS (.el (En.cfV (Rd.shI p.top (Ns.shT p.top (Ns.cntE p n f)) c.sh) c) 1) (dC (ZX (off':=1+i*1) (.tmp 41) (.tmp 40) rfl U67 (by kernel_rfl) (by omega) (by omega) rfl) I0 I0 (dA (lE (iv (c.st.getD i 0)) 42 U3 (En.cfV_st (by omega))) I0 (dW (dW (dW (dL (iv p.rz[r].frm) (fT lenRu p.rz r 2) (dn (dT' hs1) (dS bF (dW (dA (Zj (z:=16) (.tmp 5) rfl U71 rfl (by kernel_rfl) rfl rfl) I0 (dW (dA (Zj (z:=3) (.tmp 6) rfl U35 rfl (by kernel_rfl) rfl rfl) I0 (dk (Zr (Zcj hn l8 hr hi) hs2) [.el (En.sysP p n t f) 0,.agg (En.cfV (Rd.shI p.top (Ns.shT p.top (Ns.cntE p n f)) c.sh) c),.el (p.rz.flatMap cRu) (r*18),.agg ([iv r,iv i,iv kp])] rfl rfl (dW (dS bF (eD ?_)))))))))))))))))))
 refine kW 94 [] [(0,.el (En.sysP p n t f) 0),(5,.el (En.cfV (Rd.shI p.top (Ns.shT p.top (Ns.cntE p n f)) c.sh) c) 0),(6,.el ([iv r,iv i,iv kp]) 0),(7,.el (En.msA g) 0),(8,bF),(9,.el (p.rz.flatMap cRu) (r*18)),(56,bF)] (jJ (jM (Za (oW (oW (oW (oL (iv p.rz[r].kind) (fT lenRu p.rz r 1) (jA (Zo (Zl ?_))))))))))
 by_cases hs3:p.rz[r].kind=1
 refine Za (oe (dT hs3) (oS bT (jG (oW (oA (Zj (z:=16) (.tmp 5) rfl U71 rfl (by kernel_rfl) rfl rfl) I0 (oA (Zj (z:=3) (.tmp 6) rfl U35 rfl (by kernel_rfl) rfl rfl) I0 (oA (Zj (z:=3) (.tmp 7) rfl U69 rfl (by kernel_rfl) rfl rfl) I0 (oK (localH_c hn l8 hr hi hg hz.1 hz.2.2.1 R.gl R.gd (Nat.le_trans hle (by decide)) (Nat.le_trans hlf (by decide))) [.el (En.sysP p n t f) 0,.agg (En.cfV (Rd.shI p.top (Ns.shT p.top (Ns.cntE p n f)) c.sh) c),.agg ([iv r,iv i,iv kp]),.agg (En.msA g)] rfl rfl (oS (bv (En.loB n t f c p.rz[r] g i)) (jE (Zn (Zc ?_))))))))))))
 refine Zg Tryz.results38 (.tmp rfl) ?_
 exact cB ((by unfold En.enR;rw [if_pos hs3];simp only [dT hs1,hs2,decide_true,decide_false,Bool.and_true,Bool.true_and,Bool.false_and,Bool.and_false,Bool.true_or,Bool.false_or,Bool.or_true,Bool.or_false,Bool.not_true,Bool.not_false]))
 refine Za (oe (dF hs3) (oS bF (jI (Zl ?_))))
 by_cases hs4:p.rz[r].kind=4
 refine Za (oe (dT hs4) (oS bT (jG (oW (oA (Zj (z:=16) (.tmp 5) rfl U71 rfl (by kernel_rfl) rfl rfl) I0 (oA (Zj (z:=3) (.tmp 6) rfl U35 rfl (by kernel_rfl) rfl rfl) I0 (oK (neighH_c hnN l8 hr hi (kp:=kp) (HL.rz _ (List.getElem_mem hr)) (En.nbr hc hv hr (by have:=hs4;omega) hi).1.1 (En.nbr hc hv hr (by have:=hs4;omega) hi).1.2.1 (En.nbr hc hv hr (by have:=hs4;omega) hi).1.2.2 (En.nbr hc hv hr (by have:=hs4;omega) hi).2) [.el (En.sysP p n t f) 0,.agg (En.cfV (Rd.shI p.top (Ns.shT p.top (Ns.cntE p n f)) c.sh) c),.agg ([iv r,iv i,iv kp])] rfl rfl (oS (bv (En.nbB p.top c p.rz[r] i)) (jE (Zn (Zc ?_)))))))))))
 refine Zg Tryz.results38 (.tmp rfl) ?_
 exact cB ((by unfold En.enR;rw [if_neg hs3,if_pos hs4];simp only [dT hs1,hs2,decide_true,decide_false,Bool.and_true,Bool.true_and,Bool.false_and,Bool.and_false,Bool.true_or,Bool.false_or,Bool.or_true,Bool.or_false,Bool.not_true,Bool.not_false]))
 refine Za (oe (dF hs4) (oS bF (jI (Zl ?_))))
 by_cases hs5:p.rz[r].kind=5
 refine Za (oe (dT hs5) (oS bT (jG (oW (oA (Zj (z:=16) (.tmp 5) rfl U71 rfl (by kernel_rfl) rfl rfl) I0 (oA (Zj (z:=3) (.tmp 6) rfl U35 rfl (by kernel_rfl) rfl rfl) I0 (oK (passH_c hnN l8 hr hi (HL.rz _ (List.getElem_mem hr)) (En.nbr hc hv hr (by have:=hs5;omega) hi).1.1 (En.nbr hc hv hr (by have:=hs5;omega) hi).1.2.1 (En.nbr hc hv hr (by have:=hs5;omega) hi).1.2.2 (En.nbr hc hv hr (by have:=hs5;omega) hi).2) [.el (En.sysP p n t f) 0,.agg (En.cfV (Rd.shI p.top (Ns.shT p.top (Ns.cntE p n f)) c.sh) c),.agg ([iv r,iv i,iv kp])] rfl rfl (oS (bv (En.psB p.top c p.rz[r] i kp)) (jE (Zn (Zc ?_)))))))))))
 refine Zg Tryz.results38 (.tmp rfl) ?_
 exact cB ((by unfold En.enR;rw [if_neg hs3,if_neg hs4,if_pos hs5];simp only [dT hs1,hs2,decide_true,decide_false,Bool.and_true,Bool.true_and,Bool.false_and,Bool.and_false,Bool.true_or,Bool.false_or,Bool.or_true,Bool.or_false,Bool.not_true,Bool.not_false]))
 refine Za (oe (dF hs5) (oS bF (jI (Zq (Zv (jC ?_))))))
 by_cases hs6:p.rz[r].rd<0
 refine tD (dW (dW (dW (dL (iv p.rz[r].rd) (fT lenRu p.rz r 10) (dl (dT hs6) (dS bT (dK (dK (dK (dK (dK (dK (dK (dW (dS bT (eD ?_))))))))))))))))
 refine Zf (Z4 ?_)
 refine Zg Tryz.results38 (.tmp rfl) ?_
 exact cB ((by unfold En.enR;rw [if_neg hs3,if_neg hs4,if_neg hs5];simp only [dT hs1,hs2,dT hs6,decide_true,decide_false,Bool.and_true,Bool.true_and,Bool.false_and,Bool.and_false,Bool.true_or,Bool.false_or,Bool.or_true,Bool.or_false,Bool.not_true,Bool.not_false]))
 refine tD (dW (dW (dW (dL (iv p.rz[r].rd) (fT lenRu p.rz r 10) (dl (dF hs6) (dS bF (dW (dS (iv c.val) (dW (dW (dW (dL (iv p.rz[r].rd) (fT lenRu p.rz r 10) (dC (ZM rfl rfl) I0 I0 (dW (dS (bv (decide (c.val=p.rz[r].rd))) (eD ?_))))))))))))))))
 refine Zf (Z4 ?_)
 refine Zg Tryz.results38 (.tmp rfl) ?_
 exact cB ((by unfold En.enR;rw [if_neg hs3,if_neg hs4,if_neg hs5];simp only [dT hs1,hs2,dF hs6,decide_true,decide_false,Bool.and_true,Bool.true_and,Bool.false_and,Bool.and_false,Bool.true_or,Bool.false_or,Bool.or_true,Bool.or_false,Bool.not_true,Bool.not_false]))
 have hs2f:(En.ptB c p.rz[r] i kp)=false:=by simpa using hs2
 refine tD (dW (dS (iv i) (dS (.el (En.cfV (Rd.shI p.top (Ns.shT p.top (Ns.cntE p n f)) c.sh) c) 1) (dC (ZX (off':=1+i*1) (.tmp 41) (.tmp 40) rfl U67 (by kernel_rfl) (by omega) (by omega) rfl) I0 I0 (dA (lE (iv (c.st.getD i 0)) 42 U3 (En.cfV_st (by omega))) I0 (dW (dW (dW (dL (iv p.rz[r].frm) (fT lenRu p.rz r 2) (dn (dT' hs1) (dS bF (dW (dA (Zj (z:=16) (.tmp 5) rfl U71 rfl (by kernel_rfl) rfl rfl) I0 (dW (dA (Zj (z:=3) (.tmp 6) rfl U35 rfl (by kernel_rfl) rfl rfl) I0 (dk (Zr (Zcj hn l8 hr hi) hs2f) [.el (En.sysP p n t f) 0,.agg (En.cfV (Rd.shI p.top (Ns.shT p.top (Ns.cntE p n f)) c.sh) c),.el (p.rz.flatMap cRu) (r*18),.agg ([iv r,iv i,iv kp])] rfl rfl (dW (dS bT (eD ?_)))))))))))))))))))
 refine kW 94 [] [(0,.el (En.sysP p n t f) 0),(5,.el (En.cfV (Rd.shI p.top (Ns.shT p.top (Ns.cntE p n f)) c.sh) c) 0),(6,.el ([iv r,iv i,iv kp]) 0),(7,.el (En.msA g) 0),(8,bF),(9,.el (p.rz.flatMap cRu) (r*18)),(56,bT)] (Zf (jK (oS bF (jE (Zc ?_)))))
 refine Zg Tryz.results38 (.tmp rfl) ?_
 exact cB ((by unfold En.enR;simp only [dT hs1,hs2f,decide_true,decide_false,Bool.and_true,Bool.true_and,Bool.false_and,Bool.and_false,Bool.true_or,Bool.false_or,Bool.or_true,Bool.or_false,Bool.not_true,Bool.not_false]))
 refine tD (dW (dS (iv i) (dS (.el (En.cfV (Rd.shI p.top (Ns.shT p.top (Ns.cntE p n f)) c.sh) c) 1) (dC (ZX (off':=1+i*1) (.tmp 41) (.tmp 40) rfl U67 (by kernel_rfl) (by omega) (by omega) rfl) I0 I0 (dA (lE (iv (c.st.getD i 0)) 42 U3 (En.cfV_st (by omega))) I0 (dW (dW (dW (dL (iv p.rz[r].frm) (fT lenRu p.rz r 2) (dn (dF' hs1) (dS bT (dK (dK (dK (dK (dK (dK (dS bT (eD ?_)))))))))))))))))))
 refine kW 94 [] [(0,.el (En.sysP p n t f) 0),(5,.el (En.cfV (Rd.shI p.top (Ns.shT p.top (Ns.cntE p n f)) c.sh) c) 0),(6,.el ([iv r,iv i,iv kp]) 0),(7,.el (En.msA g) 0),(8,bF),(9,.el (p.rz.flatMap cRu) (r*18)),(56,bT)] (Zf (jK (oS bF (jE (Zc ?_)))))
 refine Zg Tryz.results38 (.tmp rfl) ?_
 exact cB ((by unfold En.enR;simp only [dF hs1,decide_true,decide_false,Bool.and_true,Bool.true_and,Bool.false_and,Bool.and_false,Bool.true_or,Bool.false_or,Bool.or_true,Bool.or_false,Bool.not_true,Bool.not_false]))
variable {y:Int}
theorem Zcq (HL:FamLen p) (hc:En.CfV p n f c) (hv:valE p=0) (l8:c.st.length≤8) (hno:(0≤x∧x<(p.rz.length:Int))→En.isP c.st.length y=false) {g:Nat→Int}:Ctr Tryz.prog J 38 [.el (En.sysP p n t f) 0,.agg (En.cfV (Rd.shI p.top (Ns.shT p.top (Ns.cntE p n f)) c.sh) c),.agg [iv x,iv y,iv kp],.agg (En.msA g)] bF:=by
 have hn:=hc.ln.symm
 have hz:=En.val_sizes hv
 refine Zm Tryz.func38 rfl (pN (show Plain (.el (En.sysP p n t f) 0) from .el (ZN (En.plain_sysP p n t f))) (pN (Zh (En.plain_cfV _ c)) (pN (Zh (pN (.v _) (pN (.v _) (pN (.v _) pZ)))) (pN (Zh (En.plain_msA _)) pZ)))) (n:=94) rfl (by simp) (fun w0 => ?_)
 refine kW 94 [] [(0,.el (En.sysP p n t f) 0),(1,.agg (En.cfV (Rd.shI p.top (Ns.shT p.top (Ns.cntE p n f)) c.sh) c)),(2,.agg [iv x,iv y,iv kp]),(3,.agg (En.msA g))] (jB (oA (ZD (X := .agg (En.cfV (Rd.shI p.top (Ns.shT p.top (Ns.cntE p n f)) c.sh) c)) (.tmp 1) rfl rfl rfl) I0 (oA (ZD (X := .agg [iv x,iv y,iv kp]) (.tmp 2) rfl rfl rfl) I0 (oA (ZD (X := .agg (En.msA g)) (.tmp 3) rfl rfl rfl) I0 (oS bF (jD (Zl ?_)))))))
 by_cases hs1:x<0
 refine tD (dW (dW (dl (dT hs1) (dS bT (dK (dK (dK (dK (dK (dK (dK (dK (dK (dW (dS bT (dK (dK (dK (dK (dK (dS bT (eD ?_))))))))))))))))))))))
 refine kW 94 [] [(0,.el (En.sysP p n t f) 0),(5,.el (En.cfV (Rd.shI p.top (Ns.shT p.top (Ns.cntE p n f)) c.sh) c) 0),(6,.el ([iv x,iv y,iv kp]) 0),(7,.el (En.msA g) 0),(8,bF),(30,bT)] (Zf (jK (oS bF (jE (Zc ?_)))))
 refine Zg Tryz.results38 (.tmp rfl) ?_
 exact rfl
 by_cases hs2:(p.rz.length:Int)≤x
 refine tD (dW (dW (dl (dF hs1) (dS bF (dW (dW (dW (dW (dW (dW (dW (dW (dh (dT hs2) (dW (dS bT (dK (dK (dK (dK (dK (dS bT (eD ?_))))))))))))))))))))))
 refine kW 94 [] [(0,.el (En.sysP p n t f) 0),(5,.el (En.cfV (Rd.shI p.top (Ns.shT p.top (Ns.cntE p n f)) c.sh) c) 0),(6,.el ([iv x,iv y,iv kp]) 0),(7,.el (En.msA g) 0),(8,bF),(30,bT)] (Zf (jK (oS bF (jE (Zc ?_)))))
 refine Zg Tryz.results38 (.tmp rfl) ?_
 exact rfl
 refine tD (dW (dW (dl (dF hs1) (dS bF (dW (dW (dW (dW (dW (dW (dW (dW (dh (dF hs2) (dW (dS bF (dW (dW (dW (dk (Zr (ZaH hn) (hno (by have:=hs1;have:=hs2;omega))) [.el (En.sysP p n t f) 0,iv y] rfl rfl (dW (dS bT (eD ?_))))))))))))))))))))))
 refine kW 94 [] [(0,.el (En.sysP p n t f) 0),(5,.el (En.cfV (Rd.shI p.top (Ns.shT p.top (Ns.cntE p n f)) c.sh) c) 0),(6,.el ([iv x,iv y,iv kp]) 0),(7,.el (En.msA g) 0),(8,bF),(30,bT)] (Zf (jK (oS bF (jE (Zc ?_)))))
 refine Zg Tryz.results38 (.tmp rfl) ?_
 exact rfl
theorem En.isP_no (h:¬ (0≤x∧x<(m:Int))):En.isP m x=false:=by
 unfold En.isP
 rw [Bool.and_eq_false_iff,decide_eq_false_iff_not,decide_eq_false_iff_not]
 omega
theorem ZbS (HL:FamLen p) (hc:En.CfV p n f c) (hv:valE p=0) (l8:c.st.length≤8) {g:Nat→Int} (hg:∀ m,0≤g m∧g m≤3000000):Ctr Tryz.prog J 38 [.el (En.sysP p n t f) 0,.agg (En.cfV (Rd.shI p.top (Ns.shT p.top (Ns.cntE p n f)) c.sh) c),.agg [iv x,iv y,iv kp],.agg (En.msA g)] (bv (En.enB p n t f c g x y kp)):=by
 by_cases h1:0≤x∧x<(p.rz.length:Int)
 ·by_cases h2:0≤y∧y<(c.st.length:Int)
  ·obtain ⟨r,rfl⟩:=Int.eq_ofNat_of_zero_le h1.1
   obtain ⟨i,rfl⟩:=Int.eq_ofNat_of_zero_le h2.1
   have hr:r<p.rz.length:=by omega
   have hi:i<c.st.length:=by omega
   have e:En.enB p n t f c g (r:Int) (i:Int) kp=En.enR p.top n t f c g p.rz[r] i kp:=by
    unfold En.enB
    rw [En.isP_nat hr,En.isP_nat hi,Int.toNat_natCast,Int.toNat_natCast,List.getD_eq_getElem?_getD,List.getElem?_eq_getElem hr]
    rfl
   rw [e]
   exact enabled_in HL hc hv l8 hr hi hg
  have e:En.enB p n t f c g x y kp=false:=by
   unfold En.enB
   rw [En.isP_no h2];simp
  rw [e]
  exact Zcq HL hc hv l8 fun _=>En.isP_no h2
 have e:En.enB p n t f c g x y kp=false:=by
  unfold En.enB
  rw [En.isP_no h1];rfl
 rw [e]
 exact Zcq HL hc hv l8 fun h=>absurd h h1
namespace En
theorem vc_ok (h:Rd.vcE p n t f c=0):Ns.sysE p n t f=0∧Rd.rdX p n f c=true:=by
 unfold Rd.vcE at h
 split at h
 ·rename_i hs
  split at h
  ·rename_i hx;exact ⟨hs,hx⟩
  cases h
 rename_i hs;exact absurd h hs
theorem cf_len (h:CfV p n f c) (ha:1≤n∧n≤1048576∧0≤f∧f≤n) (h8:¬ 8<n):c.st.length≤8:=by
 have:=h.ln
 unfold Ns.cntE at this
 split at this<;>omega
end En
end Go.Proofs.YtdbehgbggaaipaaGreat
namespace Go.Proofs.YtdbehgbggaaipaaGreat
open Go.RowKit Go.Deep
section
variable {P:Program} {J:World→Prop} {o:Oper}
end
theorem rulesE_all {q:Fm}:∀ (f i:Nat),rulesE q i f=0→∀ k,i≤k→k<i+f→ruleE q k (q.rz.getD k default)=0
 | 0,i,_,k,a,b=>absurd b (by omega)
 | f+1,i,e,k,a,b=>by
   unfold rulesE at e
   split at e
   ·rename_i e1
    by_cases x:i=k
    ·subst x;exact e1
    exact rulesE_all f (i+1) e k (by omega) (by omega)
   exact absurd e (by assumption)
variable {J:World→Prop}
end Go.Proofs.YtdbehgbggaaipaaGreat
namespace Go.Proofs.YtdbehgbggaaipaaGreat
open Go.RowKit Go.Deep Go.ChangeShapes Go.WideShapes Go.ChangeAt Go.Joins
theorem KH:Tryz.prog.cellsOf 3=1:=by kernel_rfl
theorem Wo:Tryz.prog.cellsOf 24=1:=by kernel_rfl
variable {w:World}{base:Nat}{held:Bool}{v:Value}
set_option maxRecDepth 100000 in
theorem ZaW {H:Type} {enc:TypeId × Value→H} {sp:Nat→Bool} {n:Nat} {x:DataW H × List MemPlace} (h:DataW.trod enc Tryz.prog w base sp held n 3 [v]=some x):∃ c,v = .int .i64 c∧I64 c:=by
 obtain ⟨c,e1,_,e3⟩:=DataW.trod_int Tryz.underlying3 h
 simp at e1
 exact ⟨c,e1,I64.of_wf e3⟩
theorem Zep:Tryz.prog.cellsOf 31=6:=by kernel_rfl
set_option maxRecDepth 100000 in
theorem Ze2 {H:Type} {enc:TypeId × Value→H} {sp:Nat→Bool} {n:Nat} {cs:List Value} {x:DataW H × List MemPlace} (h:DataW.trod enc Tryz.prog w base sp held n 31 cs=some x) :
 ∃ u0 xs0 u1 xs1 c2 u3 xs3 u4 xs4 c5,cs=[u0,u1,.int .i64 c2,u3,u4,.int .i64 c5]∧IsInts 0 w u0 xs0∧IsInts 0 w u1 xs1∧I64 c2∧IsInts 0 w u3 xs3∧IsInts 0 w u4 xs4∧I64 c5:=by
 obtain ⟨ys,m,_,_,hlen,_,hf⟩:=DataW.trod_struct Tryz.underlying31 h
 rw [Zep] at hlen
 match cs,hlen with
 | [v0,v1,v2,v3,v4,v5],_ =>
   have h0:DataW.trod enc Tryz.prog w base sp held m 24 (([v0,v1,v2,v3,v4,v5].drop 0).take (Tryz.prog.cellsOf 24))=ys[0]? := hf 0 _ rfl
   rw [Wo] at h0
   simp only [List.drop_zero,List.take_succ_cons,List.take_zero] at h0
   have h1:DataW.trod enc Tryz.prog w base sp held m 24 (([v0,v1,v2,v3,v4,v5].drop 1).take (Tryz.prog.cellsOf 24))=ys[1]? := hf 1 _ rfl
   rw [Wo] at h1
   simp only [List.drop_succ_cons,List.drop_zero,List.take_succ_cons,List.take_zero] at h1
   have h2:DataW.trod enc Tryz.prog w base sp held m 3 (([v0,v1,v2,v3,v4,v5].drop 2).take (Tryz.prog.cellsOf 3))=ys[2]? := hf 2 _ rfl
   rw [KH] at h2
   simp only [List.drop_succ_cons,List.drop_zero,List.take_succ_cons,List.take_zero] at h2
   have h3:DataW.trod enc Tryz.prog w base sp held m 24 (([v0,v1,v2,v3,v4,v5].drop 3).take (Tryz.prog.cellsOf 24))=ys[3]? := hf 3 _ rfl
   rw [Wo] at h3
   simp only [List.drop_succ_cons,List.drop_zero,List.take_succ_cons,List.take_zero] at h3
   have h4:DataW.trod enc Tryz.prog w base sp held m 24 (([v0,v1,v2,v3,v4,v5].drop 4).take (Tryz.prog.cellsOf 24))=ys[4]? := hf 4 _ rfl
   rw [Wo] at h4
   simp only [List.drop_succ_cons,List.drop_zero,List.take_succ_cons,List.take_zero] at h4
   have h5:DataW.trod enc Tryz.prog w base sp held m 3 (([v0,v1,v2,v3,v4,v5].drop 5).take (Tryz.prog.cellsOf 3))=ys[5]? := hf 5 _ rfl
   rw [KH] at h5
   simp only [List.drop_succ_cons,List.drop_zero,List.take_succ_cons,List.take_zero] at h5
   have hx:∀ i,i<6→∃ y,ys[i]? = some y:=fun i hi=>⟨ys[i]'(by simp at *;omega),List.getElem?_eq_getElem _⟩
   obtain ⟨y0,e0⟩:=hx 0 (by omega)
   rw [e0] at h0
   obtain ⟨xs0,q0⟩:=Z8 Tryz.underlying24 Tryz.underlying3 KH h0
   obtain ⟨y1,e1⟩:=hx 1 (by omega)
   rw [e1] at h1
   obtain ⟨xs1,q1⟩:=Z8 Tryz.underlying24 Tryz.underlying3 KH h1
   obtain ⟨y2,e2⟩:=hx 2 (by omega)
   rw [e2] at h2
   obtain ⟨c2,rfl,q2⟩:=ZaW h2
   obtain ⟨y3,e3⟩:=hx 3 (by omega)
   rw [e3] at h3
   obtain ⟨xs3,q3⟩:=Z8 Tryz.underlying24 Tryz.underlying3 KH h3
   obtain ⟨y4,e4⟩:=hx 4 (by omega)
   rw [e4] at h4
   obtain ⟨xs4,q4⟩:=Z8 Tryz.underlying24 Tryz.underlying3 KH h4
   obtain ⟨y5,e5⟩:=hx 5 (by omega)
   rw [e5] at h5
   obtain ⟨c5,rfl,q5⟩:=ZaW h5
   exact ⟨v0,xs0,v1,xs1,c2,v3,xs3,v4,xs4,c5,rfl,q0,q1,q2,q3,q4,q5⟩
end Go.Proofs.YtdbehgbggaaipaaGreat
namespace Go.Proofs.YtdbehgbggaaipaaGreat
open Go.RowKit Go.Deep
set_option maxHeartbeats 12800000
def wideCf (q:Cf):Bool:=decide (100<q.sh.length)||decide (100<q.st.length)||decide (100<q.se.length)||decide (100<q.fa.length)
variable {w:World}{v:Value}
theorem Wide_any {lo:Nat} {q:Cf} (h:IsCf lo w v q) :
 Calls Tryz.prog 6 #[v] w fun e w'=>e = .returned (.bool (wideCf q))∧Below w.heap.size w w':=by
 obtain ⟨u0,u1,u3,u4,rfl,h0,h1,_,h3,h4,_⟩:=h
 have E:Hid (wideCf q=(decide (100<q.sh.length)||decide (100<q.st.length)||decide (100<q.se.length)||decide (100<q.fa.length))):=(rfl:wideCf q=_)
 have l0:q.sh.length≤9223372036854775807:=by obtain ⟨_,_,_,hh,hm,_⟩:=h0;unfold maxLen at hm;omega
 obtain ⟨a0,c0,rfl⟩:=h0.shape
 have l1:q.st.length≤9223372036854775807:=by obtain ⟨_,_,_,hh,hm,_⟩:=h1;unfold maxLen at hm;omega
 obtain ⟨a1,c1,rfl⟩:=h1.shape
 have l3:q.se.length≤9223372036854775807:=by obtain ⟨_,_,_,hh,hm,_⟩:=h3;unfold maxLen at hm;omega
 obtain ⟨a3,c3,rfl⟩:=h3.shape
 have l4:q.fa.length≤9223372036854775807:=by obtain ⟨_,_,_,hh,hm,_⟩:=h4;unfold maxLen at hm;omega
 obtain ⟨a4,c4,rfl⟩:=h4.shape
 clear h0 h1 h3 h4
 by_cases t0:100<q.sh.length
 ·have i0:(100:Int)<(q.sh.length:Int):=by omega
  go_enter Tryz.func6,Tryz.ntmps6
  go_wp2_with fail
  go_ret
  exact ⟨Zi (by rw [E.out,decide_eq_true t0];simp),Zd _ _⟩
 have i0:¬ (100:Int)<(q.sh.length:Int):=by omega
 by_cases t1:100<q.st.length
 ·have i1:(100:Int)<(q.st.length:Int):=by omega
  go_enter Tryz.func6,Tryz.ntmps6
  go_wp2_with fail
  go_ret
  exact ⟨Zi (by rw [E.out,decide_eq_true t1];simp),Zd _ _⟩
 have i1:¬ (100:Int)<(q.st.length:Int):=by omega
 by_cases t3:100<q.se.length
 ·have i3:(100:Int)<(q.se.length:Int):=by omega
  go_enter Tryz.func6,Tryz.ntmps6
  go_wp2_with fail
  go_ret
  exact ⟨Zi (by rw [E.out,decide_eq_true t3];simp),Zd _ _⟩
 have i3:¬ (100:Int)<(q.se.length:Int):=by omega
 by_cases t4:100<q.fa.length
 ·have i4:(100:Int)<(q.fa.length:Int):=by omega
  go_enter Tryz.func6,Tryz.ntmps6
  go_wp2_with fail
  go_ret
  exact ⟨Zi (by rw [E.out,decide_eq_true t4];simp),Zd _ _⟩
 have i4:¬ (100:Int)<(q.fa.length:Int):=by omega
 go_enter Tryz.func6,Tryz.ntmps6
 go_wp2_with fail
 go_ret
 exact ⟨Zi (by rw [E.out,decide_eq_false t0,decide_eq_false t1,decide_eq_false t3,decide_eq_false t4];simp),Zd _ _⟩
end Go.Proofs.YtdbehgbggaaipaaGreat
