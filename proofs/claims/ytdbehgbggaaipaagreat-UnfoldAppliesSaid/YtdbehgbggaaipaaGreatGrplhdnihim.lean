import Derived.Test.YtdbehgbggaaipaaGreatGrpacgjglim
import Derived.Test.YtdbehgbggaaipaaGreatGrpodlhbjnj
import Derived.Test.YtdbehgbggaaipaaGreatGrpiiicjbhn
import Derived.Test.YtdbehgbggaaipaaGreatGrppnomngln
import Derived.Test.YtdbehgbggaaipaaGreatGrpkeegmnpc
set_option linter.all false
namespace Go.Proofs.YtdbehgbggaaipaaGreat
open Go.RowKit Go.Deep
set_option maxRecDepth 100000
set_option maxHeartbeats 6400000
variable {J:World→Prop}
variable {p:Fm}{n f:Int}{c:Cf}{r i:Nat}
theorem En.nbr (hc:En.CfV p n f c) (hv:valE p=0) (hr:r<p.rz.length) (hk:¬ p.rz[r].kind≤3) (hi:i<c.st.length) :
 (0≤(Rd.shI p.top (Ns.shT p.top (Ns.cntE p n f)) c.sh)∧(Rd.shI p.top (Ns.shT p.top (Ns.cntE p n f)) c.sh)<(((En.shS p.top (Ns.cntE p n f).toNat).length:Nat):Int)∧(En.shS p.top (Ns.cntE p n f).toNat)[((Rd.shI p.top (Ns.shT p.top (Ns.cntE p n f)) c.sh)).toNat]? = some c.sh) ∧
 (Jd.lkF p.top c.sh c.st.length i<(c.st.length:Int)∧Jd.lkS p.top c.sh c.st.length i<(c.st.length:Int)∧En.lkP p.top c.sh c.st.length i<(c.st.length:Int)):=by
 have R:=En.val_in hv (List.getElem_mem hr)
 have h1:¬ p.top=1:=fun e=>hk (R.kt.2 e)
 have ht:=Jd.top_in hv
 have h0:0≤Ns.cntE p n f:=by have:=hc.ln;omega
 exact ⟨En.shI_at hc h1 ht h0,En.lk_ok hc h1 ht hi⟩
variable {m:Nat}
theorem En.isP_nat (h:i<m):En.isP m (i:Int)=true:=by unfold En.isP;rw [decide_eq_true (by omega),decide_eq_true (by omega)];rfl
variable {t kp:Int}
theorem enabled_in (HL:FamLen p) (hc:En.CfV p n f c) (hv:valE p=0) (l8:c.st.length≤8) (hr:r<p.rz.length) (hi:i<c.st.length) {g:Nat→Int} (hg:∀ m,0≤g m∧g m≤3000000):Ctr Tryz.prog J 38 [.el (En.sysP p n t f) 0,.agg (En.cfV (Rd.shI p.top (Ns.shT p.top (Ns.cntE p n f)) c.sh) c),.agg [iv r,iv i,iv kp],.agg (En.msA g)] (bv (En.enR p.top n t f c g p.rz[r] i kp)):=by
 have R:=En.val_in hv (List.getElem_mem hr)
 have hz:=En.val_sizes hv
 have hn:=hc.ln.symm
 have hnN:(Ns.cntE p n f).toNat=c.st.length:=by omega
 have hle:=(HL.rz _ (List.getElem_mem hr)).ex
 have hlf:=(HL.rz _ (List.getElem_mem hr)).fa
 refine Zm Tryz.func38 rfl (pN (show Plain (.el (En.sysP p n t f) 0) from .el (ZN (En.plain_sysP p n t f))) (pN (Zh (En.plain_cfV _ c)) (pN (Zh (pN (.v _) (pN (.v _) (pN (.v _) pZ)))) (pN (Zh (En.plain_msA _)) pZ)))) (n:=94) rfl (by simp) (fun w0 => ?_)
 refine kW 94 [] [(0,.el (En.sysP p n t f) 0),(1,.agg (En.cfV (Rd.shI p.top (Ns.shT p.top (Ns.cntE p n f)) c.sh) c)),(2,.agg [iv r,iv i,iv kp]),(3,.agg (En.msA g))] (jB (oA (ZA (X := .agg (En.cfV (Rd.shI p.top (Ns.shT p.top (Ns.cntE p n f)) c.sh) c)) (.tmp 1) rfl rfl rfl) I0 (oA (ZA (X := .agg [iv r,iv i,iv kp]) (.tmp 2) rfl rfl rfl) I0 (oA (ZA (X := .agg (En.msA g)) (.tmp 3) rfl rfl rfl) I0 (oS bF (jD (Zl ?_)))))))
 refine tD (dW (dS (iv r) (dC (Za2 rfl (dF (by omega))) I0 I0 (dS bF (dW (dS (iv r) (dW (dW (dW (dW (dW (dS (iv p.rz.length) (dC (Zbs rfl (dF (by omega))) I0 I0 (dW (dS bF (dW (dW (dW (dk (Zr (ZaH hn) (En.isP_nat hi)) [.el (En.sysP p n t f) 0,iv i] rfl rfl (dW (dS bF (eD ?_))))))))))))))))))))))
 refine kW 94 [] [(0,.el (En.sysP p n t f) 0),(5,.el (En.cfV (Rd.shI p.top (Ns.shT p.top (Ns.cntE p n f)) c.sh) c) 0),(6,.el ([iv r,iv i,iv kp]) 0),(7,.el (En.msA g) 0),(8,bF),(30,bF)] (jJ (Zl ?_))
 refine tD (dW (dW (dW (dW (dS (slA 18 cRu p.rz) (dW (dS (iv r) (dC (xS (r*18) 35 37 U25) I0 I0 (dS (.el (p.rz.flatMap cRu) (r*18)) (eD ?_))))))))))
 refine kW 94 [] [(0,.el (En.sysP p n t f) 0),(5,.el (En.cfV (Rd.shI p.top (Ns.shT p.top (Ns.cntE p n f)) c.sh) c) 0),(6,.el ([iv r,iv i,iv kp]) 0),(7,.el (En.msA g) 0),(8,bF),(9,.el (p.rz.flatMap cRu) (r*18))] (jC (Zl ?_))
 by_cases hs1:(c.st.getD i 0)=p.rz[r].frm
 by_cases hs2:(En.ptB c p.rz[r] i kp)=true
 refine tD (dW (dS (iv i) (dS (.el (En.cfV (Rd.shI p.top (Ns.shT p.top (Ns.cntE p n f)) c.sh) c) 1) (dC (ZZ (off':=1+i*1) (.tmp 41) (.tmp 40) rfl U67 (by kernel_rfl) (by omega) (by omega) rfl) I0 I0 (dA (lE (iv (c.st.getD i 0)) 42 U3 (En.cfV_st (by omega))) I0 (dW (dW (dW (dL (iv p.rz[r].frm) (fT lenRu p.rz r 2) (dn (dT' hs1) (dS bF (dW (dA (Zk (z:=16) (.tmp 5) rfl U71 rfl (by kernel_rfl) rfl rfl) I0 (dW (dA (Zk (z:=3) (.tmp 6) rfl U35 rfl (by kernel_rfl) rfl rfl) I0 (dk (Zr (Zck hn l8 hr hi) hs2) [.el (En.sysP p n t f) 0,.agg (En.cfV (Rd.shI p.top (Ns.shT p.top (Ns.cntE p n f)) c.sh) c),.el (p.rz.flatMap cRu) (r*18),.agg ([iv r,iv i,iv kp])] rfl rfl (dW (dS bF (eD ?_)))))))))))))))))))
 refine kW 94 [] [(0,.el (En.sysP p n t f) 0),(5,.el (En.cfV (Rd.shI p.top (Ns.shT p.top (Ns.cntE p n f)) c.sh) c) 0),(6,.el ([iv r,iv i,iv kp]) 0),(7,.el (En.msA g) 0),(8,bF),(9,.el (p.rz.flatMap cRu) (r*18)),(56,bF)] (jJ (jM (Za (oW (oW (oW (oL (iv p.rz[r].kind) (fT lenRu p.rz r 1) (jA (Zn (Zl ?_))))))))))
 by_cases hs3:p.rz[r].kind=1
 refine Za (oe (dT hs3) (oS bT (jG (oW (oA (Zk (z:=16) (.tmp 5) rfl U71 rfl (by kernel_rfl) rfl rfl) I0 (oA (Zk (z:=3) (.tmp 6) rfl U35 rfl (by kernel_rfl) rfl rfl) I0 (oA (Zk (z:=3) (.tmp 7) rfl U69 rfl (by kernel_rfl) rfl rfl) I0 (oK (localH_c hn l8 hr hi hg hz.1 hz.2.2.1 R.gl R.gd (Nat.le_trans hle (by decide)) (Nat.le_trans hlf (by decide))) [.el (En.sysP p n t f) 0,.agg (En.cfV (Rd.shI p.top (Ns.shT p.top (Ns.cntE p n f)) c.sh) c),.agg ([iv r,iv i,iv kp]),.agg (En.msA g)] rfl rfl (oS (bv (En.loB n t f c p.rz[r] g i)) (jE (Zo (Zd ?_))))))))))))
 refine Zg Tryz.results38 (.tmp rfl) ?_
 exact cB ((by unfold En.enR;rw [if_pos hs3];simp only [dT hs1,hs2,decide_true,decide_false,Bool.and_true,Bool.true_and,Bool.false_and,Bool.and_false,Bool.true_or,Bool.false_or,Bool.or_true,Bool.or_false,Bool.not_true,Bool.not_false]))
 refine Za (oe (dF hs3) (oS bF (jI (Zl ?_))))
 by_cases hs4:p.rz[r].kind=4
 refine Za (oe (dT hs4) (oS bT (jG (oW (oA (Zk (z:=16) (.tmp 5) rfl U71 rfl (by kernel_rfl) rfl rfl) I0 (oA (Zk (z:=3) (.tmp 6) rfl U35 rfl (by kernel_rfl) rfl rfl) I0 (oK (neighH_c hnN l8 hr hi (kp:=kp) (HL.rz _ (List.getElem_mem hr)) (En.nbr hc hv hr (by have:=hs4;omega) hi).1.1 (En.nbr hc hv hr (by have:=hs4;omega) hi).1.2.1 (En.nbr hc hv hr (by have:=hs4;omega) hi).1.2.2 (En.nbr hc hv hr (by have:=hs4;omega) hi).2) [.el (En.sysP p n t f) 0,.agg (En.cfV (Rd.shI p.top (Ns.shT p.top (Ns.cntE p n f)) c.sh) c),.agg ([iv r,iv i,iv kp])] rfl rfl (oS (bv (En.nbB p.top c p.rz[r] i)) (jE (Zo (Zd ?_)))))))))))
 refine Zg Tryz.results38 (.tmp rfl) ?_
 exact cB ((by unfold En.enR;rw [if_neg hs3,if_pos hs4];simp only [dT hs1,hs2,decide_true,decide_false,Bool.and_true,Bool.true_and,Bool.false_and,Bool.and_false,Bool.true_or,Bool.false_or,Bool.or_true,Bool.or_false,Bool.not_true,Bool.not_false]))
 refine Za (oe (dF hs4) (oS bF (jI (Zl ?_))))
 by_cases hs5:p.rz[r].kind=5
 refine Za (oe (dT hs5) (oS bT (jG (oW (oA (Zk (z:=16) (.tmp 5) rfl U71 rfl (by kernel_rfl) rfl rfl) I0 (oA (Zk (z:=3) (.tmp 6) rfl U35 rfl (by kernel_rfl) rfl rfl) I0 (oK (passH_c hnN l8 hr hi (HL.rz _ (List.getElem_mem hr)) (En.nbr hc hv hr (by have:=hs5;omega) hi).1.1 (En.nbr hc hv hr (by have:=hs5;omega) hi).1.2.1 (En.nbr hc hv hr (by have:=hs5;omega) hi).1.2.2 (En.nbr hc hv hr (by have:=hs5;omega) hi).2) [.el (En.sysP p n t f) 0,.agg (En.cfV (Rd.shI p.top (Ns.shT p.top (Ns.cntE p n f)) c.sh) c),.agg ([iv r,iv i,iv kp])] rfl rfl (oS (bv (En.psB p.top c p.rz[r] i kp)) (jE (Zo (Zd ?_)))))))))))
 refine Zg Tryz.results38 (.tmp rfl) ?_
 exact cB ((by unfold En.enR;rw [if_neg hs3,if_neg hs4,if_pos hs5];simp only [dT hs1,hs2,decide_true,decide_false,Bool.and_true,Bool.true_and,Bool.false_and,Bool.and_false,Bool.true_or,Bool.false_or,Bool.or_true,Bool.or_false,Bool.not_true,Bool.not_false]))
 refine Za (oe (dF hs5) (oS bF (jI (Zq (Zv (jC ?_))))))
 by_cases hs6:p.rz[r].rd<0
 refine tD (dW (dW (dW (dL (iv p.rz[r].rd) (fT lenRu p.rz r 10) (dl (dT hs6) (dS bT (dK (dK (dK (dK (dK (dK (dK (dW (dS bT (eD ?_))))))))))))))))
 refine Ze (ZV ?_)
 refine Zg Tryz.results38 (.tmp rfl) ?_
 exact cB ((by unfold En.enR;rw [if_neg hs3,if_neg hs4,if_neg hs5];simp only [dT hs1,hs2,dT hs6,decide_true,decide_false,Bool.and_true,Bool.true_and,Bool.false_and,Bool.and_false,Bool.true_or,Bool.false_or,Bool.or_true,Bool.or_false,Bool.not_true,Bool.not_false]))
 refine tD (dW (dW (dW (dL (iv p.rz[r].rd) (fT lenRu p.rz r 10) (dl (dF hs6) (dS bF (dW (dS (iv c.val) (dW (dW (dW (dL (iv p.rz[r].rd) (fT lenRu p.rz r 10) (dC (ZF rfl rfl) I0 I0 (dW (dS (bv (decide (c.val=p.rz[r].rd))) (eD ?_))))))))))))))))
 refine Ze (ZV ?_)
 refine Zg Tryz.results38 (.tmp rfl) ?_
 exact cB ((by unfold En.enR;rw [if_neg hs3,if_neg hs4,if_neg hs5];simp only [dT hs1,hs2,dF hs6,decide_true,decide_false,Bool.and_true,Bool.true_and,Bool.false_and,Bool.and_false,Bool.true_or,Bool.false_or,Bool.or_true,Bool.or_false,Bool.not_true,Bool.not_false]))
 have hs2f:(En.ptB c p.rz[r] i kp)=false:=by simpa using hs2
 refine tD (dW (dS (iv i) (dS (.el (En.cfV (Rd.shI p.top (Ns.shT p.top (Ns.cntE p n f)) c.sh) c) 1) (dC (ZZ (off':=1+i*1) (.tmp 41) (.tmp 40) rfl U67 (by kernel_rfl) (by omega) (by omega) rfl) I0 I0 (dA (lE (iv (c.st.getD i 0)) 42 U3 (En.cfV_st (by omega))) I0 (dW (dW (dW (dL (iv p.rz[r].frm) (fT lenRu p.rz r 2) (dn (dT' hs1) (dS bF (dW (dA (Zk (z:=16) (.tmp 5) rfl U71 rfl (by kernel_rfl) rfl rfl) I0 (dW (dA (Zk (z:=3) (.tmp 6) rfl U35 rfl (by kernel_rfl) rfl rfl) I0 (dk (Zr (Zck hn l8 hr hi) hs2f) [.el (En.sysP p n t f) 0,.agg (En.cfV (Rd.shI p.top (Ns.shT p.top (Ns.cntE p n f)) c.sh) c),.el (p.rz.flatMap cRu) (r*18),.agg ([iv r,iv i,iv kp])] rfl rfl (dW (dS bT (eD ?_)))))))))))))))))))
 refine kW 94 [] [(0,.el (En.sysP p n t f) 0),(5,.el (En.cfV (Rd.shI p.top (Ns.shT p.top (Ns.cntE p n f)) c.sh) c) 0),(6,.el ([iv r,iv i,iv kp]) 0),(7,.el (En.msA g) 0),(8,bF),(9,.el (p.rz.flatMap cRu) (r*18)),(56,bT)] (Ze (jK (oS bF (jE (Zd ?_)))))
 refine Zg Tryz.results38 (.tmp rfl) ?_
 exact cB ((by unfold En.enR;simp only [dT hs1,hs2f,decide_true,decide_false,Bool.and_true,Bool.true_and,Bool.false_and,Bool.and_false,Bool.true_or,Bool.false_or,Bool.or_true,Bool.or_false,Bool.not_true,Bool.not_false]))
 refine tD (dW (dS (iv i) (dS (.el (En.cfV (Rd.shI p.top (Ns.shT p.top (Ns.cntE p n f)) c.sh) c) 1) (dC (ZZ (off':=1+i*1) (.tmp 41) (.tmp 40) rfl U67 (by kernel_rfl) (by omega) (by omega) rfl) I0 I0 (dA (lE (iv (c.st.getD i 0)) 42 U3 (En.cfV_st (by omega))) I0 (dW (dW (dW (dL (iv p.rz[r].frm) (fT lenRu p.rz r 2) (dn (dF' hs1) (dS bT (dK (dK (dK (dK (dK (dK (dS bT (eD ?_)))))))))))))))))))
 refine kW 94 [] [(0,.el (En.sysP p n t f) 0),(5,.el (En.cfV (Rd.shI p.top (Ns.shT p.top (Ns.cntE p n f)) c.sh) c) 0),(6,.el ([iv r,iv i,iv kp]) 0),(7,.el (En.msA g) 0),(8,bF),(9,.el (p.rz.flatMap cRu) (r*18)),(56,bT)] (Ze (jK (oS bF (jE (Zd ?_)))))
 refine Zg Tryz.results38 (.tmp rfl) ?_
 exact cB ((by unfold En.enR;simp only [dF hs1,decide_true,decide_false,Bool.and_true,Bool.true_and,Bool.false_and,Bool.and_false,Bool.true_or,Bool.false_or,Bool.or_true,Bool.or_false,Bool.not_true,Bool.not_false]))
variable {x y:Int}
theorem Zcs (HL:FamLen p) (hc:En.CfV p n f c) (hv:valE p=0) (l8:c.st.length≤8) (hno:(0≤x∧x<(p.rz.length:Int))→En.isP c.st.length y=false) {g:Nat→Int}:Ctr Tryz.prog J 38 [.el (En.sysP p n t f) 0,.agg (En.cfV (Rd.shI p.top (Ns.shT p.top (Ns.cntE p n f)) c.sh) c),.agg [iv x,iv y,iv kp],.agg (En.msA g)] bF:=by
 have hn:=hc.ln.symm
 have hz:=En.val_sizes hv
 refine Zm Tryz.func38 rfl (pN (show Plain (.el (En.sysP p n t f) 0) from .el (ZN (En.plain_sysP p n t f))) (pN (Zh (En.plain_cfV _ c)) (pN (Zh (pN (.v _) (pN (.v _) (pN (.v _) pZ)))) (pN (Zh (En.plain_msA _)) pZ)))) (n:=94) rfl (by simp) (fun w0 => ?_)
 refine kW 94 [] [(0,.el (En.sysP p n t f) 0),(1,.agg (En.cfV (Rd.shI p.top (Ns.shT p.top (Ns.cntE p n f)) c.sh) c)),(2,.agg [iv x,iv y,iv kp]),(3,.agg (En.msA g))] (jB (oA (ZA (X := .agg (En.cfV (Rd.shI p.top (Ns.shT p.top (Ns.cntE p n f)) c.sh) c)) (.tmp 1) rfl rfl rfl) I0 (oA (ZA (X := .agg [iv x,iv y,iv kp]) (.tmp 2) rfl rfl rfl) I0 (oA (ZA (X := .agg (En.msA g)) (.tmp 3) rfl rfl rfl) I0 (oS bF (jD (Zl ?_)))))))
 by_cases hs1:x<0
 refine tD (dW (dW (dl (dT hs1) (dS bT (dK (dK (dK (dK (dK (dK (dK (dK (dK (dW (dS bT (dK (dK (dK (dK (dK (dS bT (eD ?_))))))))))))))))))))))
 refine kW 94 [] [(0,.el (En.sysP p n t f) 0),(5,.el (En.cfV (Rd.shI p.top (Ns.shT p.top (Ns.cntE p n f)) c.sh) c) 0),(6,.el ([iv x,iv y,iv kp]) 0),(7,.el (En.msA g) 0),(8,bF),(30,bT)] (Ze (jK (oS bF (jE (Zd ?_)))))
 refine Zg Tryz.results38 (.tmp rfl) ?_
 exact rfl
 by_cases hs2:(p.rz.length:Int)≤x
 refine tD (dW (dW (dl (dF hs1) (dS bF (dW (dW (dW (dW (dW (dW (dW (dW (dh (dT hs2) (dW (dS bT (dK (dK (dK (dK (dK (dS bT (eD ?_))))))))))))))))))))))
 refine kW 94 [] [(0,.el (En.sysP p n t f) 0),(5,.el (En.cfV (Rd.shI p.top (Ns.shT p.top (Ns.cntE p n f)) c.sh) c) 0),(6,.el ([iv x,iv y,iv kp]) 0),(7,.el (En.msA g) 0),(8,bF),(30,bT)] (Ze (jK (oS bF (jE (Zd ?_)))))
 refine Zg Tryz.results38 (.tmp rfl) ?_
 exact rfl
 refine tD (dW (dW (dl (dF hs1) (dS bF (dW (dW (dW (dW (dW (dW (dW (dW (dh (dF hs2) (dW (dS bF (dW (dW (dW (dk (Zr (ZaH hn) (hno (by have:=hs1;have:=hs2;omega))) [.el (En.sysP p n t f) 0,iv y] rfl rfl (dW (dS bT (eD ?_))))))))))))))))))))))
 refine kW 94 [] [(0,.el (En.sysP p n t f) 0),(5,.el (En.cfV (Rd.shI p.top (Ns.shT p.top (Ns.cntE p n f)) c.sh) c) 0),(6,.el ([iv x,iv y,iv kp]) 0),(7,.el (En.msA g) 0),(8,bF),(30,bT)] (Ze (jK (oS bF (jE (Zd ?_)))))
 refine Zg Tryz.results38 (.tmp rfl) ?_
 exact rfl
theorem En.isP_no (h:¬ (0≤x∧x<(m:Int))):En.isP m x=false:=by
 unfold En.isP
 rw [Bool.and_eq_false_iff,decide_eq_false_iff_not,decide_eq_false_iff_not]
 omega
theorem ZbU (HL:FamLen p) (hc:En.CfV p n f c) (hv:valE p=0) (l8:c.st.length≤8) {g:Nat→Int} (hg:∀ m,0≤g m∧g m≤3000000):Ctr Tryz.prog J 38 [.el (En.sysP p n t f) 0,.agg (En.cfV (Rd.shI p.top (Ns.shT p.top (Ns.cntE p n f)) c.sh) c),.agg [iv x,iv y,iv kp],.agg (En.msA g)] (bv (En.enB p n t f c g x y kp)):=by
 by_cases h1:0≤x∧x<(p.rz.length:Int)
 ·by_cases h2:0≤y∧y<(c.st.length:Int)
  ·obtain ⟨r,rfl⟩:=Int.eq_ofNat_of_zero_le h1.1
   obtain ⟨i,rfl⟩:=Int.eq_ofNat_of_zero_le h2.1
   have hr:r<p.rz.length:=by omega
   have hi:i<c.st.length:=by omega
   have e:En.enB p n t f c g (r:Int) (i:Int) kp=En.enR p.top n t f c g p.rz[r] i kp:=by
    unfold En.enB
    rw [En.isP_nat hr,En.isP_nat hi,Int.toNat_natCast,Int.toNat_natCast,List.getD_eq_getElem?_getD,List.getElem?_eq_getElem hr]
    rfl
   rw [e]
   exact enabled_in HL hc hv l8 hr hi hg
  have e:En.enB p n t f c g x y kp=false:=by
   unfold En.enB
   rw [En.isP_no h2];simp
  rw [e]
  exact Zcs HL hc hv l8 fun _=>En.isP_no h2
 have e:En.enB p n t f c g x y kp=false:=by
  unfold En.enB
  rw [En.isP_no h1];rfl
 rw [e]
 exact Zcs HL hc hv l8 fun h=>absurd h h1
namespace En
section
variable {p:Fm} {top n t f:Int} {c:Cf} {g:Nat→Int} {r:Ru} {i:Nat} {k:Int}
theorem en_st (hi:i<c.st.length) (h:¬ c.st[i]=r.frm):enR top n t f c g r i k=false:=by unfold enR;rw [Ct.getD_at hi,decide_eq_false h];rfl
theorem en_pt (h:ptB c r i k=false):enR top n t f c g r i k=false:=by unfold enR;rw [h];simp
theorem rd_val (R:RuV p r):(decide (r.rd<0)||decide (c.val=r.rd)) = !rdN c r:=by
 unfold rdN
 by_cases h:0≤r.rd
 ·rw [decide_eq_true h,decide_eq_false (by omega:¬ r.rd<0)];simp
 rw [decide_eq_false h,decide_eq_true (by omega:r.rd<0)];rfl
theorem rdN_t (R:RuV p r) (h:¬ r.rd = -1) (h2:¬ c.val=r.rd):rdN c r=true:=by
 have:=R.rd
 unfold rdN;rw [decide_eq_true (by omega),decide_eq_false h2];rfl
theorem rdN_f (h:r.rd = -1∨c.val=r.rd):rdN c r=false:=by
 unfold rdN
 rcases h with h | h
 ·rw [decide_eq_false (by omega)];rfl
 rw [decide_eq_true h];simp
theorem en_1 (hi:i<c.st.length) (h:c.st[i]=r.frm) (hp:ptB c r i k=true) (k1:r.kind=1):enR top n t f c g r i k=loB n t f c r g i:=by unfold enR;rw [Ct.getD_at hi,decide_eq_true h,hp,if_pos k1];rfl
theorem en_23 (R:RuV p r) (hi:i<c.st.length) (h:c.st[i]=r.frm) (hp:ptB c r i k=true) (k1:r.kind=2∨r.kind=3) (hr:rdN c r=false):enR top n t f c g r i k=true:=by
 unfold enR;rw [Ct.getD_at hi,decide_eq_true h,hp,if_neg (by omega),if_neg (by omega),if_neg (by omega),rd_val R,hr];rfl
theorem en_4 (hi:i<c.st.length) (h:c.st[i]=r.frm) (hp:ptB c r i k=true) (k4:r.kind=4):enR top n t f c g r i k=nbB top c r i:=by unfold enR;rw [Ct.getD_at hi,decide_eq_true h,hp,if_neg (by omega),if_pos k4];rfl
theorem en_5 (hi:i<c.st.length) (h:c.st[i]=r.frm) (hp:ptB c r i k=true) (k5:r.kind=5):enR top n t f c g r i k=psB top c r i k:=by unfold enR;rw [Ct.getD_at hi,decide_eq_true h,hp,if_neg (by omega),if_neg (by omega),if_pos k5];rfl
theorem en_a (R:RuV p r) (hi:i<c.st.length) (h:(!decide (c.st[i]=r.frm)||rdN c r)=true):enR top n t f c g r i k=false:=by
 by_cases h1:c.st[i]=r.frm
 ·rw [decide_eq_true h1] at h
  have h2:rdN c r=true:=h
  have hk:=R.kd
  have:=R.em
  have h3:0≤r.rd:=by
   unfold rdN at h2
   rw [Bool.and_eq_true,decide_eq_true_iff] at h2
   exact h2.1
  unfold enR
  by_cases k1:r.kind=1
  ·rw [if_pos k1,lo_rd h2];simp
  rw [if_neg k1,if_neg (fun e=>by have:=(this k1 (by omega) (by omega)).1;omega),if_neg (fun e=>by have:=(this k1 (by omega) (by omega)).1;omega),rd_val R,h2];simp
 exact en_st hi h1
theorem en_b (hi:i<c.st.length) (h:(!decide (c.st[i]=r.frm)||rdN c r)=false):c.st[i]=r.frm∧rdN c r=false:=by
 rw [Bool.or_eq_false_iff,Bool.not_eq_false',decide_eq_true_iff] at h
 exact h
theorem pt_y (h:r.kind=2∨r.kind=5) (h1:0≤k∧k.toNat<c.st.length) (h2:¬ k=(i:Int)) (h3:c.st[k.toNat]'h1.2=r.pf):ptB c r i k=true:=by
 unfold ptB isP;rw [if_pos h,Ct.getD_at h1.2,decide_eq_true h3,decide_eq_false h2,decide_eq_true h1.1,decide_eq_true (by omega)];rfl
theorem pt_n (h:r.kind=2∨r.kind=5) (h1:¬ (0≤k∧k.toNat<c.st.length)):ptB c r i k=false:=by
 unfold ptB;rw [if_pos h,isP_no (by omega)];rfl
theorem pt_i (h:r.kind=2∨r.kind=5) (h1:k=(i:Int)):ptB c r i k=false:=by
 unfold ptB;rw [if_pos h,decide_eq_true h1];simp
theorem pt_p (h:r.kind=2∨r.kind=5) (h1:0≤k∧k.toNat<c.st.length) (h3:¬ c.st[k.toNat]'h1.2=r.pf):ptB c r i k=false:=by
 unfold ptB;rw [if_pos h,Ct.getD_at h1.2,decide_eq_false h3];simp
theorem pt_o (h:¬ (r.kind=2∨r.kind=5)) (h1:¬ k = -1):ptB c r i k=false:=by unfold ptB;rw [if_neg h,decide_eq_false h1]
theorem pt_1 (h:¬ (r.kind=2∨r.kind=5)) (h1:k = -1):ptB c r i k=true:=by unfold ptB;rw [if_neg h,decide_eq_true h1]
theorem inW_y (h:Rd.inW 0 ((m:Int)-1) x=true):0≤x∧x.toNat<m:=by
 unfold Rd.inW at h
 simp only [Bool.and_eq_true,decide_eq_true_eq] at h
 omega
theorem inW_n (h:Rd.inW 0 ((m:Int)-1) x=false):¬ (0≤x∧x.toNat<m):=by
 unfold Rd.inW at h
 simp only [Bool.and_eq_false_iff,decide_eq_false_iff_not] at h
 omega
end
end En
theorem En.bothC (hc:En.CfV p n f c) (hi:i<c.st.length) (h4:p.top=4):(0≤Jd.lkS p.top c.sh c.st.length i↔¬ Jd.lkF p.top c.sh c.st.length i = -1):=by
 have hs:=En.sh_tree hc h4
 unfold isShp at hs
 simp only [Bool.and_eq_true,decide_eq_true_eq] at hs
 have hl:c.sh.length=c.st.length:=by omega
 rw [h4,← hl]
 exact En.both hs.2 (by omega)
theorem nbClqP_c (HC:Rd.CgOk c) (hc:En.CfV p n f c) (hv:valE p=0) (hi:i<c.st.length) (h1:p.top=1):Ctr Tryz.prog J 43 [iv p.top,Zb c.sh,iv (c.st.length:Int),iv (i:Int)] (.tup [iv (-1),iv (-1),iv (-1)]):=by
 have:=nbP_c (J:=J) HC hc hv hi
 unfold En.nF En.nS En.nP at this
 rw [if_pos h1,if_pos h1,if_pos h1] at this
 exact this
theorem nbNo_c (HC:Rd.CgOk c) (hc:En.CfV p n f c) (hv:valE p=0) (hi:i<c.st.length) (h1:¬ p.top=1):Ctr Tryz.prog J 43 [iv p.top,Zb c.sh,iv (c.st.length:Int),iv (i:Int)] (.tup [iv (Jd.lkF p.top c.sh c.st.length i),iv (Jd.lkS p.top c.sh c.st.length i),iv (En.lkP p.top c.sh c.st.length i)]):=by
 have:=nbP_c (J:=J) HC hc hv hi
 unfold En.nF En.nS En.nP at this
 rw [if_neg h1,if_neg h1,if_neg h1] at this
 exact this
abbrev XEr4_h1 (x0:Fm) (x1:Int) (x2:Int) (x3:Int) (x4:Cf) (x5:Nat) (x6:Nat) (x7:Int) (x8:Bool):List (Nat × AV):=[(0,.agg (cFm x0)),(1,.agg (cSz x1 x2 x3)),(2,.agg (Rd.cCg x4)),(3,.agg [iv x5,iv x6,iv x7]),(4,bv x8)]
abbrev Y6 (x0:Fm) (x1:Int) (x2:Int) (x3:Int) (x4:Cf) (x5:Ru):List (Nat × ABlk):=[(1,.box 27 (cFm x0)),(2,.box 29 (cSz x1 x2 x3)),(3,.box 31 (Rd.cCg x4)),(5,.box 57 (cRu x5))]
abbrev XEr4_h3 (x0:Bool) (x1:Nat) (x2:Int):List (Nat × AV):=[(4,bv x0),(5,bx 1),(6,bx 2),(7,bx 3),(10,bF),(11,bx 5),(12,iv x1),(13,iv x2)]
abbrev XEr4_h4 (x0:Bool) (x1:Nat) (x2:Int):List (Nat × AV):=[(4,bv x0),(5,bx 1),(6,bx 2),(7,bx 3),(10,bF),(11,bx 5),(12,iv x1),(13,iv x2),(64,bT)]
abbrev XEr4_h5 (x0:Bool) (x1:Nat) (x2:Int):List (Nat × AV):=[(4,bv x0),(5,bx 1),(6,bx 2),(7,bx 3),(10,bF),(11,bx 5),(12,iv x1),(13,iv x2),(64,bF)]
variable {fo:Bool}
theorem ZdK (HL:FamLen p) (HC:Rd.CgOk c) (hc:En.CfV p n f c) (hv:valE p=0) (hf:0≤f∧f≤1048576) (hr:r<p.rz.length) (hi:i<c.st.length) (h1:p.top=1):Ctr Tryz.prog J 26 [.agg (cFm p),.agg (cSz n t f),.agg (Rd.cCg c),.agg [iv r,iv i,iv kp],bv fo] (bv (En.enR p.top n t f c (En.hdG p f c fo) p.rz[r] i kp)):=by
 have R:=En.val_in hv (List.getElem_mem hr)
 have hz:=En.val_sizes hv
 have hlst:=HC.lst
 have hkd:=R.kd
 have hkt:=R.kt
 have htop:=Jd.top_in hv
 refine Zm Tryz.func26 rfl (pN (Zh (ZQ p)) (pN (Zh (Z0 n t f)) (pN (Zh (Rd.plain_cg c)) (pN (Zh (pN (.v _) (pN (.v _) (pN (.v _) pZ)))) (pN (.v _) pZ))))) (n:=199) rfl (by simp) (fun w0 => ?_)
 refine kW 199 [] (XEr4_h1 p n t f c r i kp fo) (jB (oX 1 (.agg (cFm p)) (oX 2 (.agg (cSz n t f)) (oX 3 (.agg (Rd.cCg c)) (oX 4 (.agg [iv r,iv i,iv kp]) (oS bF (jD (jB (oW (oW (oW (oF (iv p.rz.length) (oU ((p.rz.length:Int)-1) (oK (Zr Ku (Jd.in_w hr)) [iv r,iv 0,iv ((p.rz.length:Int)-1)] rfl rfl (oF bF (oW (oW (oW (oF (iv c.st.length) ?_)))))))))))))))))))
 refine oU ((c.st.length:Int)-1) (oK (Zr Ku (Jd.in_w hi)) [iv i,iv 0,iv ((c.st.length:Int)-1)] rfl rfl (oW (oS bF (jF (Zl ?_)))))
 refine tD (dW (dS (slA 18 cRu p.rz) (dW (dS (iv r) (dC (xS (r*18) 36 38 U25) I0 I0 (dA (Zk (z:=18) (.tmp 39) rfl U57 rfl (by kernel_rfl) (Yu lenRu p.rz r (by omega)) rfl) I0 (dW (dW (dW (dW (dz 5 Z57 (dY (dS (iv i) (dS (iv kp) (eD ?_)))))))))))))))
 refine kW 199 (Y6 p n t f c p.rz[r]) (XEr4_h3 fo i kp) (jC (Zl ?_))
 refine Ym (True) (ofL [(1,.box 27 (cFm p)),(2,.box 29 (cSz n t f)),(3,.box 31 (Rd.cCg c)),(5,.box 57 (cRu p.rz[r]))]) (ofT 199 [(4,bv fo),(5,bx 1),(6,bx 2),(7,bx 3),(10,bF),(11,bx 5),(12,iv i),(13,iv kp),(64,bv (!decide (c.st[i]=p.rz[r].frm)||En.rdN c p.rz[r]))]) ?_ (fun _ => ?_)
 by_cases hs1:c.st[i]=p.rz[r].frm
 by_cases hs2:p.rz[r].rd=(-1)
 refine tD (dW (dS (Zb c.st) (dS (iv i) (dC (xS (i*1) 46 47 U24) I0 I0 (dL (iv c.st[i]) (Zw c.st (by omega)) (dW (dW (dn (dT' hs1) (dS bF (dW (dW (dn (dT' hs2) (dS bF (dK (dK (dK (dK (dK (dW (dS bF (eD ?_)))))))))))))))))))))
 refine kW 199 [(1,.box 27 (cFm p)),(2,.box 29 (cSz n t f)),(3,.box 31 (Rd.cCg c)),(5,.box 57 (cRu p.rz[r]))] [(4,bv fo),(5,bx 1),(6,bx 2),(7,bx 3),(10,bF),(11,bx 5),(12,iv i),(13,iv kp),(64,bF)] ?_
 rw [show (!decide (c.st[i]=p.rz[r].frm)||En.rdN c p.rz[r])=false from by rw [decide_eq_true hs1,En.rdN_f (.inl hs2)];rfl]
 exact tM T0
 by_cases hs3:c.val=p.rz[r].rd
 refine tD (dW (dS (Zb c.st) (dS (iv i) (dC (xS (i*1) 46 47 U24) I0 I0 (dL (iv c.st[i]) (Zw c.st (by omega)) (dW (dW (dn (dT' hs1) (dS bF (dW (dW (dn (dF' hs2) (dS bT (dW (dW (dW (dW (dn (dT' hs3) (dW (dS bF (eD ?_)))))))))))))))))))))
 refine kW 199 [(1,.box 27 (cFm p)),(2,.box 29 (cSz n t f)),(3,.box 31 (Rd.cCg c)),(5,.box 57 (cRu p.rz[r]))] [(4,bv fo),(5,bx 1),(6,bx 2),(7,bx 3),(10,bF),(11,bx 5),(12,iv i),(13,iv kp),(64,bF)] ?_
 rw [show (!decide (c.st[i]=p.rz[r].frm)||En.rdN c p.rz[r])=false from by rw [decide_eq_true hs1,En.rdN_f (.inr hs3)];rfl]
 exact tM T0
 refine tD (dW (dS (Zb c.st) (dS (iv i) (dC (xS (i*1) 46 47 U24) I0 I0 (dL (iv c.st[i]) (Zw c.st (by omega)) (dW (dW (dn (dT' hs1) (dS bF (dW (dW (dn (dF' hs2) (dS bT (dW (dW (dW (dW (dn (dF' hs3) (dW (dS bT (eD ?_)))))))))))))))))))))
 refine kW 199 [(1,.box 27 (cFm p)),(2,.box 29 (cSz n t f)),(3,.box 31 (Rd.cCg c)),(5,.box 57 (cRu p.rz[r]))] [(4,bv fo),(5,bx 1),(6,bx 2),(7,bx 3),(10,bF),(11,bx 5),(12,iv i),(13,iv kp),(64,bT)] ?_
 rw [show (!decide (c.st[i]=p.rz[r].frm)||En.rdN c p.rz[r])=true from by rw [decide_eq_true hs1,En.rdN_t R hs2 hs3];rfl]
 exact tM T0
 refine tD (dW (dS (Zb c.st) (dS (iv i) (dC (xS (i*1) 46 47 U24) I0 I0 (dL (iv c.st[i]) (Zw c.st (by omega)) (dW (dW (dn (dF' hs1) (dS bT (dK (dK (dK (dK (dK (dK (dK (dK (dK (dK (dS bT (eD ?_)))))))))))))))))))))
 refine kW 199 [(1,.box 27 (cFm p)),(2,.box 29 (cSz n t f)),(3,.box 31 (Rd.cCg c)),(5,.box 57 (cRu p.rz[r]))] [(4,bv fo),(5,bx 1),(6,bx 2),(7,bx 3),(10,bF),(11,bx 5),(12,iv i),(13,iv kp),(64,bT)] ?_
 rw [show (!decide (c.st[i]=p.rz[r].frm)||En.rdN c p.rz[r])=true from by rw [decide_eq_false hs1];rfl]
 exact tM T0
 refine Ze ?_
 by_cases hs4:(!decide (c.st[i]=p.rz[r].frm)||En.rdN c p.rz[r])=true
 rw [hs4]
 refine kW 199 (Y6 p n t f c p.rz[r]) (XEr4_h4 fo i kp) (jK (oS bF (jE (Zd ?_))))
 refine Zg Tryz.results26 (.tmp rfl) ?_
 exact cB ((En.en_a R hi hs4).symm)
 have hs4f:(!decide (c.st[i]=p.rz[r].frm)||En.rdN c p.rz[r])=false:=by simpa using hs4
 rw [hs4f]
 refine kW 199 (Y6 p n t f c p.rz[r]) (XEr4_h5 fo i kp) (jL (jB (oW (oW (oW (oW (oW (oW (oW (oW (oK (nbClqP_c HC hc hv hi h1) [iv p.top,Zb c.sh,iv c.st.length,iv i] rfl rfl (oS (.tup [iv (-1),iv (-1),iv (-1)]) (oW (oW (oW (oS (iv (-1)) (oS (iv (-1)) (oS (iv (-1)) (kN 199 (Y6 p n t f c p.rz[r]) [(4,bv fo),(5,bx 1),(6,bx 2),(7,bx 3),(10,bF),(11,bx 5),(12,iv i),(13,iv kp),(14,iv (-1)),(15,iv (-1)),(16,iv (-1))] (Ze ?_))))))))))))))))))))
 refine jM ?_
 refine Ym (True) (ofL [(1,.box 27 (cFm p)),(2,.box 29 (cSz n t f)),(3,.box 31 (Rd.cCg c)),(5,.box 57 (cRu p.rz[r]))]) (ofT 199 [(4,bv fo),(5,bx 1),(6,bx 2),(7,bx 3),(10,bF),(11,bx 5),(12,iv i),(13,iv kp),(14,iv (-1)),(15,iv (-1)),(16,iv (-1)),(85,bv (decide (p.rz[r].kind=2)||decide (p.rz[r].kind=5)))]) ?_ (fun _ => ?_)
 by_cases hs5:p.rz[r].kind=2
 refine Za (oW (oW (oe (dT hs5) (oS bT (qK (qK (qK (oS bT (kN 199 [(1,.box 27 (cFm p)),(2,.box 29 (cSz n t f)),(3,.box 31 (Rd.cCg c)),(5,.box 57 (cRu p.rz[r]))] [(4,bv fo),(5,bx 1),(6,bx 2),(7,bx 3),(10,bF),(11,bx 5),(12,iv i),(13,iv kp),(14,iv (-1)),(15,iv (-1)),(16,iv (-1)),(85,bT)] ?_)))))))))
 rw [show (decide (p.rz[r].kind=2)||decide (p.rz[r].kind=5))=true from (by simp only [Bool.or_eq_true,decide_eq_true_eq];omega)]
 exact tM T0
 refine Za (oW (oW (oe (dF hs5) (oS bF (oF (iv p.rz[r].kind) (gC (ZF rfl (dF (by omega))) I0 I0 (oS bF (kN 199 [(1,.box 27 (cFm p)),(2,.box 29 (cSz n t f)),(3,.box 31 (Rd.cCg c)),(5,.box 57 (cRu p.rz[r]))] [(4,bv fo),(5,bx 1),(6,bx 2),(7,bx 3),(10,bF),(11,bx 5),(12,iv i),(13,iv kp),(14,iv (-1)),(15,iv (-1)),(16,iv (-1)),(85,bF)] ?_))))))))
 rw [show (decide (p.rz[r].kind=2)||decide (p.rz[r].kind=5))=false from (by simp only [Bool.or_eq_false_iff,decide_eq_false_iff_not];omega)]
 exact tM T0
 refine Ze ?_
 by_cases hs6:(decide (p.rz[r].kind=2)||decide (p.rz[r].kind=5))=true
 have hty:=En.or_t hs6
 rw [hs6]
 refine kW 199 (Y6 p n t f c p.rz[r]) [(4,bv fo),(5,bx 1),(6,bx 2),(7,bx 3),(10,bF),(11,bx 5),(12,iv i),(13,iv kp),(14,iv (-1)),(15,iv (-1)),(16,iv (-1)),(85,bT)] (Ya rfl (jM ?_))
 refine Ym (True) (ofL [(1,.box 27 (cFm p)),(2,.box 29 (cSz n t f)),(3,.box 31 (Rd.cCg c)),(5,.box 57 (cRu p.rz[r]))]) (ofT 199 [(4,bv fo),(5,bx 1),(6,bx 2),(7,bx 3),(10,bF),(11,bx 5),(12,iv i),(13,iv kp),(14,iv (-1)),(15,iv (-1)),(16,iv (-1)),(107,bv (!En.ptB c p.rz[r] i kp))]) ?_ (fun _ => ?_)
 by_cases hs7:(Rd.inW 0 ((c.st.length:Int)-1) kp)=true
 have hwk:=En.inW_y hs7
 by_cases hs8:kp=(i:Int)
 refine tD (dW (dW (dW (dS (iv c.st.length) (dC (KL (c:=(c.st.length:Int)-1) rfl (w64 (by omega) (by omega) (by omega))) I0 I0 (dk (Zr Ku hs7) [iv kp,iv 0,iv ((c.st.length:Int)-1)] rfl rfl (dW (dS bF (dW (dW (de (dT hs8) (dW (dS bT (dK (dK (dK (dK (dK (dK (dK (dK (dS bT (eD ?_)))))))))))))))))))))))
 refine kW 199 [(1,.box 27 (cFm p)),(2,.box 29 (cSz n t f)),(3,.box 31 (Rd.cCg c)),(5,.box 57 (cRu p.rz[r]))] [(4,bv fo),(5,bx 1),(6,bx 2),(7,bx 3),(10,bF),(11,bx 5),(12,iv i),(13,iv kp),(14,iv (-1)),(15,iv (-1)),(16,iv (-1)),(107,bT)] ?_
 rw [show (!En.ptB c p.rz[r] i kp)=true from by rw [En.pt_i (En.or_t hs6) hs8];rfl]
 exact tM T0
 by_cases hs9:c.st[kp.toNat]=p.rz[r].pf
 refine tD (dW (dW (dW (dS (iv c.st.length) (dC (KL (c:=(c.st.length:Int)-1) rfl (w64 (by omega) (by omega) (by omega))) I0 I0 (dk (Zr Ku hs7) [iv kp,iv 0,iv ((c.st.length:Int)-1)] rfl rfl (dW (dS bF (dW (dW (de (dF hs8) (dW (dS bF (dW (dS (Zb c.st) (dS (iv kp) (dC (xS (kp.toNat*1) 100 101 U24) I0 I0 (dL (iv c.st[kp.toNat]) (Zw c.st (by omega)) (dW (dW (dn (dT' hs9) (dS bF (eD ?_)))))))))))))))))))))))
 refine kW 199 [(1,.box 27 (cFm p)),(2,.box 29 (cSz n t f)),(3,.box 31 (Rd.cCg c)),(5,.box 57 (cRu p.rz[r]))] [(4,bv fo),(5,bx 1),(6,bx 2),(7,bx 3),(10,bF),(11,bx 5),(12,iv i),(13,iv kp),(14,iv (-1)),(15,iv (-1)),(16,iv (-1)),(107,bF)] ?_
 rw [show (!En.ptB c p.rz[r] i kp)=false from by rw [En.pt_y (En.or_t hs6) (En.inW_y hs7) hs8 hs9];rfl]
 exact tM T0
 refine tD (dW (dW (dW (dS (iv c.st.length) (dC (KL (c:=(c.st.length:Int)-1) rfl (w64 (by omega) (by omega) (by omega))) I0 I0 (dk (Zr Ku hs7) [iv kp,iv 0,iv ((c.st.length:Int)-1)] rfl rfl (dW (dS bF (dW (dW (de (dF hs8) (dW (dS bF (dW (dS (Zb c.st) (dS (iv kp) (dC (xS (kp.toNat*1) 100 101 U24) I0 I0 (dL (iv c.st[kp.toNat]) (Zw c.st (by omega)) (dW (dW (dn (dF' hs9) (dS bT (eD ?_)))))))))))))))))))))))
 refine kW 199 [(1,.box 27 (cFm p)),(2,.box 29 (cSz n t f)),(3,.box 31 (Rd.cCg c)),(5,.box 57 (cRu p.rz[r]))] [(4,bv fo),(5,bx 1),(6,bx 2),(7,bx 3),(10,bF),(11,bx 5),(12,iv i),(13,iv kp),(14,iv (-1)),(15,iv (-1)),(16,iv (-1)),(107,bT)] ?_
 rw [show (!En.ptB c p.rz[r] i kp)=true from by rw [En.pt_p (En.or_t hs6) (En.inW_y hs7) hs9];rfl]
 exact tM T0
 have hs7f:(Rd.inW 0 ((c.st.length:Int)-1) kp)=false:=by simpa using hs7
 refine tD (dW (dW (dW (dS (iv c.st.length) (dC (KL (c:=(c.st.length:Int)-1) rfl (w64 (by omega) (by omega) (by omega))) I0 I0 (dk (Zr Ku hs7f) [iv kp,iv 0,iv ((c.st.length:Int)-1)] rfl rfl (dW (dS bT (dK (dK (dK (dW (dS bT (dK (dK (dK (dK (dK (dK (dK (dK (dS bT (eD ?_)))))))))))))))))))))))
 refine kW 199 [(1,.box 27 (cFm p)),(2,.box 29 (cSz n t f)),(3,.box 31 (Rd.cCg c)),(5,.box 57 (cRu p.rz[r]))] [(4,bv fo),(5,bx 1),(6,bx 2),(7,bx 3),(10,bF),(11,bx 5),(12,iv i),(13,iv kp),(14,iv (-1)),(15,iv (-1)),(16,iv (-1)),(107,bT)] ?_
 rw [show (!En.ptB c p.rz[r] i kp)=true from by rw [En.pt_n (En.or_t hs6) (En.inW_n hs7f)];rfl]
 exact tM T0
 refine Ze ?_
 by_cases hs10:(!En.ptB c p.rz[r] i kp)=true
 rw [hs10]
 refine kW 199 (Y6 p n t f c p.rz[r]) [(4,bv fo),(5,bx 1),(6,bx 2),(7,bx 3),(10,bF),(11,bx 5),(12,iv i),(13,iv kp),(14,iv (-1)),(15,iv (-1)),(16,iv (-1)),(107,bT)] (jK (oS bF (jE (Zd (Zd ?_)))))
 refine Zg Tryz.results26 (.tmp rfl) ?_
 exact cB ((En.en_pt (by simpa using hs10)).symm)
 have hs10f:(!En.ptB c p.rz[r] i kp)=false:=by simpa using hs10
 rw [hs10f]
 refine kW 199 (Y6 p n t f c p.rz[r]) [(4,bv fo),(5,bx 1),(6,bx 2),(7,bx 3),(10,bF),(11,bx 5),(12,iv i),(13,iv kp),(14,iv (-1)),(15,iv (-1)),(16,iv (-1)),(107,bF)] (jL (jM (Za (oF (iv p.rz[r].kind) (oC (ZF rfl (dT (by have:=En.or_t hs6;omega))) I0 I0 (jG (oS bT (jE (Zd (Zd ?_))))))))))
 refine Zg Tryz.results26 (.tmp rfl) ?_
 exact cB ((En.en_23 R hi (En.en_b hi hs4f).1 (by simpa using hs10f) (.inl (by have:=(En.or_t hs6);omega)) (En.en_b hi hs4f).2).symm)
 have hs6f:(decide (p.rz[r].kind=2)||decide (p.rz[r].kind=5))=false:=by simpa using hs6
 have hty:=En.or_f hs6f
 rw [hs6f]
 refine kW 199 (Y6 p n t f c p.rz[r]) [(4,bv fo),(5,bx 1),(6,bx 2),(7,bx 3),(10,bF),(11,bx 5),(12,iv i),(13,iv kp),(14,iv (-1)),(15,iv (-1)),(16,iv (-1)),(85,bF)] (jL (jM ?_))
 by_cases hs11:kp=(-1)
 refine Za (oW (on (dT' hs11) (jF (jM ?_))))
 by_cases hs12:p.rz[r].kind=1
 refine Za (oW (oW (oe (dT hs12) (jG (oW (oW (oW (oW (oW (oW (oK (rlocal_c HL HC hc hf hr R (En.en_b hi hs4f).2) [.agg (cFm p),.agg (cSz n t f),.agg (Rd.cCg c),.agg (cRu p.rz[r]),iv i,bv fo] rfl rfl (oS (bv (En.loB n t f c p.rz[r] (En.hdG p f c fo) i)) (jE (Zd ?_))))))))))))))
 refine Zg Tryz.results26 (.tmp rfl) ?_
 exact cB ((En.en_1 hi (En.en_b hi hs4f).1 (En.pt_1 (En.or_f hs6f) hs11) hs12).symm)
 refine Za (oW (oW (oe (dF hs12) (jF (jM (Za (oF (iv p.rz[r].kind) (oC (ZF rfl (dT (by have:=En.or_f hs6f;omega))) I0 I0 (jG (oS bT (jE (Zd ?_))))))))))))
 refine Zg Tryz.results26 (.tmp rfl) ?_
 exact cB ((En.en_23 R hi (En.en_b hi hs4f).1 (En.pt_1 (En.or_f hs6f) hs11) (.inr (by have:=(En.or_f hs6f);omega)) (En.en_b hi hs4f).2).symm)
 refine Za (oW (on (dF' hs11) (jG (oS bF (jE (Zd ?_))))))
 refine Zg Tryz.results26 (.tmp rfl) ?_
 exact cB ((En.en_pt (En.pt_o (En.or_f hs6f) hs11)).symm)
abbrev Ze7 (x0:Fm) (x1:Cf) (x2:Ru):List (Nat × ABlk):=[(1,.box 27 (cFm x0)),(3,.box 31 (Rd.cCg x1)),(5,.box 57 (cRu x2))]
abbrev ZaX (x0:Cf) (x1:Ru):List (Nat × ABlk):=[(3,.box 31 (Rd.cCg x0)),(5,.box 57 (cRu x1))]
abbrev Ze6 (x0:Fm) (x1:Cf) (x2:Nat):List (Nat × AV):=[(7,bx 3),(10,bF),(11,bx 5),(14,iv (Jd.lkF x0.top x1.sh x1.st.length x2)),(15,iv (Jd.lkS x0.top x1.sh x1.st.length x2)),(16,iv (En.lkP x0.top x1.sh x1.st.length x2)),(179,bF)]
abbrev Ze5 (x0:Fm) (x1:Cf) (x2:Nat):List (Nat × AV):=[(7,bx 3),(10,bF),(11,bx 5),(14,iv (Jd.lkF x0.top x1.sh x1.st.length x2)),(15,iv (Jd.lkS x0.top x1.sh x1.st.length x2)),(16,iv (En.lkP x0.top x1.sh x1.st.length x2)),(179,bT)]
theorem ZdJ (HL:FamLen p) (HC:Rd.CgOk c) (hc:En.CfV p n f c) (hv:valE p=0) (hf:0≤f∧f≤1048576) (hr:r<p.rz.length) (hi:i<c.st.length) (h1:¬ p.top=1):Ctr Tryz.prog J 26 [.agg (cFm p),.agg (cSz n t f),.agg (Rd.cCg c),.agg [iv r,iv i,iv kp],bv fo] (bv (En.enR p.top n t f c (En.hdG p f c fo) p.rz[r] i kp)):=by
 have R:=En.val_in hv (List.getElem_mem hr)
 have hz:=En.val_sizes hv
 have hlst:=HC.lst
 have hkd:=R.kd
 have hkt:=R.kt
 have htop:=Jd.top_in hv
 have hlk:=En.lk_ok hc h1 htop hi
 refine Zm Tryz.func26 rfl (pN (Zh (ZQ p)) (pN (Zh (Z0 n t f)) (pN (Zh (Rd.plain_cg c)) (pN (Zh (pN (.v _) (pN (.v _) (pN (.v _) pZ)))) (pN (.v _) pZ))))) (n:=199) rfl (by simp) (fun w0 => ?_)
 refine kW 199 [] (XEr4_h1 p n t f c r i kp fo) (jB (oX 1 (.agg (cFm p)) (oX 2 (.agg (cSz n t f)) (oX 3 (.agg (Rd.cCg c)) (oX 4 (.agg [iv r,iv i,iv kp]) (oS bF (jD (jB (oW (oW (oW (oF (iv p.rz.length) (oU ((p.rz.length:Int)-1) (oK (Zr Ku (Jd.in_w hr)) [iv r,iv 0,iv ((p.rz.length:Int)-1)] rfl rfl (oF bF (oW (oW (oW (oF (iv c.st.length) ?_)))))))))))))))))))
 refine oU ((c.st.length:Int)-1) (oK (Zr Ku (Jd.in_w hi)) [iv i,iv 0,iv ((c.st.length:Int)-1)] rfl rfl (oW (oS bF (jF (Zl ?_)))))
 refine tD (dW (dS (slA 18 cRu p.rz) (dW (dS (iv r) (dC (xS (r*18) 36 38 U25) I0 I0 (dA (Zk (z:=18) (.tmp 39) rfl U57 rfl (by kernel_rfl) (Yu lenRu p.rz r (by omega)) rfl) I0 (dW (dW (dW (dW (dz 5 Z57 (dY (dS (iv i) (dS (iv kp) (eD ?_)))))))))))))))
 refine kW 199 (Y6 p n t f c p.rz[r]) (XEr4_h3 fo i kp) (jC (Zl ?_))
 refine Ym (True) (ofL [(1,.box 27 (cFm p)),(2,.box 29 (cSz n t f)),(3,.box 31 (Rd.cCg c)),(5,.box 57 (cRu p.rz[r]))]) (ofT 199 [(4,bv fo),(5,bx 1),(6,bx 2),(7,bx 3),(10,bF),(11,bx 5),(12,iv i),(13,iv kp),(64,bv (!decide (c.st[i]=p.rz[r].frm)||En.rdN c p.rz[r]))]) ?_ (fun _ => ?_)
 by_cases hs1:c.st[i]=p.rz[r].frm
 by_cases hs2:p.rz[r].rd=(-1)
 refine tD (dW (dS (Zb c.st) (dS (iv i) (dC (xS (i*1) 46 47 U24) I0 I0 (dL (iv c.st[i]) (Zw c.st (by omega)) (dW (dW (dn (dT' hs1) (dS bF (dW (dW (dn (dT' hs2) (dS bF (dK (dK (dK (dK (dK (dW (dS bF (eD ?_)))))))))))))))))))))
 refine kW 199 [(1,.box 27 (cFm p)),(2,.box 29 (cSz n t f)),(3,.box 31 (Rd.cCg c)),(5,.box 57 (cRu p.rz[r]))] [(4,bv fo),(5,bx 1),(6,bx 2),(7,bx 3),(10,bF),(11,bx 5),(12,iv i),(13,iv kp),(64,bF)] ?_
 rw [show (!decide (c.st[i]=p.rz[r].frm)||En.rdN c p.rz[r])=false from by rw [decide_eq_true hs1,En.rdN_f (.inl hs2)];rfl]
 exact tM T0
 by_cases hs3:c.val=p.rz[r].rd
 refine tD (dW (dS (Zb c.st) (dS (iv i) (dC (xS (i*1) 46 47 U24) I0 I0 (dL (iv c.st[i]) (Zw c.st (by omega)) (dW (dW (dn (dT' hs1) (dS bF (dW (dW (dn (dF' hs2) (dS bT (dW (dW (dW (dW (dn (dT' hs3) (dW (dS bF (eD ?_)))))))))))))))))))))
 refine kW 199 [(1,.box 27 (cFm p)),(2,.box 29 (cSz n t f)),(3,.box 31 (Rd.cCg c)),(5,.box 57 (cRu p.rz[r]))] [(4,bv fo),(5,bx 1),(6,bx 2),(7,bx 3),(10,bF),(11,bx 5),(12,iv i),(13,iv kp),(64,bF)] ?_
 rw [show (!decide (c.st[i]=p.rz[r].frm)||En.rdN c p.rz[r])=false from by rw [decide_eq_true hs1,En.rdN_f (.inr hs3)];rfl]
 exact tM T0
 refine tD (dW (dS (Zb c.st) (dS (iv i) (dC (xS (i*1) 46 47 U24) I0 I0 (dL (iv c.st[i]) (Zw c.st (by omega)) (dW (dW (dn (dT' hs1) (dS bF (dW (dW (dn (dF' hs2) (dS bT (dW (dW (dW (dW (dn (dF' hs3) (dW (dS bT (eD ?_)))))))))))))))))))))
 refine kW 199 [(1,.box 27 (cFm p)),(2,.box 29 (cSz n t f)),(3,.box 31 (Rd.cCg c)),(5,.box 57 (cRu p.rz[r]))] [(4,bv fo),(5,bx 1),(6,bx 2),(7,bx 3),(10,bF),(11,bx 5),(12,iv i),(13,iv kp),(64,bT)] ?_
 rw [show (!decide (c.st[i]=p.rz[r].frm)||En.rdN c p.rz[r])=true from by rw [decide_eq_true hs1,En.rdN_t R hs2 hs3];rfl]
 exact tM T0
 refine tD (dW (dS (Zb c.st) (dS (iv i) (dC (xS (i*1) 46 47 U24) I0 I0 (dL (iv c.st[i]) (Zw c.st (by omega)) (dW (dW (dn (dF' hs1) (dS bT (dK (dK (dK (dK (dK (dK (dK (dK (dK (dK (dS bT (eD ?_)))))))))))))))))))))
 refine kW 199 [(1,.box 27 (cFm p)),(2,.box 29 (cSz n t f)),(3,.box 31 (Rd.cCg c)),(5,.box 57 (cRu p.rz[r]))] [(4,bv fo),(5,bx 1),(6,bx 2),(7,bx 3),(10,bF),(11,bx 5),(12,iv i),(13,iv kp),(64,bT)] ?_
 rw [show (!decide (c.st[i]=p.rz[r].frm)||En.rdN c p.rz[r])=true from by rw [decide_eq_false hs1];rfl]
 exact tM T0
 refine Ze ?_
 by_cases hs4:(!decide (c.st[i]=p.rz[r].frm)||En.rdN c p.rz[r])=true
 rw [hs4]
 refine kW 199 (Y6 p n t f c p.rz[r]) (XEr4_h4 fo i kp) (jK (oS bF (jE (Zd ?_))))
 refine Zg Tryz.results26 (.tmp rfl) ?_
 exact cB ((En.en_a R hi hs4).symm)
 have hs4f:(!decide (c.st[i]=p.rz[r].frm)||En.rdN c p.rz[r])=false:=by simpa using hs4
 rw [hs4f]
 refine kW 199 (Y6 p n t f c p.rz[r]) (XEr4_h5 fo i kp) (jL (jB (oW (oW (oW (oW (oW (oW (oW (oW (oK (nbNo_c HC hc hv hi h1) [iv p.top,Zb c.sh,iv c.st.length,iv i] rfl rfl (oS (.tup [iv (Jd.lkF p.top c.sh c.st.length i),iv (Jd.lkS p.top c.sh c.st.length i),iv (En.lkP p.top c.sh c.st.length i)]) (oW (oW (oW (oS (iv (Jd.lkF p.top c.sh c.st.length i)) (oS (iv (Jd.lkS p.top c.sh c.st.length i)) (oS (iv (En.lkP p.top c.sh c.st.length i)) (kN 199 (Y6 p n t f c p.rz[r]) [(4,bv fo),(5,bx 1),(6,bx 2),(7,bx 3),(10,bF),(11,bx 5),(12,iv i),(13,iv kp),(14,iv (Jd.lkF p.top c.sh c.st.length i)),(15,iv (Jd.lkS p.top c.sh c.st.length i)),(16,iv (En.lkP p.top c.sh c.st.length i))] (Ze ?_))))))))))))))))))))
 refine jM ?_
 refine Ym (True) (ofL [(1,.box 27 (cFm p)),(2,.box 29 (cSz n t f)),(3,.box 31 (Rd.cCg c)),(5,.box 57 (cRu p.rz[r]))]) (ofT 199 [(4,bv fo),(5,bx 1),(6,bx 2),(7,bx 3),(10,bF),(11,bx 5),(12,iv i),(13,iv kp),(14,iv (Jd.lkF p.top c.sh c.st.length i)),(15,iv (Jd.lkS p.top c.sh c.st.length i)),(16,iv (En.lkP p.top c.sh c.st.length i)),(85,bv (decide (p.rz[r].kind=2)||decide (p.rz[r].kind=5)))]) ?_ (fun _ => ?_)
 by_cases hs5:p.rz[r].kind=5
 refine Za (oF (iv p.rz[r].kind) (oC (ZF rfl (dF (by omega))) I0 I0 (oS bF (oW (oW (oe (dT hs5) (oS bT (kN 199 [(1,.box 27 (cFm p)),(2,.box 29 (cSz n t f)),(3,.box 31 (Rd.cCg c)),(5,.box 57 (cRu p.rz[r]))] [(4,bv fo),(5,bx 1),(6,bx 2),(7,bx 3),(10,bF),(11,bx 5),(12,iv i),(13,iv kp),(14,iv (Jd.lkF p.top c.sh c.st.length i)),(15,iv (Jd.lkS p.top c.sh c.st.length i)),(16,iv (En.lkP p.top c.sh c.st.length i)),(85,bT)] ?_))))))))
 rw [show (decide (p.rz[r].kind=2)||decide (p.rz[r].kind=5))=true from (by simp only [Bool.or_eq_true,decide_eq_true_eq];omega)]
 exact tM T0
 refine Za (oF (iv p.rz[r].kind) (oC (ZF rfl (dF (by omega))) I0 I0 (oS bF (oW (oW (oe (dF hs5) (oS bF (kN 199 [(1,.box 27 (cFm p)),(2,.box 29 (cSz n t f)),(3,.box 31 (Rd.cCg c)),(5,.box 57 (cRu p.rz[r]))] [(4,bv fo),(5,bx 1),(6,bx 2),(7,bx 3),(10,bF),(11,bx 5),(12,iv i),(13,iv kp),(14,iv (Jd.lkF p.top c.sh c.st.length i)),(15,iv (Jd.lkS p.top c.sh c.st.length i)),(16,iv (En.lkP p.top c.sh c.st.length i)),(85,bF)] ?_))))))))
 rw [show (decide (p.rz[r].kind=2)||decide (p.rz[r].kind=5))=false from (by simp only [Bool.or_eq_false_iff,decide_eq_false_iff_not];omega)]
 exact tM T0
 refine Ze ?_
 by_cases hs6:(decide (p.rz[r].kind=2)||decide (p.rz[r].kind=5))=true
 have hty:=En.or_t hs6
 rw [hs6]
 refine kW 199 (Y6 p n t f c p.rz[r]) [(4,bv fo),(5,bx 1),(6,bx 2),(7,bx 3),(10,bF),(11,bx 5),(12,iv i),(13,iv kp),(14,iv (Jd.lkF p.top c.sh c.st.length i)),(15,iv (Jd.lkS p.top c.sh c.st.length i)),(16,iv (En.lkP p.top c.sh c.st.length i)),(85,bT)] (Ya rfl (jM ?_))
 refine Ym (True) (ofL [(1,.box 27 (cFm p)),(2,.box 29 (cSz n t f)),(3,.box 31 (Rd.cCg c)),(5,.box 57 (cRu p.rz[r]))]) (ofT 199 [(4,bv fo),(5,bx 1),(6,bx 2),(7,bx 3),(10,bF),(11,bx 5),(12,iv i),(13,iv kp),(14,iv (Jd.lkF p.top c.sh c.st.length i)),(15,iv (Jd.lkS p.top c.sh c.st.length i)),(16,iv (En.lkP p.top c.sh c.st.length i)),(107,bv (!En.ptB c p.rz[r] i kp))]) ?_ (fun _ => ?_)
 by_cases hs7:(Rd.inW 0 ((c.st.length:Int)-1) kp)=true
 have hwk:=En.inW_y hs7
 by_cases hs8:kp=(i:Int)
 refine tD (dW (dW (dW (dS (iv c.st.length) (dC (KL (c:=(c.st.length:Int)-1) rfl (w64 (by omega) (by omega) (by omega))) I0 I0 (dk (Zr Ku hs7) [iv kp,iv 0,iv ((c.st.length:Int)-1)] rfl rfl (dW (dS bF (dW (dW (de (dT hs8) (dW (dS bT (dK (dK (dK (dK (dK (dK (dK (dK (dS bT (eD ?_)))))))))))))))))))))))
 refine kW 199 [(1,.box 27 (cFm p)),(2,.box 29 (cSz n t f)),(3,.box 31 (Rd.cCg c)),(5,.box 57 (cRu p.rz[r]))] [(4,bv fo),(5,bx 1),(6,bx 2),(7,bx 3),(10,bF),(11,bx 5),(12,iv i),(13,iv kp),(14,iv (Jd.lkF p.top c.sh c.st.length i)),(15,iv (Jd.lkS p.top c.sh c.st.length i)),(16,iv (En.lkP p.top c.sh c.st.length i)),(107,bT)] ?_
 rw [show (!En.ptB c p.rz[r] i kp)=true from by rw [En.pt_i (En.or_t hs6) hs8];rfl]
 exact tM T0
 by_cases hs9:c.st[kp.toNat]=p.rz[r].pf
 refine tD (dW (dW (dW (dS (iv c.st.length) (dC (KL (c:=(c.st.length:Int)-1) rfl (w64 (by omega) (by omega) (by omega))) I0 I0 (dk (Zr Ku hs7) [iv kp,iv 0,iv ((c.st.length:Int)-1)] rfl rfl (dW (dS bF (dW (dW (de (dF hs8) (dW (dS bF (dW (dS (Zb c.st) (dS (iv kp) (dC (xS (kp.toNat*1) 100 101 U24) I0 I0 (dL (iv c.st[kp.toNat]) (Zw c.st (by omega)) (dW (dW (dn (dT' hs9) (dS bF (eD ?_)))))))))))))))))))))))
 refine kW 199 [(1,.box 27 (cFm p)),(2,.box 29 (cSz n t f)),(3,.box 31 (Rd.cCg c)),(5,.box 57 (cRu p.rz[r]))] [(4,bv fo),(5,bx 1),(6,bx 2),(7,bx 3),(10,bF),(11,bx 5),(12,iv i),(13,iv kp),(14,iv (Jd.lkF p.top c.sh c.st.length i)),(15,iv (Jd.lkS p.top c.sh c.st.length i)),(16,iv (En.lkP p.top c.sh c.st.length i)),(107,bF)] ?_
 rw [show (!En.ptB c p.rz[r] i kp)=false from by rw [En.pt_y (En.or_t hs6) (En.inW_y hs7) hs8 hs9];rfl]
 exact tM T0
 refine tD (dW (dW (dW (dS (iv c.st.length) (dC (KL (c:=(c.st.length:Int)-1) rfl (w64 (by omega) (by omega) (by omega))) I0 I0 (dk (Zr Ku hs7) [iv kp,iv 0,iv ((c.st.length:Int)-1)] rfl rfl (dW (dS bF (dW (dW (de (dF hs8) (dW (dS bF (dW (dS (Zb c.st) (dS (iv kp) (dC (xS (kp.toNat*1) 100 101 U24) I0 I0 (dL (iv c.st[kp.toNat]) (Zw c.st (by omega)) (dW (dW (dn (dF' hs9) (dS bT (eD ?_)))))))))))))))))))))))
 refine kW 199 [(1,.box 27 (cFm p)),(2,.box 29 (cSz n t f)),(3,.box 31 (Rd.cCg c)),(5,.box 57 (cRu p.rz[r]))] [(4,bv fo),(5,bx 1),(6,bx 2),(7,bx 3),(10,bF),(11,bx 5),(12,iv i),(13,iv kp),(14,iv (Jd.lkF p.top c.sh c.st.length i)),(15,iv (Jd.lkS p.top c.sh c.st.length i)),(16,iv (En.lkP p.top c.sh c.st.length i)),(107,bT)] ?_
 rw [show (!En.ptB c p.rz[r] i kp)=true from by rw [En.pt_p (En.or_t hs6) (En.inW_y hs7) hs9];rfl]
 exact tM T0
 have hs7f:(Rd.inW 0 ((c.st.length:Int)-1) kp)=false:=by simpa using hs7
 refine tD (dW (dW (dW (dS (iv c.st.length) (dC (KL (c:=(c.st.length:Int)-1) rfl (w64 (by omega) (by omega) (by omega))) I0 I0 (dk (Zr Ku hs7f) [iv kp,iv 0,iv ((c.st.length:Int)-1)] rfl rfl (dW (dS bT (dK (dK (dK (dW (dS bT (dK (dK (dK (dK (dK (dK (dK (dK (dS bT (eD ?_)))))))))))))))))))))))
 refine kW 199 [(1,.box 27 (cFm p)),(2,.box 29 (cSz n t f)),(3,.box 31 (Rd.cCg c)),(5,.box 57 (cRu p.rz[r]))] [(4,bv fo),(5,bx 1),(6,bx 2),(7,bx 3),(10,bF),(11,bx 5),(12,iv i),(13,iv kp),(14,iv (Jd.lkF p.top c.sh c.st.length i)),(15,iv (Jd.lkS p.top c.sh c.st.length i)),(16,iv (En.lkP p.top c.sh c.st.length i)),(107,bT)] ?_
 rw [show (!En.ptB c p.rz[r] i kp)=true from by rw [En.pt_n (En.or_t hs6) (En.inW_n hs7f)];rfl]
 exact tM T0
 refine Ze ?_
 by_cases hs10:(!En.ptB c p.rz[r] i kp)=true
 rw [hs10]
 refine kW 199 (Y6 p n t f c p.rz[r]) [(4,bv fo),(5,bx 1),(6,bx 2),(7,bx 3),(10,bF),(11,bx 5),(12,iv i),(13,iv kp),(14,iv (Jd.lkF p.top c.sh c.st.length i)),(15,iv (Jd.lkS p.top c.sh c.st.length i)),(16,iv (En.lkP p.top c.sh c.st.length i)),(107,bT)] (jK (oS bF (jE (Zd (Zd ?_)))))
 refine Zg Tryz.results26 (.tmp rfl) ?_
 exact cB ((En.en_pt (by simpa using hs10)).symm)
 have hs10f:(!En.ptB c p.rz[r] i kp)=false:=by simpa using hs10
 rw [hs10f]
 refine kW 199 (Y6 p n t f c p.rz[r]) [(4,bv fo),(5,bx 1),(6,bx 2),(7,bx 3),(10,bF),(11,bx 5),(12,iv i),(13,iv kp),(14,iv (Jd.lkF p.top c.sh c.st.length i)),(15,iv (Jd.lkS p.top c.sh c.st.length i)),(16,iv (En.lkP p.top c.sh c.st.length i)),(107,bF)] (jL (jM (Za (oF (iv p.rz[r].kind) (oC (ZF rfl (dF (by omega))) I0 I0 (jF (jM ?_)))))))
 by_cases hs11:p.rz[r].dir=1
 refine Za (oW (oW (oe (dT hs11) (jG (oS (iv kp) (oS (iv (Jd.lkS p.top c.sh c.st.length i)) (oC (ZF rfl rfl) I0 I0 (oS (bv (decide (kp=(Jd.lkS p.top c.sh c.st.length i)))) (jE (Zd (Zd ?_)))))))))))
 refine Zg Tryz.results26 (.tmp rfl) ?_
 exact cB ((by rw [En.en_5 hi (En.en_b hi hs4f).1 (by simpa using hs10f) (by have:=(En.or_t hs6);omega)];unfold En.psB;rw [if_pos hs11]))
 refine Za (oW (oW (oe (dF hs11) (jF (jM ?_)))))
 by_cases hs12:p.rz[r].dir=2
 refine Za (oW (oW (oe (dT hs12) (jG (oS (iv kp) (oS (iv (Jd.lkF p.top c.sh c.st.length i)) (oC (ZF rfl rfl) I0 I0 (oS (bv (decide (kp=(Jd.lkF p.top c.sh c.st.length i)))) (jE (Zd (Zd ?_)))))))))))
 refine Zg Tryz.results26 (.tmp rfl) ?_
 exact cB ((by rw [En.en_5 hi (En.en_b hi hs4f).1 (by simpa using hs10f) (by have:=(En.or_t hs6);omega)];unfold En.psB;rw [if_neg hs11,if_pos hs12]))
 refine Za (oW (oW (oe (dF hs12) (jF (jM ?_)))))
 by_cases hs13:p.rz[r].dir=3
 refine Za (oW (oW (oe (dT hs13) (jH (Zl ?_)))))
 by_cases hs14:kp=(Jd.lkF p.top c.sh c.st.length i)
 refine Za (oW (oW (oe (dT hs14) (oS bT (qK (qK (qK (oF bT (jE (Zd (Zd ?_)))))))))))
 refine Zg Tryz.results26 (.tmp rfl) ?_
 exact cB ((by rw [En.en_5 hi (En.en_b hi hs4f).1 (by simpa using hs10f) (by have:=(En.or_t hs6);omega)];unfold En.psB;rw [if_neg hs11,if_neg hs12,if_pos hs13];simp only [dT hs14,decide_true,decide_false,Bool.and_true,Bool.true_and,Bool.false_and,Bool.and_false,Bool.true_or,Bool.false_or,Bool.or_true,Bool.or_false,Bool.not_true,Bool.not_false]))
 refine Za (oW (oW (oe (dF hs14) (oS bF (oS (iv kp) (oS (iv (Jd.lkS p.top c.sh c.st.length i)) (gC (ZF rfl rfl) I0 I0 (oF (bv (decide (kp=(Jd.lkS p.top c.sh c.st.length i)))) (jE (Zd (Zd ?_)))))))))))
 refine Zg Tryz.results26 (.tmp rfl) ?_
 exact cB ((by rw [En.en_5 hi (En.en_b hi hs4f).1 (by simpa using hs10f) (by have:=(En.or_t hs6);omega)];unfold En.psB;rw [if_neg hs11,if_neg hs12,if_pos hs13];simp only [dF hs14,decide_true,decide_false,Bool.and_true,Bool.true_and,Bool.false_and,Bool.and_false,Bool.true_or,Bool.false_or,Bool.or_true,Bool.or_false,Bool.not_true,Bool.not_false]))
 refine Za (oW (oW (oe (dF hs13) (jF (jB (oS (iv kp) (oS (iv (En.lkP p.top c.sh c.st.length i)) (oC (ZF rfl rfl) I0 I0 (oS (bv (decide (kp=(En.lkP p.top c.sh c.st.length i)))) (jE (Zd ?_)))))))))))
 refine Zg Tryz.results26 (.tmp rfl) ?_
 exact cB ((by rw [En.en_5 hi (En.en_b hi hs4f).1 (by simpa using hs10f) (by have:=(En.or_t hs6);omega)];unfold En.psB;rw [if_neg hs11,if_neg hs12,if_neg hs13]))
 have hs6f:(decide (p.rz[r].kind=2)||decide (p.rz[r].kind=5))=false:=by simpa using hs6
 have hty:=En.or_f hs6f
 rw [hs6f]
 refine kW 199 (Y6 p n t f c p.rz[r]) [(4,bv fo),(5,bx 1),(6,bx 2),(7,bx 3),(10,bF),(11,bx 5),(12,iv i),(13,iv kp),(14,iv (Jd.lkF p.top c.sh c.st.length i)),(15,iv (Jd.lkS p.top c.sh c.st.length i)),(16,iv (En.lkP p.top c.sh c.st.length i)),(85,bF)] (jL (jM ?_))
 by_cases hs15:kp=(-1)
 refine Za (oW (on (dT' hs15) (jF (jM (Za (oF (iv p.rz[r].kind) (oC (ZF rfl (dF (by omega))) I0 I0 (jF (jM (Za (oF (iv p.rz[r].kind) (oC (ZF rfl (dF (by omega))) I0 I0 (kN 199 (Ze7 p c p.rz[r]) [(5,bx 1),(7,bx 3),(10,bF),(11,bx 5),(12,iv i),(14,iv (Jd.lkF p.top c.sh c.st.length i)),(15,iv (Jd.lkS p.top c.sh c.st.length i)),(16,iv (En.lkP p.top c.sh c.st.length i)),(151,bF)] ?_)))))))))))))
 refine jJ (jM ?_)
 refine Ym (True) (ofL [(1,.box 27 (cFm p)),(3,.box 31 (Rd.cCg c)),(5,.box 57 (cRu p.rz[r]))]) (ofT 199 [(5,bx 1),(7,bx 3),(10,bF),(11,bx 5),(14,iv (Jd.lkF p.top c.sh c.st.length i)),(15,iv (Jd.lkS p.top c.sh c.st.length i)),(16,iv (En.lkP p.top c.sh c.st.length i)),(158,bv (decide (p.rz[r].pos=1) && !decide ((i:Int)=0)))]) ?_ (fun _ => ?_)
 by_cases hs16:p.rz[r].pos=1
 by_cases hs17:(i:Int)=0
 refine Za (oW (oW (oe (dT hs16) (oS bT (oW (on (dT' hs17) (oS bF (kN 199 [(1,.box 27 (cFm p)),(3,.box 31 (Rd.cCg c)),(5,.box 57 (cRu p.rz[r]))] [(5,bx 1),(7,bx 3),(10,bF),(11,bx 5),(14,iv (Jd.lkF p.top c.sh c.st.length i)),(15,iv (Jd.lkS p.top c.sh c.st.length i)),(16,iv (En.lkP p.top c.sh c.st.length i)),(158,bF)] ?_))))))))
 rw [show (decide (p.rz[r].pos=1) && !decide ((i:Int)=0))=false by simp only [hs4f,hs6f,dT hs15,dT hs16,dT hs17,decide_true,decide_false,Bool.and_true,Bool.true_and,Bool.false_and,Bool.and_false,Bool.true_or,Bool.false_or,Bool.or_true,Bool.or_false,Bool.not_true,Bool.not_false]]
 exact tM T0
 refine Za (oW (oW (oe (dT hs16) (oS bT (oW (on (dF' hs17) (oS bT (kN 199 [(1,.box 27 (cFm p)),(3,.box 31 (Rd.cCg c)),(5,.box 57 (cRu p.rz[r]))] [(5,bx 1),(7,bx 3),(10,bF),(11,bx 5),(14,iv (Jd.lkF p.top c.sh c.st.length i)),(15,iv (Jd.lkS p.top c.sh c.st.length i)),(16,iv (En.lkP p.top c.sh c.st.length i)),(158,bT)] ?_))))))))
 rw [show (decide (p.rz[r].pos=1) && !decide ((i:Int)=0))=true by simp only [hs4f,hs6f,dT hs15,dT hs16,dF hs17,decide_true,decide_false,Bool.and_true,Bool.true_and,Bool.false_and,Bool.and_false,Bool.true_or,Bool.false_or,Bool.or_true,Bool.or_false,Bool.not_true,Bool.not_false]]
 exact tM T0
 refine Za (oW (oW (oe (dF hs16) (oS bF (qK (qK (oS bF (kN 199 [(1,.box 27 (cFm p)),(3,.box 31 (Rd.cCg c)),(5,.box 57 (cRu p.rz[r]))] [(5,bx 1),(7,bx 3),(10,bF),(11,bx 5),(14,iv (Jd.lkF p.top c.sh c.st.length i)),(15,iv (Jd.lkS p.top c.sh c.st.length i)),(16,iv (En.lkP p.top c.sh c.st.length i)),(158,bF)] ?_))))))))
 rw [show (decide (p.rz[r].pos=1) && !decide ((i:Int)=0))=false by simp only [hs4f,hs6f,dT hs15,dF hs16,decide_true,decide_false,Bool.and_true,Bool.true_and,Bool.false_and,Bool.and_false,Bool.true_or,Bool.false_or,Bool.or_true,Bool.or_false,Bool.not_true,Bool.not_false]]
 exact tM T0
 refine Ze ?_
 by_cases hs18:(decide (p.rz[r].pos=1) && !decide ((i:Int)=0))=true
 rw [hs18]
 refine kW 199 (Ze7 p c p.rz[r]) [(5,bx 1),(7,bx 3),(10,bF),(11,bx 5),(14,iv (Jd.lkF p.top c.sh c.st.length i)),(15,iv (Jd.lkS p.top c.sh c.st.length i)),(16,iv (En.lkP p.top c.sh c.st.length i)),(158,bT)] (jK (oS bF (jE (Zd ?_))))
 refine Zg Tryz.results26 (.tmp rfl) ?_
 exact cB ((by rw [En.en_4 hi (En.en_b hi hs4f).1 (En.pt_1 (En.or_f hs6f) hs15) (by have:=(En.or_f hs6f);have:=R.kd;omega)];unfold En.nbB;simp only [hs18,decide_true,decide_false,Bool.and_true,Bool.true_and,Bool.false_and,Bool.and_false,Bool.true_or,Bool.false_or,Bool.or_true,Bool.or_false,Bool.not_true,Bool.not_false]))
 have hs18f:(decide (p.rz[r].pos=1) && !decide ((i:Int)=0))=false:=by simpa using hs18
 rw [hs18f]
 refine kW 199 (Ze7 p c p.rz[r]) [(5,bx 1),(7,bx 3),(10,bF),(11,bx 5),(14,iv (Jd.lkF p.top c.sh c.st.length i)),(15,iv (Jd.lkS p.top c.sh c.st.length i)),(16,iv (En.lkP p.top c.sh c.st.length i)),(158,bF)] (jL (jM ?_))
 refine Ym (True) (ofL [(3,.box 31 (Rd.cCg c)),(5,.box 57 (cRu p.rz[r]))]) (ofT 199 [(7,bx 3),(10,bF),(11,bx 5),(14,iv (Jd.lkF p.top c.sh c.st.length i)),(15,iv (Jd.lkS p.top c.sh c.st.length i)),(16,iv (En.lkP p.top c.sh c.st.length i)),(179,bv (decide (p.rz[r].pos=2)&&decide (0≤(Jd.lkS p.top c.sh c.st.length i))))]) ?_ (fun _ => ?_)
 by_cases hs19:p.rz[r].pos=2
 by_cases hs20:p.top=2
 by_cases hs21:(Jd.lkS p.top c.sh c.st.length i)=(-1)
 refine Za (oW (oW (oe (dT hs19) (oS bT (oW (oW (oe (dT hs20) (oS bT (oW (on (dT' hs21) (oF bF (oF (iv p.top) (gC (ZF rfl (dF (by omega))) I0 I0 (oS bF (qK (qK (oW (oW (oS bF (kN 199 (ZaX c p.rz[r]) (Ze6 p c i) ?_))))))))))))))))))))
 have hS:decide (0≤(Jd.lkS p.top c.sh c.st.length i))=false:=by have:=En.lineS (sh:=c.sh) hi;rw [hs20] at *;exact decide_eq_false (by omega)
 rw [show (decide (p.rz[r].pos=2)&&decide (0≤(Jd.lkS p.top c.sh c.st.length i)))=false from by rw [hS,decide_eq_true hs19];rfl]
 exact tM T0
 refine Za (oW (oW (oe (dT hs19) (oS bT (oW (oW (oe (dT hs20) (oS bT (oW (on (dF' hs21) (oF bT (qK (qK (qK (qK (qK (qK (qK (oW (oS bT (kN 199 (ZaX c p.rz[r]) (Ze5 p c i) ?_)))))))))))))))))))))
 have hS:decide (0≤(Jd.lkS p.top c.sh c.st.length i))=true:=by have:=En.lineS (sh:=c.sh) hi;rw [hs20] at *;exact decide_eq_true (by omega)
 rw [show (decide (p.rz[r].pos=2)&&decide (0≤(Jd.lkS p.top c.sh c.st.length i)))=true from by rw [hS,decide_eq_true hs19];rfl]
 exact tM T0
 by_cases hs22:(Jd.lkF p.top c.sh c.st.length i)=(-1)
 refine Za (oW (oW (oe (dT hs19) (oS bT (oW (oW (oe (dF hs20) (oS bF (qK (qK (oF bF (oF (iv p.top) (gC (ZF rfl (dT (by have h4:p.rz[r].kind=4:=(by omega);have:=R.po h4 (by omega);omega))) I0 I0 (oS bT (oW (on (dT' hs22) (oW (oW (oS bF (kN 199 (ZaX c p.rz[r]) (Ze6 p c i) ?_))))))))))))))))))))
 have hS:decide (0≤(Jd.lkS p.top c.sh c.st.length i))=false:=by have hb:=En.bothC hc hi (by have h4:p.rz[r].kind=4:=(by omega);have:=R.po h4 (by omega);omega);exact decide_eq_false (by omega)
 rw [show (decide (p.rz[r].pos=2)&&decide (0≤(Jd.lkS p.top c.sh c.st.length i)))=false from by rw [hS,decide_eq_true hs19];rfl]
 exact tM T0
 refine Za (oW (oW (oe (dT hs19) (oS bT (oW (oW (oe (dF hs20) (oS bF (qK (qK (oF bF (oF (iv p.top) (gC (ZF rfl (dT (by have h4:p.rz[r].kind=4:=(by omega);have:=R.po h4 (by omega);omega))) I0 I0 (oS bT (oW (on (dF' hs22) (oW (oW (oS bT (kN 199 (ZaX c p.rz[r]) (Ze5 p c i) ?_))))))))))))))))))))
 have hS:decide (0≤(Jd.lkS p.top c.sh c.st.length i))=true:=by have hb:=En.bothC hc hi (by have h4:p.rz[r].kind=4:=(by omega);have:=R.po h4 (by omega);omega);exact decide_eq_true (by omega)
 rw [show (decide (p.rz[r].pos=2)&&decide (0≤(Jd.lkS p.top c.sh c.st.length i)))=true from by rw [hS,decide_eq_true hs19];rfl]
 exact tM T0
 refine Za (oW (oW (oe (dF hs19) (oS bF (qK (qK (qK (qK (qK (qK (qK (qK (qK (qK (qK (qK (qK (qK (qK (qK (oS bF (kN 199 [(3,.box 31 (Rd.cCg c)),(5,.box 57 (cRu p.rz[r]))] [(7,bx 3),(10,bF),(11,bx 5),(14,iv (Jd.lkF p.top c.sh c.st.length i)),(15,iv (Jd.lkS p.top c.sh c.st.length i)),(16,iv (En.lkP p.top c.sh c.st.length i)),(179,bF)] ?_))))))))))))))))))))))
 rw [show (decide (p.rz[r].pos=2)&&decide (0≤(Jd.lkS p.top c.sh c.st.length i)))=false from by rw [decide_eq_false hs19];rfl]
 exact tM T0
 refine Ze ?_
 by_cases hs23:(decide (p.rz[r].pos=2)&&decide (0≤(Jd.lkS p.top c.sh c.st.length i)))=true
 rw [hs23]
 refine kW 199 (ZaX c p.rz[r]) (Ze5 p c i) (jK (oS bF (jE (Zd ?_))))
 refine Zg Tryz.results26 (.tmp rfl) ?_
 exact cB ((by rw [En.en_4 hi (En.en_b hi hs4f).1 (En.pt_1 (En.or_f hs6f) hs15) (by have:=(En.or_f hs6f);have:=R.kd;omega)];unfold En.nbB;simp only [hs18f,hs23,decide_true,decide_false,Bool.and_true,Bool.true_and,Bool.false_and,Bool.and_false,Bool.true_or,Bool.false_or,Bool.or_true,Bool.or_false,Bool.not_true,Bool.not_false]))
 have hs23f:(decide (p.rz[r].pos=2)&&decide (0≤(Jd.lkS p.top c.sh c.st.length i)))=false:=by simpa using hs23
 rw [hs23f]
 refine kW 199 (ZaX c p.rz[r]) (Ze6 p c i) (jL (Zl ?_))
 by_cases hs24:(En.fitB c (Jd.lkF p.top c.sh c.st.length i) p.rz[r].left)=true
 by_cases hs25:(En.fitB c (Jd.lkS p.top c.sh c.st.length i) p.rz[r].right)=true
 refine Za (oW (oW (oW (oW (oK (Zr (Wn HC (Nat.le_trans (HL.rz _ (List.getElem_mem hr)).left (by decide)) hlk.1) hs24) [.agg (Rd.cCg c),Zb p.rz[r].left,iv (Jd.lkF p.top c.sh c.st.length i)] rfl rfl (oS bT (oW (oW (oW (oW (oK (Zr (Wn HC (Nat.le_trans (HL.rz _ (List.getElem_mem hr)).right (by decide)) hlk.2.1) hs25) [.agg (Rd.cCg c),Zb p.rz[r].right,iv (Jd.lkS p.top c.sh c.st.length i)] rfl rfl (oF bT (oW (oW (oW (oW (oK (Wn HC (Nat.le_trans (HL.rz _ (List.getElem_mem hr)).pz (by decide)) hlk.2.2) [.agg (Rd.cCg c),Zb p.rz[r].pz,iv (En.lkP p.top c.sh c.st.length i)] rfl rfl (oF (bv (En.fitB c (En.lkP p.top c.sh c.st.length i) p.rz[r].pz)) (jE ?_)))))))))))))))))))
 refine Zg Tryz.results26 (.tmp rfl) ?_
 exact cB ((by rw [En.en_4 hi (En.en_b hi hs4f).1 (En.pt_1 (En.or_f hs6f) hs15) (by have:=(En.or_f hs6f);have:=R.kd;omega)];unfold En.nbB;simp only [hs18f,hs23f,hs24,hs25,decide_true,decide_false,Bool.and_true,Bool.true_and,Bool.false_and,Bool.and_false,Bool.true_or,Bool.false_or,Bool.or_true,Bool.or_false,Bool.not_true,Bool.not_false]))
 have hs25f:(En.fitB c (Jd.lkS p.top c.sh c.st.length i) p.rz[r].right)=false:=by simpa using hs25
 refine Za (oW (oW (oW (oW (oK (Zr (Wn HC (Nat.le_trans (HL.rz _ (List.getElem_mem hr)).left (by decide)) hlk.1) hs24) [.agg (Rd.cCg c),Zb p.rz[r].left,iv (Jd.lkF p.top c.sh c.st.length i)] rfl rfl (oS bT (oW (oW (oW (oW (oK (Zr (Wn HC (Nat.le_trans (HL.rz _ (List.getElem_mem hr)).right (by decide)) hlk.2.1) hs25f) [.agg (Rd.cCg c),Zb p.rz[r].right,iv (Jd.lkS p.top c.sh c.st.length i)] rfl rfl (oF bF (qK (qK (qK (qK (qK (oF bF (jE ?_)))))))))))))))))))
 refine Zg Tryz.results26 (.tmp rfl) ?_
 exact cB ((by rw [En.en_4 hi (En.en_b hi hs4f).1 (En.pt_1 (En.or_f hs6f) hs15) (by have:=(En.or_f hs6f);have:=R.kd;omega)];unfold En.nbB;simp only [hs18f,hs23f,hs24,hs25f,decide_true,decide_false,Bool.and_true,Bool.true_and,Bool.false_and,Bool.and_false,Bool.true_or,Bool.false_or,Bool.or_true,Bool.or_false,Bool.not_true,Bool.not_false]))
 have hs24f:(En.fitB c (Jd.lkF p.top c.sh c.st.length i) p.rz[r].left)=false:=by simpa using hs24
 refine Za (oW (oW (oW (oW (oK (Zr (Wn HC (Nat.le_trans (HL.rz _ (List.getElem_mem hr)).left (by decide)) hlk.1) hs24f) [.agg (Rd.cCg c),Zb p.rz[r].left,iv (Jd.lkF p.top c.sh c.st.length i)] rfl rfl (oS bF (qK (qK (qK (qK (qK (oF bF (qK (qK (qK (qK (qK (oF bF (jE ?_)))))))))))))))))))
 refine Zg Tryz.results26 (.tmp rfl) ?_
 exact cB ((by rw [En.en_4 hi (En.en_b hi hs4f).1 (En.pt_1 (En.or_f hs6f) hs15) (by have:=(En.or_f hs6f);have:=R.kd;omega)];unfold En.nbB;simp only [hs18f,hs23f,hs24f,decide_true,decide_false,Bool.and_true,Bool.true_and,Bool.false_and,Bool.and_false,Bool.true_or,Bool.false_or,Bool.or_true,Bool.or_false,Bool.not_true,Bool.not_false]))
 refine Za (oW (on (dF' hs15) (jG (oS bF (jE (Zd ?_))))))
 refine Zg Tryz.results26 (.tmp rfl) ?_
 exact cB ((En.en_pt (En.pt_o (En.or_f hs6f) hs15)).symm)
namespace En
theorem vc_ok (h:Rd.vcE p n t f c=0):Ns.sysE p n t f=0∧Rd.rdX p n f c=true:=by
 unfold Rd.vcE at h
 split at h
 ·rename_i hs
  split at h
  ·rename_i hx;exact ⟨hs,hx⟩
  cases h
 rename_i hs;exact absurd h hs
theorem cf_len (h:CfV p n f c) (ha:1≤n∧n≤1048576∧0≤f∧f≤n) (h8:¬ 8<n):c.st.length≤8:=by
 have:=h.ln
 unfold Ns.cntE at this
 split at this<;>omega
end En
set_option maxRecDepth 100000 in
set_option maxHeartbeats 6400000 in
theorem ZbF (HL:FamLen p) (HC:Rd.CgOk c) (hc:En.CfV p n f c) (hv:valE p=0) (hf:0≤f∧f≤1048576) (hno:Rd.inW 0 ((p.rz.length:Int)-1) x=true→Rd.inW 0 ((c.st.length:Int)-1) y=false):Ctr Tryz.prog J 26 [.agg (cFm p),.agg (cSz n t f),.agg (Rd.cCg c),.agg [iv x,iv y,iv kp],bv fo] bF:=by
 have hz:=En.val_sizes hv
 have hlst:=HC.lst
 refine Zm Tryz.func26 rfl (pN (Zh (ZQ p)) (pN (Zh (Z0 n t f)) (pN (Zh (Rd.plain_cg c)) (pN (Zh (pN (.v _) (pN (.v _) (pN (.v _) pZ)))) (pN (.v _) pZ))))) (n:=199) rfl (by simp) (fun w0 => ?_)
 refine kW 199 [] [(0,.agg (cFm p)),(1,.agg (cSz n t f)),(2,.agg (Rd.cCg c)),(3,.agg [iv x,iv y,iv kp]),(4,bv fo)] (jB (oX 1 (.agg (cFm p)) (oX 2 (.agg (cSz n t f)) (oX 3 (.agg (Rd.cCg c)) (oX 4 (.agg [iv x,iv y,iv kp]) (oS bF (jD (Zl ?_))))))))
 by_cases hs1:(Rd.inW 0 ((p.rz.length:Int)-1) x)=true
 refine Za (oW (oW (oW (oF (iv p.rz.length) (oU ((p.rz.length:Int)-1) (oK (Zr Ku hs1) [iv x,iv 0,iv ((p.rz.length:Int)-1)] rfl rfl (oF bF (oW (oW (oW (oF (iv c.st.length) (oU ((c.st.length:Int)-1) (oK (Zr Ku (hno hs1)) [iv y,iv 0,iv ((c.st.length:Int)-1)] rfl rfl (oW (oS bT (jG (oS bF (jA ?_))))))))))))))))))
 refine jN ?_
 refine Zg Tryz.results26 (.tmp rfl) ?_
 exact rfl
 have hs1f:(Rd.inW 0 ((p.rz.length:Int)-1) x)=false:=by simpa using hs1
 refine Za (oW (oW (oW (oF (iv p.rz.length) (oU ((p.rz.length:Int)-1) (oK (Zr Ku hs1f) [iv x,iv 0,iv ((p.rz.length:Int)-1)] rfl rfl (oF bT (qK (qK (qK (qK (qK (qK (qK (qK (oS bT (jG (oS bF (Yi ?_)))))))))))))))))))
 refine Ze (jN ?_)
 refine Zg Tryz.results26 (.tmp rfl) ?_
 exact rfl
theorem En.inW_isP :Rd.inW 0 ((m:Int)-1) x=En.isP m x:=by
 unfold Rd.inW En.isP
 congr 1
 exact decide_eq_decide.2 (by omega)
theorem Zcj (HL:FamLen p) (HC:Rd.CgOk c) (hc:En.CfV p n f c) (hv:valE p=0) (hf:0≤f∧f≤1048576)  :Ctr Tryz.prog J 26 [.agg (cFm p),.agg (cSz n t f),.agg (Rd.cCg c),.agg [iv x,iv y,iv kp],bv fo] (bv (En.enB p n t f c (En.hdG p f c fo) x y kp)):=by
 by_cases h1:0≤x∧x<(p.rz.length:Int)
 ·by_cases h2:0≤y∧y<(c.st.length:Int)
  ·obtain ⟨r,rfl⟩:=Int.eq_ofNat_of_zero_le h1.1
   obtain ⟨i,rfl⟩:=Int.eq_ofNat_of_zero_le h2.1
   have hr:r<p.rz.length:=by omega
   have hi:i<c.st.length:=by omega
   have e:En.enB p n t f c (En.hdG p f c fo) (r:Int) (i:Int) kp=En.enR p.top n t f c (En.hdG p f c fo) p.rz[r] i kp:=by
    unfold En.enB
    rw [En.isP_nat hr,En.isP_nat hi,Int.toNat_natCast,Int.toNat_natCast,List.getD_eq_getElem?_getD,List.getElem?_eq_getElem hr]
    rfl
   rw [e]
   by_cases h3:p.top=1
   ·exact ZdK HL HC hc hv hf hr hi h3
   exact ZdJ HL HC hc hv hf hr hi h3
  have e:En.enB p n t f c (En.hdG p f c fo) x y kp=false:=by
   unfold En.enB
   rw [En.isP_no h2];simp
  rw [e]
  exact ZbF HL HC hc hv hf fun _=>by rw [En.inW_isP];exact En.isP_no h2
 have e:En.enB p n t f c (En.hdG p f c fo) x y kp=false:=by
  unfold En.enB
  rw [En.isP_no h1];rfl
 rw [e]
 exact ZbF HL HC hc hv hf fun h=>by rw [En.inW_isP,En.isP_no h1] at h;cases h
end Go.Proofs.YtdbehgbggaaipaaGreat
