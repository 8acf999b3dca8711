import Derived.Test.YtmobmhgobpipkaaGreatGrpdkhiphip
import Derived.Test.YtmobmhgobpipkaaGreatGrpmeogbljb
import Derived.Test.YtmobmhgobpipkaaGreatGrpngaglejp
import Derived.Test.YtmobmhgobpipkaaGreatGrpjinafgfm
import Derived.Test.YtmobmhgobpipkaaGreatGrpibegefhb
import Derived.Test.YtmobmhgobpipkaaGreatGrpalipmlph
set_option linter.all false
namespace Go.Proofs.YtmobmhgobpipkaaGreat
open Go.RowKit Go.Deep
set_option maxRecDepth 100000
set_option maxHeartbeats 6400000
variable {J:World→Prop}
theorem En.nbr {p:Fm} {n f:Int} {c:Cf} (hc:En.CfV p n f c) (hv:valE p=0) {r:Nat} (hr:r<p.rules.length) (hk:¬ p.rules[r].kind≤3) {i:Nat} (hi:i<c.st.length) :
    (0≤(Rd.shI p.top (Ns.shT p.top (Ns.cntE p n f)) c.sh)∧(Rd.shI p.top (Ns.shT p.top (Ns.cntE p n f)) c.sh)<(((En.shS p.top (Ns.cntE p n f).toNat).length:Nat):Int)∧(En.shS p.top (Ns.cntE p n f).toNat)[((Rd.shI p.top (Ns.shT p.top (Ns.cntE p n f)) c.sh)).toNat]? = some c.sh) ∧
    (Jd.lkF p.top c.sh c.st.length i<((c.st.length:Nat):Int)∧Jd.lkS p.top c.sh c.st.length i<((c.st.length:Nat):Int)∧En.lkP p.top c.sh c.st.length i<((c.st.length:Nat):Int)):=by
  have R:=En.val_in hv (List.getElem_mem hr)
  have h1:¬ p.top=1:=fun e=>hk (R.kt.2 e)
  have ht:=Jd.top_in hv
  have h0:0≤Ns.cntE p n f:=by have:=hc.ln;omega
  exact ⟨En.shI_at hc h1 ht h0,En.lk_ok hc h1 ht hi⟩
theorem En.isP_nat {m i:Nat} (h:i<m):En.isP m ((i:Nat):Int)=true:=by unfold En.isP;rw [decide_eq_true (by omega),decide_eq_true (by omega)];rfl
theorem enabled_in {p:Fm} (HL:FamLen p) {n t f:Int} {c:Cf} (hc:En.CfV p n f c) (hv:valE p=0) (l8:c.st.length≤8) {r:Nat} (hr:r<p.rules.length) {i:Nat} (hi:i<c.st.length) {kp:Int} {g:Nat→Int} (hg:∀ m,0≤g m∧g m≤3000000):Ctr Tryz.prog J 27 [.el (En.sysP p n t f) 0,.agg (En.cfV (Rd.shI p.top (Ns.shT p.top (Ns.cntE p n f)) c.sh) c),.agg [iv r,iv i,iv kp],.agg (En.msA g)] (bv (En.enR p.top n t f c g p.rules[r] i kp)):=by
 have R:=En.val_in hv (List.getElem_mem hr)
 have hz:=En.val_sizes hv
 have hn:=hc.ln.symm
 have hnN:(Ns.cntE p n f).toNat=c.st.length:=by omega
 have hle:=(HL.rules _ (List.getElem_mem hr)).ex
 have hlf:=(HL.rules _ (List.getElem_mem hr)).fa
 refine Zw Tryz.func27 rfl (by intro X hX;simp only [List.mem_cons,List.not_mem_nil,or_false] at hX;rcases hX with rfl | rfl | rfl | rfl;exact (show Plain (.el (En.sysP p n t f) 0) from .el (Ya (En.plain_sysP p n t f)));exact Zq (En.plain_cfV _ c);exact Zq (fun X hX=>by simp only [List.mem_cons,List.not_mem_nil,or_false] at hX;rcases hX with rfl | rfl | rfl<;>exact .v _);exact Zq (En.plain_msA _)) (n:=94) rfl (by simp) (fun w0 => ?_)
 refine kW 94 [] [(0,.el (En.sysP p n t f) 0),(1,.agg (En.cfV (Rd.shI p.top (Ns.shT p.top (Ns.cntE p n f)) c.sh) c)),(2,.agg [iv r,iv i,iv kp]),(3,.agg (En.msA g))] (Zb (Za (oA (Yo (X := .agg (En.cfV (Rd.shI p.top (Ns.shT p.top (Ns.cntE p n f)) c.sh) c)) (.tmp 1) rfl rfl rfl) I0 (oA (Yo (X := .agg [iv r,iv i,iv kp]) (.tmp 2) rfl rfl rfl) I0 (oA (Yo (X := .agg (En.msA g)) (.tmp 3) rfl rfl rfl) I0 (pM (aC (.bool false)) (Zd (Zc (Zb (Zb ?_))))))))))
 refine Zs (dA (fe 0 6 U35 1) I0 (dA (lE (iv r) 10 U3) I0 (dC (ZW rfl (dF (by omega))) I0 I0 (dM (mT 12 bF) (dA (fe 0 6 U35 1) I0 (dA (lE (iv r) 14 U3) I0 (dM (mT 0 (.el (En.sysP p n t f) 0)) (dA (Zz (off:=0) (.tmp 16) rfl) I0 (dA (fe 0 17 U105 10) I0 (dA (fe 9 18 U27 1) I0 (dA (lE (slA 18 cRu p.rules) 19 U25) I0 (dA (nS 20 U25) I0 (dC (YI rfl (dF (by omega))) I0 I0 (dP (pk false bT bF rfl) (dM (mT 23 bF) (dM (mT 0 (.el (En.sysP p n t f) 0)) (dA (fe 1 6 U35 1) I0 (dA (lE (iv i) 26 U3) I0 (dD (sc #[.tmp 25,.tmp 27] [] (ZA (isProc_c hn) (En.isP_nat hi)) [.el (En.sysP p n t f) 0,iv i] rfl rfl rfl) I0 I0 I0 (dA (Zr rfl rfl) I0 (dP (pk false bT bF rfl) (dE ?_)))))))))))))))))))))) (by kernel_rfl)
 show ETri J w0 _ _ _
 refine kW 94 [] [(0,.el (En.sysP p n t f) 0),(5,.el (En.cfV (Rd.shI p.top (Ns.shT p.top (Ns.cntE p n f)) c.sh) c) 0),(6,.el ([iv r,iv i,iv kp]) 0),(7,.el (En.msA g) 0),(8,bF),(30,bF)] (Zc (Zn rfl (Zi (Zc (Zb ?_)))))
 refine Zs (dM (mT 0 (.el (En.sysP p n t f) 0)) (dA (Zz (off:=0) (.tmp 31) rfl) I0 (dA (fe 0 32 U105 10) I0 (dA (fe 9 33 U27 1) I0 (dA (lE (slA 18 cRu p.rules) 34 U25) I0 (dA (fe 0 6 U35 1) I0 (dA (lE (iv r) 36 U3) I0 (dC (xS (r*18) 35 37 U25) I0 I0 (dM (aT 38 (.el (p.rules.flatMap cRu) (r*18))) (dE ?_)))))))))) (by kernel_rfl)
 show ETri J w0 _ _ _
 refine kW 94 [] [(0,.el (En.sysP p n t f) 0),(5,.el (En.cfV (Rd.shI p.top (Ns.shT p.top (Ns.cntE p n f)) c.sh) c) 0),(6,.el ([iv r,iv i,iv kp]) 0),(7,.el (En.msA g) 0),(8,bF),(9,.el (p.rules.flatMap cRu) (r*18))] (Zc (Zb (Zb ?_)))
 by_cases hs1:(c.st.getD i 0)=p.rules[r].frm
 by_cases hs2:(En.ptB c p.rules[r] i kp)=true
 refine Zs (dA (fe 1 6 U35 1) I0 (dA (lE (iv i) 39 U3) I0 (dA (fe 1 5 U70 8) I0 (dC (Yg (off':=1+i*1) (.tmp 41) (.tmp 40) rfl U66 (by kernel_rfl) (by omega) (by omega) rfl) I0 I0 (dA (lE (iv (c.st.getD i 0)) 42 U3 (En.cfV_st (by omega))) I0 (dM (mT 9 (.el (p.rules.flatMap cRu) (r*18))) (dA (Zz (off:=r*18) (.tmp 44) rfl) I0 (dA (fe (r*18+2) 45 U57 1) I0 (dA (lE (iv p.rules[r].frm) 46 U3 ((ZH lenRu p.rules r 2 (by omega) (by decide)).trans rfl)) I0 (dC (Zv rfl (dT' hs1)) I0 I0 (dM (mT 48 bF) (dM (mT 0 (.el (En.sysP p n t f) 0)) (dA (ZC (z:=16) (.tmp 5) rfl U70 rfl (by kernel_rfl) rfl rfl) I0 (dM (mT 9 (.el (p.rules.flatMap cRu) (r*18))) (dA (ZC (z:=3) (.tmp 6) rfl U35 rfl (by kernel_rfl) rfl rfl) I0 (dR (sc #[.tmp 50,.tmp 51,.tmp 52,.tmp 53] [] (ZA (partFits_c hn l8 hr hi) hs2) [.el (En.sysP p n t f) 0,.agg (En.cfV (Rd.shI p.top (Ns.shT p.top (Ns.cntE p n f)) c.sh) c),.el (p.rules.flatMap cRu) (r*18),.agg ([iv r,iv i,iv kp])] rfl rfl rfl) ⟨I0,I0,I0,I0,I0,T0⟩ T0 T0 (dA (Zr rfl rfl) I0 (dP (pk false bT bF rfl) (dE ?_))))))))))))))))))) (by kernel_rfl)
 show ETri J w0 _ _ _
 refine kW 94 [] [(0,.el (En.sysP p n t f) 0),(5,.el (En.cfV (Rd.shI p.top (Ns.shT p.top (Ns.cntE p n f)) c.sh) c) 0),(6,.el ([iv r,iv i,iv kp]) 0),(7,.el (En.msA g) 0),(8,bF),(9,.el (p.rules.flatMap cRu) (r*18)),(56,bF)] (Zc (Zn rfl (Zi (Zc (Zb (Zb (Za (pM (mT 9 (.el (p.rules.flatMap cRu) (r*18))) (oA (Zz (off:=r*18) (.tmp 57) rfl) I0 (oA (fe (r*18+1) 58 U57 1) I0 (oA (lE (iv p.rules[r].kind) 59 U3 ((ZH lenRu p.rules r 1 (by omega) (by decide)).trans rfl)) I0 (Zd (Zc (Zy (Zb ?_)))))))))))))))
 by_cases hs3:p.rules[r].kind=1
 refine Za (oC (Zp rfl (dT hs3)) I0 I0 (pM (aT 62 bT) (Zd (Zc (Zm rfl (Zb (Za (pM (mT 0 (.el (En.sysP p n t f) 0)) (oA (ZC (z:=16) (.tmp 5) rfl U70 rfl (by kernel_rfl) rfl rfl) I0 (oA (ZC (z:=3) (.tmp 6) rfl U35 rfl (by kernel_rfl) rfl rfl) I0 (oA (ZC (z:=3) (.tmp 7) rfl U68 rfl (by kernel_rfl) rfl rfl) I0 (ZM rfl (sc #[.tmp 63,.tmp 64,.tmp 65,.tmp 66] [] (localH_c hn l8 hr hi hg hz.1 hz.2.2.1 R.gl R.gd (Nat.le_trans hle (by decide)) (Nat.le_trans hlf (by decide))) [.el (En.sysP p n t f) 0,.agg (En.cfV (Rd.shI p.top (Ns.shT p.top (Ns.cntE p n f)) c.sh) c),.agg ([iv r,iv i,iv kp]),.agg (En.msA g)] rfl rfl rfl) ⟨I0,I0,I0,I0,I0,T0⟩ T0 T0 (pM (aT 67 (bv (En.loB n t f c p.rules[r] g i))) (Zd (Zc (Zl (Zu (Zf ?_))))))))))))))))))
 refine Zh Tryz.results27 (.tmp rfl) ?_
 exact congrArg (fun x:Bool=>AV.v (.bool x)) ((by unfold En.enR;rw [if_pos hs3];simp only [dT hs1,hs2,decide_true,decide_false,Bool.and_true,Bool.true_and,Bool.false_and,Bool.and_false,Bool.true_or,Bool.false_or,Bool.or_true,Bool.or_false,Bool.not_true,Bool.not_false]))
 refine Za (oC (Zp rfl (dF hs3)) I0 I0 (pM (aT 62 bF) (Zd (Zc (Zn rfl (Zb ?_))))))
 by_cases hs4:p.rules[r].kind=4
 refine Za (oC (Zp rfl (dT hs4)) I0 I0 (pM (aT 69 bT) (Zd (Zc (Zm rfl (Zb (Za (pM (mT 0 (.el (En.sysP p n t f) 0)) (oA (ZC (z:=16) (.tmp 5) rfl U70 rfl (by kernel_rfl) rfl rfl) I0 (oA (ZC (z:=3) (.tmp 6) rfl U35 rfl (by kernel_rfl) rfl rfl) I0 (ZM rfl (sc #[.tmp 70,.tmp 71,.tmp 72] [] (neighH_c hnN l8 hr hi (kp:=kp) (HL.rules _ (List.getElem_mem hr)) (En.nbr hc hv hr (by have:=hs4;omega) hi).1.1 (En.nbr hc hv hr (by have:=hs4;omega) hi).1.2.1 (En.nbr hc hv hr (by have:=hs4;omega) hi).1.2.2 (En.nbr hc hv hr (by have:=hs4;omega) hi).2) [.el (En.sysP p n t f) 0,.agg (En.cfV (Rd.shI p.top (Ns.shT p.top (Ns.cntE p n f)) c.sh) c),.agg ([iv r,iv i,iv kp])] rfl rfl rfl) ⟨I0,I0,I0,I0,T0⟩ T0 T0 (pM (aT 73 (bv (En.nbB p.top c p.rules[r] i))) (Zd (Zc (Zl (Zu (Zf ?_)))))))))))))))))
 refine Zh Tryz.results27 (.tmp rfl) ?_
 exact congrArg (fun x:Bool=>AV.v (.bool x)) ((by unfold En.enR;rw [if_neg hs3,if_pos hs4];simp only [dT hs1,hs2,decide_true,decide_false,Bool.and_true,Bool.true_and,Bool.false_and,Bool.and_false,Bool.true_or,Bool.false_or,Bool.or_true,Bool.or_false,Bool.not_true,Bool.not_false]))
 refine Za (oC (Zp rfl (dF hs4)) I0 I0 (pM (aT 69 bF) (Zd (Zc (Zn rfl (Zb ?_))))))
 by_cases hs5:p.rules[r].kind=5
 refine Za (oC (Zp rfl (dT hs5)) I0 I0 (pM (aT 75 bT) (Zd (Zc (Zm rfl (Zb (Za (pM (mT 0 (.el (En.sysP p n t f) 0)) (oA (ZC (z:=16) (.tmp 5) rfl U70 rfl (by kernel_rfl) rfl rfl) I0 (oA (ZC (z:=3) (.tmp 6) rfl U35 rfl (by kernel_rfl) rfl rfl) I0 (ZM rfl (sc #[.tmp 76,.tmp 77,.tmp 78] [] (passH_c hnN l8 hr hi (HL.rules _ (List.getElem_mem hr)) (En.nbr hc hv hr (by have:=hs5;omega) hi).1.1 (En.nbr hc hv hr (by have:=hs5;omega) hi).1.2.1 (En.nbr hc hv hr (by have:=hs5;omega) hi).1.2.2 (En.nbr hc hv hr (by have:=hs5;omega) hi).2) [.el (En.sysP p n t f) 0,.agg (En.cfV (Rd.shI p.top (Ns.shT p.top (Ns.cntE p n f)) c.sh) c),.agg ([iv r,iv i,iv kp])] rfl rfl rfl) ⟨I0,I0,I0,I0,T0⟩ T0 T0 (pM (aT 79 (bv (En.psB p.top c p.rules[r] i kp))) (Zd (Zc (Zl (Zu (Zf ?_)))))))))))))))))
 refine Zh Tryz.results27 (.tmp rfl) ?_
 exact congrArg (fun x:Bool=>AV.v (.bool x)) ((by unfold En.enR;rw [if_neg hs3,if_neg hs4,if_pos hs5];simp only [dT hs1,hs2,decide_true,decide_false,Bool.and_true,Bool.true_and,Bool.false_and,Bool.and_false,Bool.true_or,Bool.false_or,Bool.or_true,Bool.or_false,Bool.not_true,Bool.not_false]))
 refine Za (oC (Zp rfl (dF hs5)) I0 I0 (pM (aT 75 bF) (Zd (Zc (Zn rfl (Zi (ZL (Zc (Zb ?_)))))))))
 by_cases hs6:p.rules[r].rd<0
 refine Zs (dM (mT 9 (.el (p.rules.flatMap cRu) (r*18))) (dA (Zz (off:=r*18) (.tmp 80) rfl) I0 (dA (fe (r*18+10) 81 U57 1) I0 (dA (lE (iv p.rules[r].rd) 82 U3 ((ZH lenRu p.rules r 10 (by omega) (by decide)).trans rfl)) I0 (dC (ZW rfl (dT hs6)) I0 I0 (dM (mT 84 bT) (dK (dK (dK (dK (dK (dK (dK (dP (pk true bT (.v (.tuple #[])) rfl) (dM (aT 93 bT) (dE ?_)))))))))))))))) (by kernel_rfl)
 show ETri J w0 _ _ _
 refine Zc (Zl ?_)
 refine Zh Tryz.results27 (.tmp rfl) ?_
 exact congrArg (fun x:Bool=>AV.v (.bool x)) ((by unfold En.enR;rw [if_neg hs3,if_neg hs4,if_neg hs5];simp only [dT hs1,hs2,dT hs6,decide_true,decide_false,Bool.and_true,Bool.true_and,Bool.false_and,Bool.and_false,Bool.true_or,Bool.false_or,Bool.or_true,Bool.or_false,Bool.not_true,Bool.not_false]))
 refine Zs (dM (mT 9 (.el (p.rules.flatMap cRu) (r*18))) (dA (Zz (off:=r*18) (.tmp 80) rfl) I0 (dA (fe (r*18+10) 81 U57 1) I0 (dA (lE (iv p.rules[r].rd) 82 U3 ((ZH lenRu p.rules r 10 (by omega) (by decide)).trans rfl)) I0 (dC (ZW rfl (dF hs6)) I0 I0 (dM (mT 84 bF) (dA (fe 15 5 U70 1) I0 (dA (lE (iv c.val) 86 U3) I0 (dM (mT 9 (.el (p.rules.flatMap cRu) (r*18))) (dA (Zz (off:=r*18) (.tmp 88) rfl) I0 (dA (fe (r*18+10) 89 U57 1) I0 (dA (lE (iv p.rules[r].rd) 90 U3 ((ZH lenRu p.rules r 10 (by omega) (by decide)).trans rfl)) I0 (dC (Zp rfl rfl) I0 I0 (dP (pk false bT (bv (decide (c.val=p.rules[r].rd))) rfl) (dM (aT 93 (bv (decide (c.val=p.rules[r].rd)))) (dE ?_)))))))))))))))) (by kernel_rfl)
 show ETri J w0 _ _ _
 refine Zc (Zl ?_)
 refine Zh Tryz.results27 (.tmp rfl) ?_
 exact congrArg (fun x:Bool=>AV.v (.bool x)) ((by unfold En.enR;rw [if_neg hs3,if_neg hs4,if_neg hs5];simp only [dT hs1,hs2,dF hs6,decide_true,decide_false,Bool.and_true,Bool.true_and,Bool.false_and,Bool.and_false,Bool.true_or,Bool.false_or,Bool.or_true,Bool.or_false,Bool.not_true,Bool.not_false]))
 have hs2f:(En.ptB c p.rules[r] i kp)=false:=by simpa using hs2
 refine Zs (dA (fe 1 6 U35 1) I0 (dA (lE (iv i) 39 U3) I0 (dA (fe 1 5 U70 8) I0 (dC (Yg (off':=1+i*1) (.tmp 41) (.tmp 40) rfl U66 (by kernel_rfl) (by omega) (by omega) rfl) I0 I0 (dA (lE (iv (c.st.getD i 0)) 42 U3 (En.cfV_st (by omega))) I0 (dM (mT 9 (.el (p.rules.flatMap cRu) (r*18))) (dA (Zz (off:=r*18) (.tmp 44) rfl) I0 (dA (fe (r*18+2) 45 U57 1) I0 (dA (lE (iv p.rules[r].frm) 46 U3 ((ZH lenRu p.rules r 2 (by omega) (by decide)).trans rfl)) I0 (dC (Zv rfl (dT' hs1)) I0 I0 (dM (mT 48 bF) (dM (mT 0 (.el (En.sysP p n t f) 0)) (dA (ZC (z:=16) (.tmp 5) rfl U70 rfl (by kernel_rfl) rfl rfl) I0 (dM (mT 9 (.el (p.rules.flatMap cRu) (r*18))) (dA (ZC (z:=3) (.tmp 6) rfl U35 rfl (by kernel_rfl) rfl rfl) I0 (dR (sc #[.tmp 50,.tmp 51,.tmp 52,.tmp 53] [] (ZA (partFits_c hn l8 hr hi) hs2f) [.el (En.sysP p n t f) 0,.agg (En.cfV (Rd.shI p.top (Ns.shT p.top (Ns.cntE p n f)) c.sh) c),.el (p.rules.flatMap cRu) (r*18),.agg ([iv r,iv i,iv kp])] rfl rfl rfl) ⟨I0,I0,I0,I0,I0,T0⟩ T0 T0 (dA (Zr rfl rfl) I0 (dP (pk false bT bT rfl) (dE ?_))))))))))))))))))) (by kernel_rfl)
 show ETri J w0 _ _ _
 refine kW 94 [] [(0,.el (En.sysP p n t f) 0),(5,.el (En.cfV (Rd.shI p.top (Ns.shT p.top (Ns.cntE p n f)) c.sh) c) 0),(6,.el ([iv r,iv i,iv kp]) 0),(7,.el (En.msA g) 0),(8,bF),(9,.el (p.rules.flatMap cRu) (r*18)),(56,bT)] (Zc (Zm rfl (Zb (Za (pM (aC (.bool false)) (Zd (Zc (Zl (Zf ?_)))))))))
 refine Zh Tryz.results27 (.tmp rfl) ?_
 exact congrArg (fun x:Bool=>AV.v (.bool x)) ((by unfold En.enR;simp only [dT hs1,hs2f,decide_true,decide_false,Bool.and_true,Bool.true_and,Bool.false_and,Bool.and_false,Bool.true_or,Bool.false_or,Bool.or_true,Bool.or_false,Bool.not_true,Bool.not_false]))
 refine Zs (dA (fe 1 6 U35 1) I0 (dA (lE (iv i) 39 U3) I0 (dA (fe 1 5 U70 8) I0 (dC (Yg (off':=1+i*1) (.tmp 41) (.tmp 40) rfl U66 (by kernel_rfl) (by omega) (by omega) rfl) I0 I0 (dA (lE (iv (c.st.getD i 0)) 42 U3 (En.cfV_st (by omega))) I0 (dM (mT 9 (.el (p.rules.flatMap cRu) (r*18))) (dA (Zz (off:=r*18) (.tmp 44) rfl) I0 (dA (fe (r*18+2) 45 U57 1) I0 (dA (lE (iv p.rules[r].frm) 46 U3 ((ZH lenRu p.rules r 2 (by omega) (by decide)).trans rfl)) I0 (dC (Zv rfl (dF' hs1)) I0 I0 (dM (mT 48 bT) (dK (dK (dK (dK (dK (dK (dP (pk true bT (.v (.tuple #[])) rfl) (dE ?_))))))))))))))))))) (by kernel_rfl)
 show ETri J w0 _ _ _
 refine kW 94 [] [(0,.el (En.sysP p n t f) 0),(5,.el (En.cfV (Rd.shI p.top (Ns.shT p.top (Ns.cntE p n f)) c.sh) c) 0),(6,.el ([iv r,iv i,iv kp]) 0),(7,.el (En.msA g) 0),(8,bF),(9,.el (p.rules.flatMap cRu) (r*18)),(56,bT)] (Zc (Zm rfl (Zb (Za (pM (aC (.bool false)) (Zd (Zc (Zl (Zf ?_)))))))))
 refine Zh Tryz.results27 (.tmp rfl) ?_
 exact congrArg (fun x:Bool=>AV.v (.bool x)) ((by unfold En.enR;simp only [dF hs1,decide_true,decide_false,Bool.and_true,Bool.true_and,Bool.false_and,Bool.and_false,Bool.true_or,Bool.false_or,Bool.or_true,Bool.or_false,Bool.not_true,Bool.not_false]))
theorem enabled_no {p:Fm} (HL:FamLen p) {n t f:Int} {c:Cf} (hc:En.CfV p n f c) (hv:valE p=0) (l8:c.st.length≤8) {x y kp:Int} (hno:(0≤x∧x<((p.rules.length:Nat):Int))→En.isP c.st.length y=false) {g:Nat→Int}:Ctr Tryz.prog J 27 [.el (En.sysP p n t f) 0,.agg (En.cfV (Rd.shI p.top (Ns.shT p.top (Ns.cntE p n f)) c.sh) c),.agg [iv x,iv y,iv kp],.agg (En.msA g)] bF:=by
 have hn:=hc.ln.symm
 have hz:=En.val_sizes hv
 refine Zw Tryz.func27 rfl (by intro X hX;simp only [List.mem_cons,List.not_mem_nil,or_false] at hX;rcases hX with rfl | rfl | rfl | rfl;exact (show Plain (.el (En.sysP p n t f) 0) from .el (Ya (En.plain_sysP p n t f)));exact Zq (En.plain_cfV _ c);exact Zq (fun X hX=>by simp only [List.mem_cons,List.not_mem_nil,or_false] at hX;rcases hX with rfl | rfl | rfl<;>exact .v _);exact Zq (En.plain_msA _)) (n:=94) rfl (by simp) (fun w0 => ?_)
 refine kW 94 [] [(0,.el (En.sysP p n t f) 0),(1,.agg (En.cfV (Rd.shI p.top (Ns.shT p.top (Ns.cntE p n f)) c.sh) c)),(2,.agg [iv x,iv y,iv kp]),(3,.agg (En.msA g))] (Zb (Za (oA (Yo (X := .agg (En.cfV (Rd.shI p.top (Ns.shT p.top (Ns.cntE p n f)) c.sh) c)) (.tmp 1) rfl rfl rfl) I0 (oA (Yo (X := .agg [iv x,iv y,iv kp]) (.tmp 2) rfl rfl rfl) I0 (oA (Yo (X := .agg (En.msA g)) (.tmp 3) rfl rfl rfl) I0 (pM (aC (.bool false)) (Zd (Zc (Zb (Zb ?_))))))))))
 by_cases hs1:x<0
 refine Zs (dA (fe 0 6 U35 1) I0 (dA (lE (iv x) 10 U3) I0 (dC (ZW rfl (dT hs1)) I0 I0 (dM (mT 12 bT) (dK (dK (dK (dK (dK (dK (dK (dK (dK (dP (pk true bT (.v (.tuple #[])) rfl) (dM (mT 23 bT) (dK (dK (dK (dK (dK (dP (pk true bT (.v (.tuple #[])) rfl) (dE ?_)))))))))))))))))))))) (by kernel_rfl)
 show ETri J w0 _ _ _
 refine kW 94 [] [(0,.el (En.sysP p n t f) 0),(5,.el (En.cfV (Rd.shI p.top (Ns.shT p.top (Ns.cntE p n f)) c.sh) c) 0),(6,.el ([iv x,iv y,iv kp]) 0),(7,.el (En.msA g) 0),(8,bF),(30,bT)] (Zc (Zm rfl (Zb (Za (pM (aC (.bool false)) (Zd (Zc (Zl (Zf ?_)))))))))
 refine Zh Tryz.results27 (.tmp rfl) ?_
 exact rfl
 by_cases hs2:((p.rules.length:Nat):Int)≤x
 refine Zs (dA (fe 0 6 U35 1) I0 (dA (lE (iv x) 10 U3) I0 (dC (ZW rfl (dF hs1)) I0 I0 (dM (mT 12 bF) (dA (fe 0 6 U35 1) I0 (dA (lE (iv x) 14 U3) I0 (dM (mT 0 (.el (En.sysP p n t f) 0)) (dA (Zz (off:=0) (.tmp 16) rfl) I0 (dA (fe 0 17 U105 10) I0 (dA (fe 9 18 U27 1) I0 (dA (lE (slA 18 cRu p.rules) 19 U25) I0 (dA (nS 20 U25) I0 (dC (YI rfl (dT hs2)) I0 I0 (dP (pk false bT bT rfl) (dM (mT 23 bT) (dK (dK (dK (dK (dK (dP (pk true bT (.v (.tuple #[])) rfl) (dE ?_)))))))))))))))))))))) (by kernel_rfl)
 show ETri J w0 _ _ _
 refine kW 94 [] [(0,.el (En.sysP p n t f) 0),(5,.el (En.cfV (Rd.shI p.top (Ns.shT p.top (Ns.cntE p n f)) c.sh) c) 0),(6,.el ([iv x,iv y,iv kp]) 0),(7,.el (En.msA g) 0),(8,bF),(30,bT)] (Zc (Zm rfl (Zb (Za (pM (aC (.bool false)) (Zd (Zc (Zl (Zf ?_)))))))))
 refine Zh Tryz.results27 (.tmp rfl) ?_
 exact rfl
 refine Zs (dA (fe 0 6 U35 1) I0 (dA (lE (iv x) 10 U3) I0 (dC (ZW rfl (dF hs1)) I0 I0 (dM (mT 12 bF) (dA (fe 0 6 U35 1) I0 (dA (lE (iv x) 14 U3) I0 (dM (mT 0 (.el (En.sysP p n t f) 0)) (dA (Zz (off:=0) (.tmp 16) rfl) I0 (dA (fe 0 17 U105 10) I0 (dA (fe 9 18 U27 1) I0 (dA (lE (slA 18 cRu p.rules) 19 U25) I0 (dA (nS 20 U25) I0 (dC (YI rfl (dF hs2)) I0 I0 (dP (pk false bT bF rfl) (dM (mT 23 bF) (dM (mT 0 (.el (En.sysP p n t f) 0)) (dA (fe 1 6 U35 1) I0 (dA (lE (iv y) 26 U3) I0 (dD (sc #[.tmp 25,.tmp 27] [] (ZA (isProc_c hn) (hno (by have:=hs1;have:=hs2;omega))) [.el (En.sysP p n t f) 0,iv y] rfl rfl rfl) I0 I0 I0 (dA (Zr rfl rfl) I0 (dP (pk false bT bT rfl) (dE ?_)))))))))))))))))))))) (by kernel_rfl)
 show ETri J w0 _ _ _
 refine kW 94 [] [(0,.el (En.sysP p n t f) 0),(5,.el (En.cfV (Rd.shI p.top (Ns.shT p.top (Ns.cntE p n f)) c.sh) c) 0),(6,.el ([iv x,iv y,iv kp]) 0),(7,.el (En.msA g) 0),(8,bF),(30,bT)] (Zc (Zm rfl (Zb (Za (pM (aC (.bool false)) (Zd (Zc (Zl (Zf ?_)))))))))
 refine Zh Tryz.results27 (.tmp rfl) ?_
 exact rfl
theorem En.isP_no {m:Nat} {x:Int} (h:¬ (0≤x∧x<((m:Nat):Int))):En.isP m x=false:=by
  unfold En.isP
  rw [Bool.and_eq_false_iff,decide_eq_false_iff_not,decide_eq_false_iff_not]
  omega
theorem enabled_c {p:Fm} (HL:FamLen p) {n t f:Int} {c:Cf} (hc:En.CfV p n f c) (hv:valE p=0) (l8:c.st.length≤8) {x y kp:Int} {g:Nat→Int} (hg:∀ m,0≤g m∧g m≤3000000):Ctr Tryz.prog J 27 [.el (En.sysP p n t f) 0,.agg (En.cfV (Rd.shI p.top (Ns.shT p.top (Ns.cntE p n f)) c.sh) c),.agg [iv x,iv y,iv kp],.agg (En.msA g)] (bv (En.enB p n t f c g x y kp)):=by
  by_cases h1:0≤x∧x<((p.rules.length:Nat):Int)
  · by_cases h2:0≤y∧y<((c.st.length:Nat):Int)
    · obtain ⟨r,rfl⟩:=Int.eq_ofNat_of_zero_le h1.1
      obtain ⟨i,rfl⟩:=Int.eq_ofNat_of_zero_le h2.1
      have hr:r<p.rules.length:=by omega
      have hi:i<c.st.length:=by omega
      have e:En.enB p n t f c g ((r:Nat):Int) ((i:Nat):Int) kp=En.enR p.top n t f c g p.rules[r] i kp:=by
        unfold En.enB
        rw [En.isP_nat hr,En.isP_nat hi,Int.toNat_natCast,Int.toNat_natCast,List.getD_eq_getElem?_getD,List.getElem?_eq_getElem hr]
        rfl
      rw [e]
      exact enabled_in HL hc hv l8 hr hi hg
    have e:En.enB p n t f c g x y kp=false:=by
      unfold En.enB
      rw [En.isP_no h2];simp
    rw [e]
    exact enabled_no HL hc hv l8 fun _=>En.isP_no h2
  have e:En.enB p n t f c g x y kp=false:=by
    unfold En.enB
    rw [En.isP_no h1];rfl
  rw [e]
  exact enabled_no HL hc hv l8 fun h=>absurd h h1
namespace En
theorem vc_ok {p:Fm} {n t f:Int} {c:Cf} (h:Rd.vcE p n t f c=0):Ns.sysE p n t f=0∧Rd.rdX p n f c=true:=by
  unfold Rd.vcE at h
  split at h
  · rename_i hs
    split at h
    · rename_i hx;exact ⟨hs,hx⟩
    cases h
  rename_i hs;exact absurd h hs
theorem cf_len {p:Fm} {n f:Int} {c:Cf} (h:CfV p n f c) (ha:1≤n∧n≤1048576∧0≤f∧f≤n) (h8:¬ 8<n):c.st.length≤8:=by
  have:=h.ln
  unfold Ns.cntE at this
  split at this<;>omega
end En
namespace En
def fpB (p:Fm) (n t f:Int) (c:Cf) (g:Nat→Int) (x y:Int) (j:Nat):Bool:=enB p n t f c g x y (((j:Nat):Int)-1)
def frB (p:Fm) (n t f:Int) (c:Cf) (g:Nat→Int) (x y:Int):Bool:=decide (y<n-f)&&(List.range (c.st.length+1)).any (fpB p n t f c g x y)
def noE (p:Fm) (n t f:Int) (c:Cf) (g:Nat→Int) (x y:Int) (J:Nat):Prop:=∀ j,j<J→fpB p n t f c g x y j=false
theorem noE_zero {p:Fm} {n t f:Int} {c:Cf} {g:Nat→Int} {x y:Int}:noE p n t f c g x y 0:=fun _ h=>absurd h (by omega)
theorem noE_succ {p:Fm} {n t f:Int} {c:Cf} {g:Nat→Int} {x y:Int} {J:Nat} (h:noE p n t f c g x y J) (e:enB p n t f c g x y (((J:Nat):Int)-1)=false):noE p n t f c g x y (J+1):=fun j hj=>by
  by_cases a:j=J
  · subst a;exact e
  exact h j (by omega)
theorem fr_lo {p:Fm} {n t f:Int} {c:Cf} {g:Nat→Int} {x y:Int} (h:n-f≤y):frB p n t f c g x y=false:=by unfold frB;rw [decide_eq_false (by omega)];rfl
theorem fr_yes {p:Fm} {n t f:Int} {c:Cf} {g:Nat→Int} {x y:Int} {j:Nat} (h:¬ n-f≤y) (hj:j<c.st.length+1) (e:enB p n t f c g x y (((j:Nat):Int)-1)=true):frB p n t f c g x y=true:=by
  have:(List.range (c.st.length+1)).any (fpB p n t f c g x y)=true:=List.any_eq_true.2 ⟨j,List.mem_range.2 hj,e⟩
  unfold frB;rw [decide_eq_true (by omega),this];rfl
theorem fr_no {p:Fm} {n t f:Int} {c:Cf} {g:Nat→Int} {x y:Int} {j:Nat} (hj:¬ j<c.st.length+1) (h:noE p n t f c g x y j):frB p n t f c g x y=false:=by
  have:(List.range (c.st.length+1)).any (fpB p n t f c g x y)=false:=List.any_eq_false.2 fun z hz=>by
    have:=h z (by have:=List.mem_range.1 hz;omega)
    simp [this]
  unfold frB;rw [this];simp
def faR (p:Fm) (n t f:Int) (c:Cf) (x y:Int):Bool:=if Rd.vcE p n t f c=0 then frB p n t f c (hdG p f c true) x y else false
end En
theorem forced_c {p:Fm} (HL:FamLen p) {n t f:Int} {c:Cf} (hc:En.CfV p n f c) (hv:valE p=0) (l8:c.st.length≤8) {x y:Int} {g:Nat→Int} (hg:∀ m,0≤g m∧g m≤3000000):Ctr Tryz.prog J 31 [.el (En.sysP p n t f) 0,.agg (En.cfV (Rd.shI p.top (Ns.shT p.top (Ns.cntE p n f)) c.sh) c),iv x,iv y,.agg (En.msA g)] (bv (En.frB p n t f c g x y)):=by
 have hn:=hc.ln.symm
 refine Zw Tryz.func31 rfl (by intro X hX;simp only [List.mem_cons,List.not_mem_nil,or_false] at hX;rcases hX with rfl | rfl | rfl | rfl | rfl;exact (show Plain (.el (En.sysP p n t f) 0) from .el (Ya (En.plain_sysP p n t f)));exact Zq (En.plain_cfV _ c);exact .v _;exact .v _;exact Zq (En.plain_msA _)) (n:=34) rfl (by simp) (fun w0 => ?_)
 refine kW 34 [] [(0,.el (En.sysP p n t f) 0),(1,.agg (En.cfV (Rd.shI p.top (Ns.shT p.top (Ns.cntE p n f)) c.sh) c)),(2,iv x),(3,iv y),(4,.agg (En.msA g))] (Zb (Za (oA (Yo (X := .agg (En.cfV (Rd.shI p.top (Ns.shT p.top (Ns.cntE p n f)) c.sh) c)) (.tmp 1) rfl rfl rfl) I0 (oA (Yo (X := .agg (En.msA g)) (.tmp 4) rfl rfl rfl) I0 (pM (aC (.bool false)) (Zd (Zc (Zb (Zb ?_)))))))))
 by_cases hs1:(n-f)≤y
 refine Za (pM (mT 3 (iv y)) (pM (mT 0 (.el (En.sysP p n t f) 0)) (oA (Zz (off:=0) (.tmp 13) rfl) I0 (oA (fe 14 14 U105 1) I0 (oA (lE (iv (n-f)) 15 U3) I0 (oC (YI rfl (dT hs1)) I0 I0 (Zd (Zc (Zm rfl (Zb (Za (pM (aC (.bool false)) (Zd (Zc (Zl (Zf ?_))))))))))))))))
 refine Zh Tryz.results31 (.tmp rfl) ?_
 exact congrArg (fun x:Bool=>AV.v (.bool x)) ((En.fr_lo hs1).symm)
 refine Za (pM (mT 3 (iv y)) (pM (mT 0 (.el (En.sysP p n t f) 0)) (oA (Zz (off:=0) (.tmp 13) rfl) I0 (oA (fe 14 14 U105 1) I0 (oA (lE (iv (n-f)) 15 U3) I0 (oC (YI rfl (dF hs1)) I0 I0 (Zd (Zc (Zn rfl (Zi (Zc (Zb (Zb (Za (pM (aC (.int .i64 (-1))) (kN 34 [] [(0,.el (En.sysP p n t f) 0),(2,iv x),(3,iv y),(6,.el (En.cfV (Rd.shI p.top (Ns.shT p.top (Ns.cntE p n f)) c.sh) c) 0),(9,.el (En.msA g) 0),(10,bF),(11,iv (-1))] (Zc (Zy ?_))))))))))))))))))
 refine Yd (σ:={j:Nat // j≤c.st.length+1∧En.noE p n t f c g x y j}) (fun s=>(ofL [],ofT 34 [(0,.el (En.sysP p n t f) 0),(2,iv x),(3,iv y),(6,.el (En.cfV (Rd.shI p.top (Ns.shT p.top (Ns.cntE p n f)) c.sh) c) 0),(9,.el (En.msA g) 0),(11,iv ((((s.1:Nat)):Int)-1))])) (fun s=>c.st.length+1-s.1) ⟨0,Nat.zero_le _,En.noE_zero⟩ (Zk [] _ rfl (by kernel_rfl) (by kernel_rfl)) (fun s => ?_)
 obtain ⟨j,hj0,hnf⟩:=s
 show ETri J w0 (ofL []) (ofT 34 [(0,.el (En.sysP p n t f) 0),(2,iv x),(3,iv y),(6,.el (En.cfV (Rd.shI p.top (Ns.shT p.top (Ns.cntE p n f)) c.sh) c) 0),(9,.el (En.msA g) 0),(11,iv (((j:Nat):Int)-1))]) _
 refine Zb (Zb ?_)
 by_cases hs2:((j:Nat):Int)-1<(Ns.cntE p n f)
 refine Za (pM (mT 11 (iv (((j:Nat):Int)-1))) (pM (mT 0 (.el (En.sysP p n t f) 0)) (oA (Zz (off:=0) (.tmp 19) rfl) I0 (oA (fe 13 20 U105 1) I0 (oA (lE (iv (Ns.cntE p n f)) 21 U3) I0 (oC (ZW rfl (dT hs2)) I0 I0 (Zd (Zc (Zm rfl (Zi (Zc (Zb (Zy (Zb ?_))))))))))))))
 by_cases hs3:(En.enB p n t f c g x y (((j:Nat):Int)-1))=true
 refine Za (pM (mT 0 (.el (En.sysP p n t f) 0)) (oA (ZC (z:=16) (.tmp 6) rfl U70 rfl (by kernel_rfl) rfl rfl) I0 (pM (mT 2 (iv x)) (pM (mT 3 (iv y)) (pM (mT 11 (iv (((j:Nat):Int)-1))) (oD (Kh [(.tmp 28,.int .i64 x),(.tmp 29,.int .i64 y),(.tmp 30,.int .i64 (((j:Nat):Int)-1))] #[.int .i64 x,.int .i64 y,.int .i64 (((j:Nat):Int)-1)] rfl rfl (by kernel_rfl) rfl) I0 I0 I0 (oA (ZC (z:=3) (.tmp 9) rfl U68 rfl (by kernel_rfl) rfl rfl) I0 (ZM rfl (sc #[.tmp 26,.tmp 27,.tmp 31,.tmp 32] [] (ZA (enabled_c HL hc hv l8 hg) hs3) [.el (En.sysP p n t f) 0,.agg (En.cfV (Rd.shI p.top (Ns.shT p.top (Ns.cntE p n f)) c.sh) c),.agg [iv x,iv y,iv (((j:Nat):Int)-1)],.agg (En.msA g)] rfl rfl rfl) ⟨I0,I0,I0,I0,I0,T0⟩ T0 T0 (Zd (Zc (Zm rfl (Zb (Za (pM (aC (.bool true)) (Zd (Zc (Zl (Zu (Zf (Zf (Zu (Zf ?_))))))))))))))))))))))
 refine Zh Tryz.results31 (.tmp rfl) ?_
 exact congrArg (fun x:Bool=>AV.v (.bool x)) ((En.fr_yes hs1 (by omega) hs3).symm)
 have hs3f:(En.enB p n t f c g x y (((j:Nat):Int)-1))=false:=by simpa using hs3
 refine Za (pM (mT 0 (.el (En.sysP p n t f) 0)) (oA (ZC (z:=16) (.tmp 6) rfl U70 rfl (by kernel_rfl) rfl rfl) I0 (pM (mT 2 (iv x)) (pM (mT 3 (iv y)) (pM (mT 11 (iv (((j:Nat):Int)-1))) (oD (Kh [(.tmp 28,.int .i64 x),(.tmp 29,.int .i64 y),(.tmp 30,.int .i64 (((j:Nat):Int)-1))] #[.int .i64 x,.int .i64 y,.int .i64 (((j:Nat):Int)-1)] rfl rfl (by kernel_rfl) rfl) I0 I0 I0 (oA (ZC (z:=3) (.tmp 9) rfl U68 rfl (by kernel_rfl) rfl rfl) I0 (ZM rfl (sc #[.tmp 26,.tmp 27,.tmp 31,.tmp 32] [] (ZA (enabled_c HL hc hv l8 hg) hs3f) [.el (En.sysP p n t f) 0,.agg (En.cfV (Rd.shI p.top (Ns.shT p.top (Ns.cntE p n f)) c.sh) c),.agg [iv x,iv y,iv (((j:Nat):Int)-1)],.agg (En.msA g)] rfl rfl rfl) ⟨I0,I0,I0,I0,I0,T0⟩ T0 T0 (Zd (Zc (Zn rfl (Zi (ZL (Zc (Za (pM (mT 11 (iv (((j:Nat):Int)-1))) (oC (ZZ (c:=((j:Nat):Int)-1+1) rfl (w64 (by omega) (by omega) (by omega))) I0 I0 (pM (aT 25 (iv (((j:Nat):Int)-1+1))) (kN 34 [] [(0,.el (En.sysP p n t f) 0),(2,iv x),(3,iv y),(6,.el (En.cfV (Rd.shI p.top (Ns.shT p.top (Ns.cntE p n f)) c.sh) c) 0),(9,.el (En.msA g) 0),(11,iv (((j:Nat):Int)-1+1)),(23,bT),(33,bF)] (Zc ?_))))))))))))))))))))
 refine ZI ⟨j+1,by omega,En.noE_succ hnf hs3f⟩ (show c.st.length+1-(j+1)<c.st.length+1-j by omega) ?_
 show Wk _ _ (ofL []) (ofT 34 [(0,.el (En.sysP p n t f) 0),(2,iv x),(3,iv y),(6,.el (En.cfV (Rd.shI p.top (Ns.shT p.top (Ns.cntE p n f)) c.sh) c) 0),(9,.el (En.msA g) 0),(11,iv (((((j+1):Nat)):Int)-1))])
 rw [show ((((j+1):Nat)):Int)-1=((j:Nat):Int)-1+1 by omega]
 exact Zk [] _ rfl (by kernel_rfl) (by kernel_rfl)
 refine Za (pM (mT 11 (iv (((j:Nat):Int)-1))) (pM (mT 0 (.el (En.sysP p n t f) 0)) (oA (Zz (off:=0) (.tmp 19) rfl) I0 (oA (fe 13 20 U105 1) I0 (oA (lE (iv (Ns.cntE p n f)) 21 U3) I0 (oC (ZW rfl (dF hs2)) I0 I0 (Zd (Zc (Zn rfl (Yb (Zt (Zt (Kb (Zc (Zb (Za (pM (aC (.bool false)) (Zd (Zc (Zl ?_))))))))))))))))))))
 refine Zh Tryz.results31 (.tmp rfl) ?_
 exact congrArg (fun x:Bool=>AV.v (.bool x)) ((En.fr_no (by omega) hnf).symm)
theorem Forced_err {p:Fm} (HP:FmOk p) (HL:FamLen p) {n t f:Int} {c:Cf} (HC:Rd.CgOk c) {x y:Int} (hz:¬ (Rd.vcE p n t f c)=0):Ctr Tryz.prog J 12 [.agg (cFm p),.agg (cSz n t f),.agg (Rd.cCg c),iv x,iv y] (.tup [bv (En.faR p n t f c x y),iv (Rd.vcE p n t f c)]):=by
 refine Zw Tryz.func12 rfl (by intro X hX;simp only [List.mem_cons,List.not_mem_nil,or_false] at hX;rcases hX with rfl | rfl | rfl | rfl | rfl;exact Zq (Z9 p);exact Zq (Yi n t f);exact Zq (Rd.plain_cg c);exact .v _;exact .v _) (n:=34) rfl (by simp) (fun w0 => ?_)
 refine kW 34 [] [(0,.agg (cFm p)),(1,.agg (cSz n t f)),(2,.agg (Rd.cCg c)),(3,iv x),(4,iv y)] (Zb (Za (oA (Yo (X := .agg (cFm p)) (.tmp 0) rfl rfl rfl) I0 (oA (Yo (X := .agg (cSz n t f)) (.tmp 1) rfl rfl rfl) I0 (oA (Yo (X := .agg (Rd.cCg c)) (.tmp 2) rfl rfl rfl) I0 (pM (aC (.bool false)) (pM (aC (.int .i64 0)) (Zd (Zc (Zb (Za (oA (ZC (z:=10) (.tmp 5) rfl U27 rfl (by kernel_rfl) rfl rfl) I0 (oA (ZC (z:=3) (.tmp 6) rfl U29 rfl (by kernel_rfl) rfl rfl) I0 (oA (ZC (z:=6) (.tmp 7) rfl U31 rfl (by kernel_rfl) rfl rfl) I0 (ZM rfl (sc #[.tmp 16,.tmp 17,.tmp 18] [] (open_no HP HC hz) [.agg (cFm p),.agg (cSz n t f),.agg (Rd.cCg c)] rfl rfl rfl) ⟨I0,I0,I0,I0,T0⟩ T0 T0 (pM (mT 19 (.tup [.fr (.any),.fr (.agg (Rd.cfZ false (Rd.shI p.top (Ns.shT p.top (Ns.cntE p n f)) c.sh) c)),iv (Rd.vcE p n t f c)])) (oA (ZQ (X := .fr (.any)) (.tmp 15) rfl rfl) I0 (oA (ZQ (X := .fr (.agg (Rd.cfZ false (Rd.shI p.top (Ns.shT p.top (Ns.cntE p n f)) c.sh) c))) (.tmp 15) rfl rfl) I0 (oA (ZQ (X:=iv (Rd.vcE p n t f c)) (.tmp 15) rfl rfl) I0 (ZM rfl (Yl (z := .agg #[.int .i64 0,.int .i64 0,.int .i64 0,.int .i64 0,.int .i64 0,.int .i64 0,.int .i64 0,.int .i64 0,.int .i64 0,.int .i64 0,.int .i64 0,.int .i64 0,.int .i64 0,.int .i64 0,.int .i64 0,.int .i64 0]) (k:=1) rfl (by kernel_rfl)) T0 T0 rfl (pM (aT 20 (.fr (.any))) (ZM rfl (sB 16 13 (.tmp 21) (.agg [iv (Rd.zz false (Rd.shI p.top (Ns.shT p.top (Ns.cntE p n f)) c.sh)),iv (Rd.zz false (c.st.getD 0 0)),iv (Rd.zz false (c.st.getD 1 0)),iv (Rd.zz false (c.st.getD 2 0)),iv (Rd.zz false (c.st.getD 3 0)),iv (Rd.zz false (c.st.getD 4 0)),iv (Rd.zz false (c.st.getD 5 0)),iv (Rd.zz false (c.st.getD 6 0)),iv (Rd.zz false (c.st.getD 7 0)),iv (Rd.zz false (c.se.getD 0 0)),iv (Rd.zz false (c.se.getD 1 0)),iv (Rd.zz false (c.se.getD 2 0)),iv (Rd.zz false (c.fa.getD 0 0)),iv (Rd.zz false (c.fa.getD 1 0)),iv (Rd.zz false (c.fa.getD 2 0)),iv (Rd.zz false c.val)])) ⟨I0,.inr (.inr (.inl ⟨_,rfl,rfl⟩)),T0⟩ ⟨rfl,T0⟩ rfl (pM (aT 22 (iv (Rd.vcE p n t f c))) ?_)))))))))))))))))))))))
 refine Zd (Zc (Zb (Zb (Za (pM (mT 14 (iv (Rd.vcE p n t f c))) (oC (Zv rfl (dF' hz)) I0 I0 (Zd (Zc (Zm rfl (Zb (Za (pM (mT 14 (iv (Rd.vcE p n t f c))) (pM (aC (.bool false)) (pM (aT 25 (iv (Rd.vcE p n t f c))) (Zd (Zc (Zl (Zf ?_))))))))))))))))))
 refine Yv Tryz.results12 (.tmp rfl) (.tmp rfl) ?_
 rw [show En.faR p n t f c x y=false from if_neg hz]
 exact rfl
theorem Forced_ok {p:Fm} (HP:FmOk p) (HL:FamLen p) {n t f:Int} {c:Cf} (HC:Rd.CgOk c) {x y:Int} (hz:(Rd.vcE p n t f c)=0):Ctr Tryz.prog J 12 [.agg (cFm p),.agg (cSz n t f),.agg (Rd.cCg c),iv x,iv y] (.tup [bv (En.faR p n t f c x y),iv (Rd.vcE p n t f c)]):=by
 obtain ⟨hs,hx⟩:=En.vc_ok hz
 have hc:=En.cf_in hx
 obtain ⟨hv,ha,h8⟩:=Ns.sys_ok hs
 have hai:=Ns.adm_in ha
 have l8:=En.cf_len hc hai h8
 have hsz:=En.val_sizes hv
 refine Zw Tryz.func12 rfl (by intro X hX;simp only [List.mem_cons,List.not_mem_nil,or_false] at hX;rcases hX with rfl | rfl | rfl | rfl | rfl;exact Zq (Z9 p);exact Zq (Yi n t f);exact Zq (Rd.plain_cg c);exact .v _;exact .v _) (n:=34) rfl (by simp) (fun w0 => ?_)
 refine kW 34 [] [(0,.agg (cFm p)),(1,.agg (cSz n t f)),(2,.agg (Rd.cCg c)),(3,iv x),(4,iv y)] (Zb (Za (oA (Yo (X := .agg (cFm p)) (.tmp 0) rfl rfl rfl) I0 (oA (Yo (X := .agg (cSz n t f)) (.tmp 1) rfl rfl rfl) I0 (oA (Yo (X := .agg (Rd.cCg c)) (.tmp 2) rfl rfl rfl) I0 (pM (aC (.bool false)) (pM (aC (.int .i64 0)) (Zd (Zc (Zb (Za (oA (ZC (z:=10) (.tmp 5) rfl U27 rfl (by kernel_rfl) rfl rfl) I0 (oA (ZC (z:=3) (.tmp 6) rfl U29 rfl (by kernel_rfl) rfl rfl) I0 (oA (ZC (z:=6) (.tmp 7) rfl U31 rfl (by kernel_rfl) rfl rfl) I0 (ZM rfl (sp_callA (c := .func 26) (xs := #[.tmp 16,.tmp 17,.tmp 18]) (open_V HP HC hs hx) rfl (by kernel_rfl) rfl (Xs:=[.agg (cFm p),.agg (cSz n t f),.agg (Rd.cCg c)]) rfl rfl) ⟨I0,I0,I0,I0,T0⟩ T0 T0 (pM (mT 19 (.tup [.el (En.sysP p n t f) 0,.agg (En.cfV (Rd.shI p.top (Ns.shT p.top (Ns.cntE p n f)) c.sh) c),iv 0])) (oA (ZQ (X := .el (En.sysP p n t f) 0) (.tmp 15) rfl rfl) I0 (oA (ZQ (X := .agg (En.cfV (Rd.shI p.top (Ns.shT p.top (Ns.cntE p n f)) c.sh) c)) (.tmp 15) rfl rfl) I0 (oA (ZQ (X:=iv 0) (.tmp 15) rfl rfl) I0 (ZM rfl (Yl (z := .agg #[.int .i64 0,.int .i64 0,.int .i64 0,.int .i64 0,.int .i64 0,.int .i64 0,.int .i64 0,.int .i64 0,.int .i64 0,.int .i64 0,.int .i64 0,.int .i64 0,.int .i64 0,.int .i64 0,.int .i64 0,.int .i64 0]) (k:=1) rfl (by kernel_rfl)) T0 T0 rfl (pM (aT 20 (.el (En.sysP p n t f) 0)) (ZM rfl (sB 16 13 (.tmp 21) (.agg (En.cfV (Rd.shI p.top (Ns.shT p.top (Ns.cntE p n f)) c.sh) c))) ⟨I0,I0,T0⟩ ⟨rfl,T0⟩ rfl (pM (aT 22 (iv 0)) ?_)))))))))))))))))))))))
 refine Zd (Zc (Zb (Zb (Za (pM (mT 14 (iv 0)) (oC (Zv (r:=false) rfl (by decide)) I0 I0 (Zd (Zc (Zn rfl (Zi (Zc (Zb ?_))))))))))))
 refine Zs (dM (mT 12 (.el (En.sysP p n t f) 0)) (dB (lS (En.cfV (Rd.shI p.top (Ns.shT p.top (Ns.cntE p n f)) c.sh) c) 16 13 U70) I0 rfl (dM (mT 3 (iv x)) (dM (mT 4 (iv y)) (dM (mT 12 (.el (En.sysP p n t f) 0)) (dB (lS (En.cfV (Rd.shI p.top (Ns.shT p.top (Ns.cntE p n f)) c.sh) c) 16 13 U70) I0 rfl (dD (sc #[.tmp 30,.tmp 31] [] (certain_c hc ⟨by omega,by omega⟩ hsz.2.2.1) [.el (En.sysP p n t f) 0,.agg (En.cfV (Rd.shI p.top (Ns.shT p.top (Ns.cntE p n f)) c.sh) c)] rfl rfl rfl) I0 I0 I0 (dR (sc #[.tmp 26,.tmp 27,.tmp 28,.tmp 29,.tmp 32] [] (forced_c HL hc hv l8 (fun m=>En.hdG_in hc ⟨by omega,by omega⟩ _ m)) [.el (En.sysP p n t f) 0,.agg (En.cfV (Rd.shI p.top (Ns.shT p.top (Ns.cntE p n f)) c.sh) c),iv x,iv y,.agg (En.msA (En.hdG p f c true))] rfl rfl rfl) ⟨I0,I0,I0,I0,I0,.inr (.inl rfl),T0⟩ T0 T0 (dM (aT 33 (bv (En.frB p n t f c (En.hdG p f c true) x y))) (dM (aC (.int .i64 0)) (dE ?_))))))))))) (by kernel_rfl)
 show ETri J w0 _ _ _
 refine Zc (Zl ?_)
 refine Yv Tryz.results12 (.tmp rfl) (.tmp rfl) ?_
 rw [show En.faR p n t f c x y=_ from if_pos hz,hz]
 exact rfl
theorem Forced_c {p:Fm} (HP:FmOk p) (HL:FamLen p) {n t f:Int} {c:Cf} (HC:Rd.CgOk c) {x y:Int}:Ctr Tryz.prog J 12 [.agg (cFm p),.agg (cSz n t f),.agg (Rd.cCg c),iv x,iv y] (.tup [bv (En.faR p n t f c x y),iv (Rd.vcE p n t f c)]):=by
  by_cases hz:(Rd.vcE p n t f c)=0
  · exact Forced_ok HP HL HC hz
  exact Forced_err HP HL HC hz
theorem Ko {x lo hi:Int}:Ctr Tryz.prog J 55 [iv x,iv lo,iv hi] (bv (Rd.inW lo hi x)):=by
 refine Zw Tryz.func55 rfl (by intro X hX;simp only [List.mem_cons,List.not_mem_nil,or_false] at hX;rcases hX with rfl | rfl | rfl;exact .v _;exact .v _;exact .v _) (n:=15) rfl (by simp) (fun w0 => ?_)
 refine kW 15 [] [(0,iv x),(1,iv lo),(2,iv hi)] (Zb (Za (pM (aC (.bool false)) (Zd (Zc (Zb ?_))))))
 by_cases hs1:lo≤x
 refine Za (pM (mT 0 (iv x)) (pM (mT 1 (iv lo)) (oC (YI rfl (dT hs1)) I0 I0 (pM (mT 9 bT) (qM (mT 0 (iv x)) (qM (mT 2 (iv hi)) (gC (sp_leq rfl rfl) I0 I0 (pP (pk true (bv (decide (x≤hi))) bF rfl) (pM (aT 14 (bv (decide (x≤hi)))) (Zd (Zc (Zl ?_))))))))))))
 refine Zh Tryz.results55 (.tmp rfl) ?_
 exact congrArg (fun x:Bool=>AV.v (.bool x)) ((by simp only [Rd.inW,hs1,decide_true,decide_false,Bool.and_true,Bool.true_and,Bool.false_and,Bool.and_false,Bool.not_true,Bool.not_false]))
 refine Za (pM (mT 0 (iv x)) (pM (mT 1 (iv lo)) (oC (YI rfl (dF hs1)) I0 I0 (pM (mT 9 bF) (qK (qK (qK (pP (pk false (.v (.tuple #[])) bF rfl) (pM (aT 14 bF) (Zd (Zc (Zl ?_))))))))))))
 refine Zh Tryz.results55 (.tmp rfl) ?_
 exact congrArg (fun x:Bool=>AV.v (.bool x)) ((by simp only [Rd.inW,hs1,decide_true,decide_false,Bool.and_true,Bool.true_and,Bool.false_and,Bool.and_false,Bool.not_true,Bool.not_false]))
theorem states_c {p:Fm} (lst:p.states.length≤9223372036854775807) (xs:List Int) (lx:xs.length≤100):Ctr Tryz.prog J 74 [.agg (cFm p),Ze xs] (bv (Rd.belB xs ((p.states.length:Nat):Int))):=by
 refine Zw Tryz.func74 rfl (by intro X hX;simp only [List.mem_cons,List.not_mem_nil,or_false] at hX;rcases hX with rfl | rfl;exact Zq (Z9 p);exact Z6 _) (n:=22) rfl (by simp) (fun w0 => ?_)
 refine kW 22 [] [(0,.agg (cFm p)),(1,Ze xs)] (Zb (Za (ZM rfl (ZT (X := .agg (cFm p)) (k:=1) (.tmp 0) rfl rfl) ⟨I0,T0⟩ T0 rfl (pM (aC (.bool false)) (Zd (Zc (Zb (Zb (Za (pM (aC (.int .i64 0)) (kN 22 [(1,.box 27 (cFm p))] [(1,Ze xs),(2,.box 1 0),(4,bF),(5,iv 0)] (Zc (Zy ?_)))))))))))))
 refine Yd (σ:={k:Nat // k≤xs.length∧Rd.noP xs (Rd.outB ((p.states.length:Nat):Int)) k}) (fun s=>(ofL [(1,.box 27 (cFm p))],ofT 22 [(1,Ze xs),(2,.box 1 0),(5,iv s.1)])) (fun s=>xs.length-s.1) ⟨0,Nat.zero_le _,Rd.noP_zero _ _⟩ (Zk _ _ rfl (by kernel_rfl) (by kernel_rfl)) (fun s => ?_)
 obtain ⟨k,hk0,hs0⟩:=s
 show ETri J w0 (ofL [(1,.box 27 (cFm p))]) (ofT 22 [(1,Ze xs),(2,.box 1 0),(5,iv k)]) _
 refine Zb (Zb ?_)
 by_cases hs1:((k:Nat):Int)<((xs.length:Nat):Int)
 refine Za (pM (mT 5 (iv k)) (pM (mT 1 (Ze xs)) (oA (nS 7 U24) I0 (oC (ZW rfl (dT hs1)) I0 I0 (Zd (Zc (Zm rfl (Zi (Zc (Zb (Zy (Zb ?_))))))))))))
 by_cases hs2:(Rd.inW 0 (((p.states.length:Nat):Int)-1) xs[k])=true
 refine Zs (dM (mT 1 (Ze xs)) (dM (mT 5 (iv k)) (dC (xS (k*1) 12 13 U24) I0 I0 (dA (lE (iv xs[k]) 14 U3 (ZU xs (by omega))) I0 (dA (fb 2 2 U27 1) I0 (dB (lb (ZD p.states) 16 U22) I0 rfl (dA (nS 17 U22) I0 (dC (Z5 (c:=((p.states.length:Nat):Int)-1) rfl (w64 (by omega) (by omega) (by omega))) I0 I0 (dR (sc #[.tmp 15,.const (.int .i64 0),.tmp 19] [] (ZA Ko hs2) [iv xs[k],iv 0,iv (((p.states.length:Nat):Int)-1)] rfl rfl rfl) ⟨I0,I0,I0,I0,T0⟩ T0 T0 (dA (Zr rfl rfl) I0 (dE ?_))))))))))) (by kernel_rfl)
 show ETri J w0 _ _ _
 refine kW 22 [(1,.box 27 (cFm p))] [(1,Ze xs),(2,.box 1 0),(5,iv k),(9,bT),(21,bF)] (Zc (Zn rfl (Zi (ZL (Zc (Za (pM (mT 5 (iv k)) (oC (ZZ (c:=((k+1:Nat):Int)) rfl (w64 (by omega) (by omega) (by omega))) I0 I0 (pM (aT 11 (iv (k+1:Nat))) (kN 22 [(1,.box 27 (cFm p))] [(1,Ze xs),(2,.box 1 0),(5,iv (k+1:Nat)),(9,bT),(21,bF)] (Zc ?_)))))))))))
 refine ZI ⟨k+1,by omega,Rd.noP_succ (by omega) hs0 (Rd.inW_in hs2 (by omega))⟩ (show xs.length-(k+1)<xs.length-k by omega) ?_
 exact Zk _ _ rfl (by kernel_rfl) (by kernel_rfl)
 have hs2f:(Rd.inW 0 (((p.states.length:Nat):Int)-1) xs[k])=false:=by simpa using hs2
 refine Zs (dM (mT 1 (Ze xs)) (dM (mT 5 (iv k)) (dC (xS (k*1) 12 13 U24) I0 I0 (dA (lE (iv xs[k]) 14 U3 (ZU xs (by omega))) I0 (dA (fb 2 2 U27 1) I0 (dB (lb (ZD p.states) 16 U22) I0 rfl (dA (nS 17 U22) I0 (dC (Z5 (c:=((p.states.length:Nat):Int)-1) rfl (w64 (by omega) (by omega) (by omega))) I0 I0 (dR (sc #[.tmp 15,.const (.int .i64 0),.tmp 19] [] (ZA Ko hs2f) [iv xs[k],iv 0,iv (((p.states.length:Nat):Int)-1)] rfl rfl rfl) ⟨I0,I0,I0,I0,T0⟩ T0 T0 (dA (Zr rfl rfl) I0 (dE ?_))))))))))) (by kernel_rfl)
 show ETri J w0 _ _ _
 refine kW 22 [(1,.box 27 (cFm p))] [(1,Ze xs),(2,.box 1 0),(5,iv k),(9,bT),(21,bT)] (Zc (Zm rfl (Zb (Za (pM (aC (.bool false)) (Zd (Zc (Zl (Zu (Zf (Zf (Zu (Zf ?_)))))))))))))
 refine Zh Tryz.results74 (.tmp rfl) ?_
 exact congrArg (fun x:Bool=>AV.v (.bool x)) ((Rd.bel_bad (by omega) (Rd.inW_out hs2f (by omega))).symm)
 refine Za (pM (mT 5 (iv k)) (pM (mT 1 (Ze xs)) (oA (nS 7 U24) I0 (oC (ZW rfl (dF hs1)) I0 I0 (Zd (Zc (Zn rfl (Yb (Zt (Zt (Kb (Zc (Zb (Za (pM (aC (.bool true)) (Zd (Zc (Zl ?_))))))))))))))))))
 refine Zh Tryz.results74 (.tmp rfl) ?_
 exact congrArg (fun x:Bool=>AV.v (.bool x)) ((Rd.bel_all (k:=k) (by omega) hs0).symm)
theorem numbers_c (xs:List Int) (lx:xs.length≤100) {m:Int}:Ctr Tryz.prog J 75 [Ze xs,iv m] (bv (decide (((xs.length:Nat):Int)=m)&&Rd.belB xs 1048577)):=by
 refine Zw Tryz.func75 rfl (by intro X hX;simp only [List.mem_cons,List.not_mem_nil,or_false] at hX;rcases hX with rfl | rfl;exact Z6 _;exact .v _) (n:=22) rfl (by simp) (fun w0 => ?_)
 refine kW 22 [] [(0,Ze xs),(1,iv m)] (Zb (Za (pM (aC (.bool false)) (Zd (Zc (Zb (Zb ?_)))))))
 by_cases hs1:((xs.length:Nat):Int)=m
 refine Za (pM (mT 0 (Ze xs)) (oA (nS 6 U24) I0 (pM (mT 1 (iv m)) (oC (Zv rfl (dT' hs1)) I0 I0 (Zd (Zc (Zn rfl (Zi (Zc (Zb (Zb (Za (pM (aC (.int .i64 0)) (kN 22 [] [(0,Ze xs),(4,bF),(5,iv 0)] (Zc (Zy ?_))))))))))))))))
 refine Yd (σ:={k:Nat // k≤xs.length∧Rd.noP xs (Rd.outB 1048577) k}) (fun s=>(ofL [],ofT 22 [(0,Ze xs),(5,iv s.1)])) (fun s=>xs.length-s.1) ⟨0,Nat.zero_le _,Rd.noP_zero _ _⟩ (Zk [] _ rfl (by kernel_rfl) (by kernel_rfl)) (fun s => ?_)
 obtain ⟨k,hk0,hs0⟩:=s
 show ETri J w0 (ofL []) (ofT 22 [(0,Ze xs),(5,iv k)]) _
 refine Zb (Zb ?_)
 by_cases hs2:((k:Nat):Int)<((xs.length:Nat):Int)
 refine Za (pM (mT 5 (iv k)) (pM (mT 0 (Ze xs)) (oA (nS 11 U24) I0 (oC (ZW rfl (dT hs2)) I0 I0 (Zd (Zc (Zm rfl (Zi (Zc (Zb (Zy (Zb ?_))))))))))))
 by_cases hs3:(Rd.inW 0 1048576 xs[k])=true
 refine Za (pM (mT 0 (Ze xs)) (pM (mT 5 (iv k)) (oC (xS (k*1) 16 17 U24) I0 I0 (oA (lE (iv xs[k]) 18 U3 (ZU xs (by omega))) I0 (ZM rfl (sc #[.tmp 19,.const (.int .i64 0),.const (.int .i64 1048576)] [] (ZA Ko hs3) [iv xs[k],iv 0,iv 1048576] rfl rfl rfl) ⟨I0,I0,I0,I0,T0⟩ T0 T0 (oA (Zr rfl rfl) I0 (Zd (Zc (Zn rfl (Zi (ZL (Zc (Za (pM (mT 5 (iv k)) (oC (ZZ (c:=((k+1:Nat):Int)) rfl (w64 (by omega) (by omega) (by omega))) I0 I0 (pM (aT 15 (iv (k+1:Nat))) (kN 22 [] [(0,Ze xs),(5,iv (k+1:Nat)),(13,bT),(21,bF)] (Zc ?_))))))))))))))))))
 refine ZI ⟨k+1,by omega,Rd.noP_succ (by omega) hs0 (Rd.inW_in hs3 (by omega))⟩ (show xs.length-(k+1)<xs.length-k by omega) ?_
 exact Zk [] _ rfl (by kernel_rfl) (by kernel_rfl)
 have hs3f:(Rd.inW 0 1048576 xs[k])=false:=by simpa using hs3
 refine Za (pM (mT 0 (Ze xs)) (pM (mT 5 (iv k)) (oC (xS (k*1) 16 17 U24) I0 I0 (oA (lE (iv xs[k]) 18 U3 (ZU xs (by omega))) I0 (ZM rfl (sc #[.tmp 19,.const (.int .i64 0),.const (.int .i64 1048576)] [] (ZA Ko hs3f) [iv xs[k],iv 0,iv 1048576] rfl rfl rfl) ⟨I0,I0,I0,I0,T0⟩ T0 T0 (oA (Zr rfl rfl) I0 (Zd (Zc (Zm rfl (Zb (Za (pM (aC (.bool false)) (Zd (Zc (Zl (Zu (Zf (Zf (Zu (Zf ?_))))))))))))))))))))
 refine Zh Tryz.results75 (.tmp rfl) ?_
 exact congrArg (fun x:Bool=>AV.v (.bool x)) ((by rw [Rd.bel_bad (by omega) (Rd.inW_out hs3f (by omega)),Bool.and_false]))
 refine Za (pM (mT 5 (iv k)) (pM (mT 0 (Ze xs)) (oA (nS 11 U24) I0 (oC (ZW rfl (dF hs2)) I0 I0 (Zd (Zc (Zn rfl (Yb (Zt (Zt (Kb (Zc (Zb (Za (pM (aC (.bool true)) (Zd (Zc (Zl ?_))))))))))))))))))
 refine Zh Tryz.results75 (.tmp rfl) ?_
 exact congrArg (fun x:Bool=>AV.v (.bool x)) ((by rw [Rd.bel_all (k:=k) (by omega) hs0,decide_eq_true hs1];rfl))
 refine Za (pM (mT 0 (Ze xs)) (oA (nS 6 U24) I0 (pM (mT 1 (iv m)) (oC (Zv rfl (dF' hs1)) I0 I0 (Zd (Zc (Zm rfl (Zb (Za (pM (aC (.bool false)) (Zd (Zc (Zl (Zf ?_))))))))))))))
 refine Zh Tryz.results75 (.tmp rfl) ?_
 exact congrArg (fun x:Bool=>AV.v (.bool x)) ((by rw [decide_eq_false hs1];rfl))
theorem loose_c {p:Fm}:Ctr Tryz.prog J 76 [.agg (cFm p)] (bv (Rd.looseB p)):=by
 refine Zw Tryz.func76 rfl (by intro X hX;simp only [List.mem_cons,List.not_mem_nil,or_false] at hX;rcases hX with rfl;exact Zq (Z9 p)) (n:=11) rfl (by simp) (fun w0 => ?_)
 refine kW 11 [] [(0,.agg (cFm p))] (Zb (Za (ZM rfl (ZT (X := .agg (cFm p)) (k:=1) (.tmp 0) rfl rfl) ⟨I0,T0⟩ T0 rfl (pM (aC (.bool false)) (Zd (Zc (Zb ?_)))))))
 by_cases hs1:p.fault=1
 refine Za (oA (fb 5 1 U27 1) I0 (oB (lb (iv p.fault) 3 U3) I0 rfl (oC (Zp rfl (dT hs1)) I0 I0 (pM (mT 5 bT) (qK (qK (qK (pP (pk true bT (.v (.tuple #[])) rfl) (pM (aT 10 bT) (Zd (Zc (Zl ?_))))))))))))
 refine Zh Tryz.results76 (.tmp rfl) ?_
 exact congrArg (fun x:Bool=>AV.v (.bool x)) ((by simp only [Rd.looseB,hs1,decide_true,decide_false,Bool.true_or,Bool.false_or,Bool.or_true]))
 refine Za (oA (fb 5 1 U27 1) I0 (oB (lb (iv p.fault) 3 U3) I0 rfl (oC (Zp rfl (dF hs1)) I0 I0 (pM (mT 5 bF) (gA (fb 5 1 U27 1) I0 (gB (lb (iv p.fault) 7 U3) I0 rfl (gC (Zp rfl rfl) I0 I0 (pP (pk false bT (bv (decide (p.fault=2))) rfl) (pM (aT 10 (bv (decide (p.fault=2)))) (Zd (Zc (Zl ?_))))))))))))
 refine Zh Tryz.results76 (.tmp rfl) ?_
 exact congrArg (fun x:Bool=>AV.v (.bool x)) ((by simp only [Rd.looseB,hs1,decide_true,decide_false,Bool.true_or,Bool.false_or,Bool.or_true]))
theorem Jd.in_w {n i:Nat} (h:i<n):Rd.inW 0 (((n:Nat):Int)-1) ((i:Nat):Int)=true:=by
  unfold Rd.inW
  rw [decide_eq_true (by omega),decide_eq_true (by omega)];rfl
theorem Jd.ringS {sh:List Int} {n i:Nat} (hi:i<n):(((i+1:Nat):Nat):Int).tmod ((n:Nat):Int)=Jd.lkS 3 sh n i:=by
  unfold Jd.lkS rowL
  rw [if_neg (by omega)]
  dsimp only
  by_cases e:((i:Nat):Int)=((n:Nat):Int)-1
  · rw [if_pos e,if_pos rfl,show (((i+1:Nat):Nat):Int)=((n:Nat):Int) by omega,Int.tmod_self]
  rw [if_neg e,Int.tmod_eq_of_lt (by omega) (by omega)];omega
theorem Jd.t_2 {sh:List Int} (hs:shp sh=true) {i:Nat} (hi:i<sh.length) (h:sh[i]=2):Jd.lkF 4 sh sh.length i=((i+1:Nat):Int)∧Jd.lkS 4 sh sh.length i=(trun sh sh.length).se i:=by
  have:=((Tr.tree_kids hs hi).2 (by rw [Ct.getD_at hi];exact h)).1
  unfold Jd.lkF Jd.lkS
  rw [if_pos rfl,if_pos rfl,this]
  exact ⟨by omega,rfl⟩
theorem Jd.t_0 {sh:List Int} (hs:shp sh=true) {i:Nat} (hi:i<sh.length) (h:¬ sh[i]=2):Jd.lkF 4 sh sh.length i = -1∧Jd.lkS 4 sh sh.length i = -1:=by
  have:=(Tr.tree_kids hs hi).1 (by rw [Ct.getD_at hi];exact h)
  unfold Jd.lkF Jd.lkS
  rw [if_pos rfl,if_pos rfl]
  exact this
theorem end_c {xs:List Int} (hs:shp xs=true) (lx:xs.length≤100) {j E:Nat} (hj1:j≤E) (hE:Tr.pre xs E+1=Tr.pre xs j) (hP:∀ t,j≤t→t<E→Tr.pre xs j≤Tr.pre xs t) (hl:E≤xs.length):Ctr Tryz.prog J 78 [Ze xs,iv j] (iv ((E:Nat):Int)):=by
 refine Zw Tryz.func78 rfl (by intro X hX;simp only [List.mem_cons,List.not_mem_nil,or_false] at hX;rcases hX with rfl | rfl;exact Z6 _;exact .v _) (n:=18) rfl (by simp) (fun w0 => ?_)
 refine kW 18 [] [(0,Ze xs),(1,iv j)] (Zb (Za (pM (aC (.int .i64 0)) (kN 18 [] [(0,Ze xs),(1,iv j),(4,iv 0)] (Zc (Zb (Za (pM (aC (.int .i64 1)) (kN 18 [] [(0,Ze xs),(1,iv j),(4,iv 0),(5,iv 1)] (Zc (Zb (Zy ?_))))))))))))
 refine Yd (σ:={s:Nat × Int // j≤s.1∧s.1≤E∧s.2=1+Tr.pre xs s.1-Tr.pre xs j}) (fun s=>(ofL [],ofT 18 [(0,Ze xs),(1,iv s.1.1),(4,iv 0),(5,iv s.1.2)])) (fun s=>E-s.1.1) ⟨(j,1),Nat.le_refl _,hj1,by dsimp only;omega⟩ (Zk [] _ rfl (by kernel_rfl) (by kernel_rfl)) (fun s => ?_)
 obtain ⟨⟨t,o⟩,ht0,ht1,hto⟩:=s
 show ETri J w0 (ofL []) (ofT 18 [(0,Ze xs),(1,iv t),(4,iv 0),(5,iv o)]) _
 dsimp only at ht0 ht1 hto
 have hb1:=Tr.pre_bd hs t (by omega)
 have hb2:=Tr.pre_bd hs j (by omega)
 refine Zb (Zb ?_)
 by_cases hs1:0<o
 have ht2:t<E:=by
    rcases Nat.lt_or_ge t E with h | h
    · exact h
    exfalso;have e:t=E:=by omega
    subst e;omega
 have ht3:t<xs.length:=by omega
 have h02:=Tr.shp_02 hs ht3
 refine Za (pM (mT 5 (iv o)) (oC (ZS rfl (dT hs1)) I0 I0 (Zd (Zc (Zm rfl (Zi (Zc (Zy (Zb (Za (pM (mT 5 (iv o)) (pM (mT 0 (Ze xs)) (pM (mT 1 (iv t)) (oC (xS (t*1) 9 10 U24) I0 I0 (oA (lE (iv xs[t]) 11 U3 (ZU xs (by omega))) I0 (oC (Z5 (c:=xs[t]-1) rfl (w64 (by omega) (by omega) (by omega))) I0 I0 (oC (ZZ (c:=o+xs[t]-1) rfl (w64 (by omega) (by omega) (by omega))) I0 I0 (pM (aT 14 (iv (o+xs[t]-1))) (Zd (Zc (Za (pM (mT 1 (iv t)) (oC (ZZ (c:=((t+1:Nat):Int)) rfl (w64 (by omega) (by omega) (by omega))) I0 I0 ?_)))))))))))))))))))))))
 refine pM (aT 16 (iv (t+1:Nat))) (kN 18 [] [(0,Ze xs),(1,iv (t+1:Nat)),(4,iv 0),(5,iv (o+xs[t]-1)),(7,bT)] (ZL (Zc ?_)))
 refine ZI ⟨(t+1,o+xs[t]-1),by dsimp only;omega,by dsimp only;omega,by dsimp only;rw [Tr.pre_succ ht3];omega⟩ (show E-(t+1)<E-t by omega) ?_
 show Wk _ _ (ofL []) (ofT 18 [(0,Ze xs),(1,iv ((t+1):Nat)),(4,iv 0),(5,iv (o+xs[t]-1))])
 exact Zk [] _ rfl (by kernel_rfl) (by kernel_rfl)
 have ht2:t=E:=by
    rcases Nat.lt_or_ge t E with h | h
    · exfalso;have:=hP t ht0 h;omega
    omega
 refine Za (pM (mT 5 (iv o)) (oC (ZS rfl (dF hs1)) I0 I0 (Zd (Zc (Zn rfl (Yb (Zt (Zt (Kb (Zc (Zb (Za (pM (mT 1 (iv t)) (pM (aT 17 (iv t)) (Zd (Zc (Zl ?_)))))))))))))))))
 refine Zh Tryz.results78 (.tmp rfl) ?_
 subst ht2
 exact rfl
theorem endT_c {xs:List Int} (hs:shp xs=true) (lx:xs.length≤100) {i:Nat} (hi:i<xs.length) (h2:xs[i]=2):Ctr Tryz.prog J 78 [Ze xs,iv ((i+1:Nat):Int)] (iv ((trun xs xs.length).se i)):=by
  obtain ⟨_,e,he,h3,h4,h5⟩:=(Tr.tree_kids hs hi).2 (by rw [Ct.getD_at hi];exact h2)
  have T:=(tree_ok xs hs).1.snd i hi
  rw [he]
  refine end_c hs lx h4 h3 h5 ?_
  rcases T with h | ⟨j,hj,h,_⟩<;>omega
theorem nbRing_c {n i:Nat} (hi:i<n) (hn:n≤100) {sh:List Int}:Ctr Tryz.prog J 56 [iv 3,Ze sh,iv n,iv i] (.tup [iv (Jd.lkF 3 sh n i),iv (Jd.lkS 3 sh n i),iv (-1)]):=by
 refine Zw Tryz.func56 rfl (by intro X hX;simp only [List.mem_cons,List.not_mem_nil,or_false] at hX;rcases hX with rfl | rfl | rfl | rfl;exact .v _;exact Z6 _;exact .v _;exact .v _) (n:=99) rfl (by simp) (fun w0 => ?_)
 refine kW 99 [] [(0,iv 3),(1,Ze sh),(2,iv n),(3,iv i)] (Zb (Za (pM (aC (.int .i64 0)) (pM (aC (.int .i64 0)) (pM (aC (.int .i64 0)) (Zd (Zc (Zb (Zb (Za (pM (mT 3 (iv i)) (pM (mT 2 (iv n)) (oC (Z5 (c:=((n:Nat):Int)-1) rfl (w64 (by omega) (by omega) (by omega))) I0 I0 (ZM rfl (sc #[.tmp 18,.const (.int .i64 0),.tmp 20] [] (ZA Ko (Jd.in_w hi)) [iv i,iv 0,iv (((n:Nat):Int)-1)] rfl rfl rfl) ⟨I0,I0,I0,I0,T0⟩ T0 T0 (oA (Zr rfl rfl) I0 (Zd (Zc (Zn rfl (Zi (Zc (Zb (Zb (Za ?_)))))))))))))))))))))))
 refine pM (mT 0 (iv 3)) (oC (Zp (r:=true) rfl (by decide)) I0 I0 (Zd (Zc (Zm rfl (Zb (Za (pM (mT 3 (iv i)) (oC (Z5 (c:=((i:Nat):Int)-1) rfl (w64 (by omega) (by omega) (by omega))) I0 I0 (pM (aT 26 (iv (((i:Nat):Int)-1))) (Zd (Zc (Zb (Zb ?_)))))))))))))
 by_cases hs1:((i:Nat):Int)=0
 refine Za (pM (mT 3 (iv i)) (oC (Zp rfl (dT hs1)) I0 I0 (Zd (Zc (Zm rfl (Za (pM (mT 2 (iv n)) (oC (Z5 (c:=((n:Nat):Int)-1) rfl (w64 (by omega) (by omega) (by omega))) I0 I0 (pM (aT 30 (iv (((n:Nat):Int)-1))) (Zd (Zc (Zb ?_))))))))))))
 refine Zs (dM (mT 11 (iv (((n:Nat):Int)-1))) (dM (mT 3 (iv i)) (dC (ZZ (c:=((i+1:Nat):Int)) rfl (w64 (by omega) (by omega) (by omega))) I0 I0 (dM (mT 2 (iv n)) (dC (sp_rem (c:=(Jd.lkS 3 sh n i)) rfl (by omega) (Jd.ringS hi)) I0 I0 (dM (aT 31 (iv (((n:Nat):Int)-1))) (dM (aT 35 (iv (Jd.lkS 3 sh n i))) (dM (aC (.int .i64 (-1))) (dE ?_))))))))) (by kernel_rfl)
 show ETri J w0 _ _ _
 refine Zc (Zl (Zf ?_))
 refine Kt Tryz.results56 (.tmp rfl) (.tmp rfl) (.tmp rfl) ?_
 rw [show Jd.lkF 3 sh n i=((n:Nat):Int)-1 by unfold Jd.lkF rowL;rw [if_neg (by omega)];dsimp only;rw [if_pos ⟨rfl,hs1⟩]]
 exact rfl
 refine Za (pM (mT 3 (iv i)) (oC (Zp rfl (dF hs1)) I0 I0 (Zd (Zc (Zn rfl (Zi (Zc (Zb ?_))))))))
 refine Zs (dM (mT 11 (iv (((i:Nat):Int)-1))) (dM (mT 3 (iv i)) (dC (ZZ (c:=((i+1:Nat):Int)) rfl (w64 (by omega) (by omega) (by omega))) I0 I0 (dM (mT 2 (iv n)) (dC (sp_rem (c:=(Jd.lkS 3 sh n i)) rfl (by omega) (Jd.ringS hi)) I0 I0 (dM (aT 31 (iv (((i:Nat):Int)-1))) (dM (aT 35 (iv (Jd.lkS 3 sh n i))) (dM (aC (.int .i64 (-1))) (dE ?_))))))))) (by kernel_rfl)
 show ETri J w0 _ _ _
 refine Zc (Zl (Zf ?_))
 refine Kt Tryz.results56 (.tmp rfl) (.tmp rfl) (.tmp rfl) ?_
 rw [show Jd.lkF 3 sh n i=((i:Nat):Int)-1 by unfold Jd.lkF rowL;rw [if_neg (by omega)];dsimp only;rw [if_neg fun h=>hs1 h.2]]
 exact rfl
theorem nbLine_c {n i:Nat} (hi:i<n) (hn:n≤100) {sh:List Int}:Ctr Tryz.prog J 56 [iv 2,Ze sh,iv n,iv i] (.tup [iv (Jd.lkF 2 sh n i),iv (Jd.lkS 2 sh n i),iv (-1)]):=by
 refine Zw Tryz.func56 rfl (by intro X hX;simp only [List.mem_cons,List.not_mem_nil,or_false] at hX;rcases hX with rfl | rfl | rfl | rfl;exact .v _;exact Z6 _;exact .v _;exact .v _) (n:=99) rfl (by simp) (fun w0 => ?_)
 refine kW 99 [] [(0,iv 2),(1,Ze sh),(2,iv n),(3,iv i)] (Zb (Za (pM (aC (.int .i64 0)) (pM (aC (.int .i64 0)) (pM (aC (.int .i64 0)) (Zd (Zc (Zb (Zb (Za (pM (mT 3 (iv i)) (pM (mT 2 (iv n)) (oC (Z5 (c:=((n:Nat):Int)-1) rfl (w64 (by omega) (by omega) (by omega))) I0 I0 (ZM rfl (sc #[.tmp 18,.const (.int .i64 0),.tmp 20] [] (ZA Ko (Jd.in_w hi)) [iv i,iv 0,iv (((n:Nat):Int)-1)] rfl rfl rfl) ⟨I0,I0,I0,I0,T0⟩ T0 T0 (oA (Zr rfl rfl) I0 (Zd (Zc (Zn rfl (Zi (Zc (Zb (Zb (Za ?_)))))))))))))))))))))))
 refine pM (mT 0 (iv 2)) (oC (Zp (r:=false) rfl (by decide)) I0 I0 (Zd (Zc (Zn rfl (Zi (Zc (Zb (Zb (Za (pM (mT 0 (iv 2)) (oC (Zp (r:=true) rfl (by decide)) I0 I0 (Zd (Zc (Zm rfl (Zb (Za (pM (mT 3 (iv i)) (oC (Z5 (c:=((i:Nat):Int)-1) rfl (w64 (by omega) (by omega) (by omega))) I0 I0 (pM (mT 3 (iv i)) (oC (ZZ (c:=((i+1:Nat):Int)) rfl (w64 (by omega) (by omega) (by omega))) I0 I0 (pM (aT 39 (iv (((i:Nat):Int)-1))) (pM (aT 41 (iv (i+1:Nat))) (Zd ?_)))))))))))))))))))))))
 refine Zc (Zb (Zb ?_))
 by_cases hs1:((i+1:Nat):Int)=((n:Nat):Int)
 refine Za (pM (mT 13 (iv (i+1:Nat))) (pM (mT 2 (iv n)) (oC (Zp rfl (dT hs1)) I0 I0 (Zd (Zc (Zm rfl (Za (pM (aC (.int .i64 (-1))) (Zd (Zc (Zb (Za (pM (mT 12 (iv (((i:Nat):Int)-1))) (pM (mT 13 (iv (-1))) (pM (aT 45 (iv (((i:Nat):Int)-1))) (pM (aT 46 (iv (-1))) (pM (aC (.int .i64 (-1))) (Zd (Zc (Zl (Zf ?_)))))))))))))))))))))
 refine Kt Tryz.results56 (.tmp rfl) (.tmp rfl) (.tmp rfl) ?_
 rw [show Jd.lkF 2 sh n i=((i:Nat):Int)-1 by unfold Jd.lkF rowL;rw [if_neg (by omega)];dsimp only;rw [if_neg (by omega)],show Jd.lkS 2 sh n i=(-1) by unfold Jd.lkS rowL;rw [if_neg (by omega)];dsimp only;rw [if_pos (by omega),if_neg (by omega)]]
 exact rfl
 refine Za (pM (mT 13 (iv (i+1:Nat))) (pM (mT 2 (iv n)) (oC (Zp rfl (dF hs1)) I0 I0 (Zd (Zc (Zn rfl (Zi (Zc (Zb (Za (pM (mT 12 (iv (((i:Nat):Int)-1))) (pM (mT 13 (iv (i+1:Nat))) (pM (aT 45 (iv (((i:Nat):Int)-1))) (pM (aT 46 (iv (i+1:Nat))) (pM (aC (.int .i64 (-1))) (Zd (Zc (Zl (Zf ?_)))))))))))))))))))
 refine Kt Tryz.results56 (.tmp rfl) (.tmp rfl) (.tmp rfl) ?_
 rw [show Jd.lkF 2 sh n i=((i:Nat):Int)-1 by unfold Jd.lkF rowL;rw [if_neg (by omega)];dsimp only;rw [if_neg (by omega)],show Jd.lkS 2 sh n i=((i+1:Nat):Int) by unfold Jd.lkS rowL;rw [if_neg (by omega)];dsimp only;rw [if_neg (by omega)];omega]
 exact rfl
namespace En
def parI (sh:List Int) (i k:Nat) (q:Int):Prop :=
  (q = -1∧∀ j:Nat,j<k→(trun sh sh.length).fi j≠((i:Nat):Int)∧(trun sh sh.length).se j≠((i:Nat):Int))∨∃ j:Nat,j<k∧q=((j:Nat):Int)∧((trun sh sh.length).fi j=((i:Nat):Int)∨(trun sh sh.length).se j=((i:Nat):Int))
theorem par_zero {sh:List Int} {i:Nat}:parI sh i 0 (-1) := .inl ⟨rfl,fun _ h=>absurd h (by omega)⟩
theorem par_here {sh:List Int} {i k:Nat} (hs:shp sh=true) (hk:k<sh.length) (h2:sh[k]=2) (h:((k+1:Nat):Int)=((i:Nat):Int)∨(trun sh sh.length).se k=((i:Nat):Int)):parI sh i (k+1) ((k:Nat):Int):=by
  refine .inr ⟨k,by omega,rfl,?_⟩
  rcases h with h | h
  · have:=((Tr.tree_kids hs hk).2 (by rw [Ct.getD_at hk];exact h2)).1
    exact .inl (by omega)
  exact .inr h
theorem par_skip {sh:List Int} {i k:Nat} {q:Int} (hs:shp sh=true) (hk:k<sh.length) (h0:parI sh i k q) (h:¬ sh[k]=2∨(sh[k]=2∧¬ ((k+1:Nat):Int)=((i:Nat):Int)∧¬ (trun sh sh.length).se k=((i:Nat):Int))):parI sh i (k+1) q:=by
  rcases h0 with ⟨hq,h0⟩ | ⟨j,hj,hq,h0⟩
  · refine .inl ⟨hq,fun j hj => ?_⟩
    by_cases e:j=k
    · subst e
      rcases h with h | ⟨h2,h3,h4⟩
      · have:=(Tr.tree_kids hs hk).1 (by rw [Ct.getD_at hk];exact h)
        omega
      have:=((Tr.tree_kids hs hk).2 (by rw [Ct.getD_at hk];exact h2)).1
      exact ⟨by omega,h4⟩
    exact h0 j (by omega)
  exact .inr ⟨j,by omega,hq,h0⟩
theorem par_end {sh:List Int} {i k:Nat} {q:Int} (hs:shp sh=true) (hi:i<sh.length) (hk:¬ k<i) (hk2:k≤i) (h:parI sh i k q):q=lkP 4 sh sh.length i:=by
  obtain rfl:k=i:=by omega
  have T:=(tree_ok sh hs).1
  unfold lkP
  rw [if_pos rfl]
  rcases h with ⟨hq,h0⟩ | ⟨j,hj,hq,h0⟩
  · rcases T.par k hi with e | ⟨p,hp,e,h1⟩
    · rw [hq,e]
    exfalso
    have hpi:p<k:=by
      by_cases h2:sh.getD p 0=2
      · obtain ⟨a,e2,b1,_,b3,_⟩:=(Tr.tree_kids hs hp).2 h2
        rcases h1 with h1 | h1<;>omega
      have:=(Tr.tree_kids hs hp).1 h2
      omega
    have:=h0 p hpi
    rcases h1 with h1 | h1
    · exact this.1 h1
    exact this.2 h1
  rcases h0 with h0 | h0
  · rcases T.fst j (by omega) with e | ⟨m,hm,e,h1⟩
    · omega
    have:m=k:=by omega
    rw [hq,← this];exact h1.symm
  rcases T.snd j (by omega) with e | ⟨m,hm,e,h1⟩
  · omega
  have:m=k:=by omega
  rw [hq,← this];exact h1.symm
def nF (top:Int) (sh:List Int) (n i:Nat):Int:=if top=1 then -1 else Jd.lkF top sh n i
def nS (top:Int) (sh:List Int) (n i:Nat):Int:=if top=1 then -1 else Jd.lkS top sh n i
def nP (top:Int) (sh:List Int) (n i:Nat):Int:=if top=1 then -1 else lkP top sh n i
theorem lkP_row {top:Int} {sh:List Int} {n i:Nat} (h:¬ top=4):lkP top sh n i = -1:=by
  unfold lkP;rw [if_neg h];rfl
theorem both {sh:List Int} {i:Nat} (hs:shp sh=true) (hi:i<sh.length):(0≤Jd.lkS 4 sh sh.length i↔¬ Jd.lkF 4 sh sh.length i = -1):=by
  by_cases h:sh[i]=2
  · obtain ⟨a,e,b1,_,b3,_⟩:=(Tr.tree_kids hs hi).2 (by rw [Ct.getD_at hi];exact h)
    unfold Jd.lkF Jd.lkS
    rw [if_pos rfl,if_pos rfl]
    constructor
    · intro _;omega
    intro _;omega
  have:=Jd.t_0 hs hi h
  rw [this.1,this.2]
  constructor<;>omega
theorem lineS {sh:List Int} {n i:Nat} (hi:i<n):(0≤Jd.lkS 2 sh n i↔¬ Jd.lkS 2 sh n i = -1):=by
  unfold Jd.lkS rowL
  rw [if_neg (by omega)]
  dsimp only
  (repeat' split)<;>omega
theorem g_1 {p:Fm} {f:Int} {c:Cf} {fo:Bool} {m:Nat} (hm:m<p.msgs.length) (h:p.fault=1):hdG p f c fo m=c.se.getD m 0+c.fa.getD m 0:=by
  have:hdJ p f c p.msgs.length m=c.se.getD m 0+c.fa.getD m 0:=by unfold hdJ;rw [if_pos hm];unfold hdV;rw [if_pos (.inl h)]
  unfold hdG
  rw [if_pos h]
  split<;>exact this
theorem g_f {p:Fm} {f:Int} {c:Cf} {m:Nat} (hm:m<p.msgs.length):hdG p f c false m=hdV p f c m:=by
  unfold hdG
  rw [if_neg (by decide)]
  unfold hdJ;rw [if_pos hm]
theorem g_t {p:Fm} {f:Int} {c:Cf} {m:Nat} (h:¬ p.fault=1):hdG p f c true m=c.se.getD m 0:=by
  unfold hdG
  rw [if_pos rfl,if_neg h]
theorem g_2 {p:Fm} {f:Int} {c:Cf} {fo:Bool} {m:Nat} (hm:m<p.msgs.length) (h:p.fault=2) (e:fo=false):hdG p f c fo m=c.se.getD m 0+c.fa.getD m 0:=by
  rw [e,g_f hm];unfold hdV;rw [if_pos (.inr h)]
theorem g_3 {p:Fm} {f:Int} {c:Cf} {fo:Bool} {m:Nat} (hm:m<p.msgs.length) (h1:¬ p.fault=1) (h2:¬ p.fault=2) (h3:p.fault=3) (e:fo=false):hdG p f c fo m=c.se.getD m 0+f:=by
  rw [e,g_f hm];unfold hdV;rw [if_neg (by omega),if_pos h3]
theorem g_0 {p:Fm} {f:Int} {c:Cf} {fo:Bool} {m:Nat} (hm:m<p.msgs.length) (h1:¬ p.fault=1) (h2:¬ p.fault=2) (h3:¬ p.fault=3):hdG p f c fo m=c.se.getD m 0:=by
  cases fo with
  | true=>exact g_t h1
  | false=>rw [g_f hm];unfold hdV;rw [if_neg (by omega),if_neg h3]
end En
theorem rEv_c {l:Ln} {n t f:Int}:Ctr Tryz.prog J 79 [.agg (cLn l),.agg (cSz n t f)] (.tup [iv (evN l.c l.n l.t l.f n t f),iv (evE l.c l.n l.t l.f n t f)]):=ctr2 fun w v v' _ h h'=>by
  obtain ⟨vs,rfl,hl,hv⟩:=Y3 h
  have e:vs=[.int .i64 l.c,.int .i64 l.n,.int .i64 l.t,.int .i64 l.f]:=by
    rw [cells4 hl,(hv 0 (by simp [cLn])).v_inv,(hv 1 (by simp [cLn])).v_inv,(hv 2 (by simp [cLn])).v_inv,(hv 3 (by simp [cLn])).v_inv]
  subst e
  rw [sz_of h']
  exact (rEvaluate_any l.c l.n l.t l.f n t f w).mono fun _ _ hh=>⟨_,hh.1,.tup rfl fun j hj=>(match j,hj with
    | 0,_ => .v _
    | 1,_ => .v _),by first | exact hh.2 | (rw [← hh.2];exact Below.refl _ _) | (rw [hh.2];exact Below.refl _ _)⟩
theorem nbTreeP_c {sh:List Int} (hI:InOk sh) (hs:shp sh=true) (lsh:sh.length≤100) {i:Nat} (hi:i<sh.length):Ctr Tryz.prog J 56 [iv 4,Ze sh,iv sh.length,iv i] (.tup [iv (Jd.lkF 4 sh sh.length i),iv (Jd.lkS 4 sh sh.length i),iv (En.lkP 4 sh sh.length i)]):=by
 refine Zw Tryz.func56 rfl (by intro X hX;simp only [List.mem_cons,List.not_mem_nil,or_false] at hX;rcases hX with rfl | rfl | rfl | rfl;exact .v _;exact Z6 _;exact .v _;exact .v _) (n:=99) rfl (by simp) (fun w0 => ?_)
 refine kW 99 [] [(0,iv 4),(1,Ze sh),(2,iv sh.length),(3,iv i)] (Zb (Za (pM (aC (.int .i64 0)) (pM (aC (.int .i64 0)) (pM (aC (.int .i64 0)) (Zd (Zc (Zb (Zb (Za (pM (mT 3 (iv i)) (pM (mT 2 (iv sh.length)) (oC (Z5 (c:=((sh.length:Nat):Int)-1) rfl (w64 (by omega) (by omega) (by omega))) I0 I0 (ZM rfl (sc #[.tmp 18,.const (.int .i64 0),.tmp 20] [] (ZA Ko (Jd.in_w hi)) [iv i,iv 0,iv (((sh.length:Nat):Int)-1)] rfl rfl rfl) ⟨I0,I0,I0,I0,T0⟩ T0 T0 (oA (Zr rfl rfl) I0 (Zd (Zc (Zn rfl (Zi (Zc (Zb (Zb (Za ?_)))))))))))))))))))))))
 refine pM (mT 0 (iv 4)) (oC (Zp (r:=false) rfl (by decide)) I0 I0 (Zd (Zc (Zn rfl (Zi (Zc (Zb (Zb (Za (pM (mT 0 (iv 4)) (oC (Zp (r:=false) rfl (by decide)) I0 I0 (Zd (Zc (Zn rfl (Zi (Zc (Zb (Zb (Za (pM (mT 0 (iv 4)) (oC (Zv (r:=false) rfl (by decide)) I0 I0 (pM (mT 48 bF) (qM (mT 1 (Ze sh)) ?_)))))))))))))))))))))))
 refine gA (nS 50 U24) I0 (qM (mT 2 (iv sh.length)) (gC (Zv rfl (dT' rfl)) I0 I0 (pP (pk false bT bF rfl) (pM (mT 54 bF) (qM (mT 1 (Ze sh)) (gC (sc #[.tmp 56] [] (ZA (Rd.IsShape_c hI lsh) hs) [Ze sh] rfl rfl rfl) I0 I0 (gA (Zr rfl rfl) I0 (pP (pk false bT bF rfl) (Zd (Zc (Zn rfl (Zi (Zc (Zb (Za (pM (aC (.int .i64 (-1))) (pM (aC (.int .i64 (-1))) (pM (aC (.int .i64 (-1))) (Zd (Zc (Zb (Zb ?_))))))))))))))))))))))
 by_cases hs1:sh[i]=2
 refine Za (pM (mT 1 (Ze sh)) (pM (mT 3 (iv i)) (oC (xS (i*1) 60 61 U24) I0 I0 (oA (lE (iv sh[i]) 62 U3 (ZU sh (by omega))) I0 (oC (Zp rfl (dT hs1)) I0 I0 (Zd (Zc (Zm rfl (Zb (Za (pM (mT 3 (iv i)) (oC (ZZ (c:=((i+1:Nat):Int)) rfl (w64 (by omega) (by omega) (by omega))) I0 I0 (pM (aT 66 (iv (i+1:Nat))) (Zd (Zc (Za (pM (mT 1 (Ze sh)) (pM (mT 3 (iv i)) (oC (ZZ (c:=((i+1:Nat):Int)) rfl (w64 (by omega) (by omega) (by omega))) I0 I0 (oD (sc #[.tmp 67,.tmp 69] [] (endT_c hs lsh (by omega) hs1) [Ze sh,iv (i+1:Nat)] rfl rfl rfl) I0 I0 I0 (pM (aT 70 (iv ((trun sh sh.length).se i))) (kN 99 [] [(1,Ze sh),(3,iv i),(8,iv 0),(9,iv 0),(10,iv 0),(14,iv (i+1:Nat)),(15,iv ((trun sh sh.length).se i)),(16,iv (-1))] (Zc ?_)))))))))))))))))))))))
 refine Zb (Zb (Za (pM (aC (.int .i64 0)) (kN 99 [] [(1,Ze sh),(3,iv i),(8,iv 0),(9,iv 0),(10,iv 0),(14,iv (i+1:Nat)),(15,iv ((trun sh sh.length).se i)),(16,iv (-1)),(17,iv 0)] (Zc (Zy ?_))))))
 refine Yd (σ:={s:Nat × Int // s.1≤i∧En.parI sh i s.1 s.2}) (fun s=>(ofL [],ofT 99 [(1,Ze sh),(3,iv i),(8,iv 0),(9,iv 0),(10,iv 0),(14,iv (i+1:Nat)),(15,iv ((trun sh sh.length).se i)),(16,iv s.1.2),(17,iv s.1.1)])) (fun s=>i-s.1.1) ⟨(0,-1),Nat.zero_le _,En.par_zero⟩ (Zk [] _ rfl (by kernel_rfl) (by kernel_rfl)) (fun s => ?_)
 obtain ⟨⟨k,q⟩,hk0,hpi⟩:=s
 show ETri J w0 (ofL []) (ofT 99 [(1,Ze sh),(3,iv i),(8,iv 0),(9,iv 0),(10,iv 0),(14,iv (i+1:Nat)),(15,iv ((trun sh sh.length).se i)),(16,iv q),(17,iv k)]) _
 dsimp only at hk0 hpi
 refine Zb (Zb ?_)
 by_cases hs2:((k:Nat):Int)<((i:Nat):Int)
 refine Za (pM (mT 17 (iv k)) (pM (mT 3 (iv i)) (oC (ZW rfl (dT hs2)) I0 I0 (Zd (Zc (Zm rfl (Zi (Zc (Zb (Zy (Zb ?_)))))))))))
 by_cases hs3:sh[k]=2
 by_cases hs4:((k+1:Nat):Int)=((i:Nat):Int)
 refine Za (pM (mT 1 (Ze sh)) (pM (mT 17 (iv k)) (oC (xS (k*1) 76 77 U24) I0 I0 (oA (lE (iv sh[k]) 78 U3 (ZU sh (by omega))) I0 (oC (Zp rfl (dT hs3)) I0 I0 (pM (mT 80 bT) (qM (mT 17 (iv k)) (gC (ZZ (c:=((k+1:Nat):Int)) rfl (w64 (by omega) (by omega) (by omega))) I0 I0 (qM (mT 3 (iv i)) (gC (Zp rfl (dT hs4)) I0 I0 (qM (mT 85 bT) (qK (qK (qK (qK (qK (qK (qP (pk true bT (.v (.tuple #[])) rfl) (pP (pk true bT bF rfl) (Zd (Zc (Zm rfl (Za ?_)))))))))))))))))))))))
 refine pM (mT 17 (iv k)) (pM (aT 95 (iv k)) (Zd (ZL (Zc (Za (pM (mT 17 (iv k)) (oC (ZZ (c:=((k+1:Nat):Int)) rfl (w64 (by omega) (by omega) (by omega))) I0 I0 (pM (aT 75 (iv (k+1:Nat))) (kN 99 [] [(1,Ze sh),(3,iv i),(8,iv 0),(9,iv 0),(10,iv 0),(14,iv (i+1:Nat)),(15,iv ((trun sh sh.length).se i)),(16,iv k),(17,iv (k+1:Nat)),(73,bT),(94,bT)] (Zc ?_))))))))))
 refine ZI ⟨(k+1,((k:Nat):Int)),by dsimp only;omega,(En.par_here hs (by omega) hs3 (.inl hs4))⟩ (show i-(k+1)<i-k by omega) ?_
 show Wk _ _ (ofL []) (ofT 99 [(1,Ze sh),(3,iv i),(8,iv 0),(9,iv 0),(10,iv 0),(14,iv (i+1:Nat)),(15,iv ((trun sh sh.length).se i)),(16,iv ((k:Nat):Int)),(17,iv ((k+1):Nat))])
 exact Zk [] _ rfl (by kernel_rfl) (by kernel_rfl)
 by_cases hs5:((trun sh sh.length).se k)=((i:Nat):Int)
 refine Za (pM (mT 1 (Ze sh)) (pM (mT 17 (iv k)) (oC (xS (k*1) 76 77 U24) I0 I0 (oA (lE (iv sh[k]) 78 U3 (ZU sh (by omega))) I0 (oC (Zp rfl (dT hs3)) I0 I0 (pM (mT 80 bT) (qM (mT 17 (iv k)) (gC (ZZ (c:=((k+1:Nat):Int)) rfl (w64 (by omega) (by omega) (by omega))) I0 I0 (qM (mT 3 (iv i)) (gC (Zp rfl (dF hs4)) I0 I0 (qM (mT 85 bF) (qM (mT 1 (Ze sh)) (qM (mT 17 (iv k)) (gC (ZZ (c:=((k+1:Nat):Int)) rfl (w64 (by omega) (by omega) (by omega))) I0 I0 (gD (sc #[.tmp 87,.tmp 89] [] (endT_c hs lsh (by omega) hs3) [Ze sh,iv (k+1:Nat)] rfl rfl rfl) I0 I0 I0 (qM (mT 3 (iv i)) (gC (Zp rfl (dT hs5)) I0 I0 (qP (pk false bT bT rfl) (pP (pk true bT bF rfl) (Zd (Zc (Zm rfl (Za ?_)))))))))))))))))))))))
 refine pM (mT 17 (iv k)) (pM (aT 95 (iv k)) (Zd (ZL (Zc (Za (pM (mT 17 (iv k)) (oC (ZZ (c:=((k+1:Nat):Int)) rfl (w64 (by omega) (by omega) (by omega))) I0 I0 (pM (aT 75 (iv (k+1:Nat))) (kN 99 [] [(1,Ze sh),(3,iv i),(8,iv 0),(9,iv 0),(10,iv 0),(14,iv (i+1:Nat)),(15,iv ((trun sh sh.length).se i)),(16,iv k),(17,iv (k+1:Nat)),(73,bT),(94,bT)] (Zc ?_))))))))))
 refine ZI ⟨(k+1,((k:Nat):Int)),by dsimp only;omega,(En.par_here hs (by omega) hs3 (.inr hs5))⟩ (show i-(k+1)<i-k by omega) ?_
 show Wk _ _ (ofL []) (ofT 99 [(1,Ze sh),(3,iv i),(8,iv 0),(9,iv 0),(10,iv 0),(14,iv (i+1:Nat)),(15,iv ((trun sh sh.length).se i)),(16,iv ((k:Nat):Int)),(17,iv ((k+1):Nat))])
 exact Zk [] _ rfl (by kernel_rfl) (by kernel_rfl)
 refine Za (pM (mT 1 (Ze sh)) (pM (mT 17 (iv k)) (oC (xS (k*1) 76 77 U24) I0 I0 (oA (lE (iv sh[k]) 78 U3 (ZU sh (by omega))) I0 (oC (Zp rfl (dT hs3)) I0 I0 (pM (mT 80 bT) (qM (mT 17 (iv k)) (gC (ZZ (c:=((k+1:Nat):Int)) rfl (w64 (by omega) (by omega) (by omega))) I0 I0 (qM (mT 3 (iv i)) (gC (Zp rfl (dF hs4)) I0 I0 (qM (mT 85 bF) (qM (mT 1 (Ze sh)) (qM (mT 17 (iv k)) (gC (ZZ (c:=((k+1:Nat):Int)) rfl (w64 (by omega) (by omega) (by omega))) I0 I0 (gD (sc #[.tmp 87,.tmp 89] [] (endT_c hs lsh (by omega) hs3) [Ze sh,iv (k+1:Nat)] rfl rfl rfl) I0 I0 I0 (qM (mT 3 (iv i)) (gC (Zp rfl (dF hs5)) I0 I0 (qP (pk false bT bF rfl) (pP (pk true bF bF rfl) (Zd (Zc (Zn rfl (Zi ?_)))))))))))))))))))))))
 refine ZL (Zc (Za (pM (mT 17 (iv k)) (oC (ZZ (c:=((k+1:Nat):Int)) rfl (w64 (by omega) (by omega) (by omega))) I0 I0 (pM (aT 75 (iv (k+1:Nat))) (kN 99 [] [(1,Ze sh),(3,iv i),(8,iv 0),(9,iv 0),(10,iv 0),(14,iv (i+1:Nat)),(15,iv ((trun sh sh.length).se i)),(16,iv q),(17,iv (k+1:Nat)),(73,bT),(94,bF)] (Zc ?_)))))))
 refine ZI ⟨(k+1,q),by dsimp only;omega,(En.par_skip hs (by omega) hpi (.inr ⟨hs3,hs4,hs5⟩))⟩ (show i-(k+1)<i-k by omega) ?_
 show Wk _ _ (ofL []) (ofT 99 [(1,Ze sh),(3,iv i),(8,iv 0),(9,iv 0),(10,iv 0),(14,iv (i+1:Nat)),(15,iv ((trun sh sh.length).se i)),(16,iv q),(17,iv ((k+1):Nat))])
 exact Zk [] _ rfl (by kernel_rfl) (by kernel_rfl)
 refine Za (pM (mT 1 (Ze sh)) (pM (mT 17 (iv k)) (oC (xS (k*1) 76 77 U24) I0 I0 (oA (lE (iv sh[k]) 78 U3 (ZU sh (by omega))) I0 (oC (Zp rfl (dF hs3)) I0 I0 (pM (mT 80 bF) (qK (qK (qK (qK (qK (qK (qK (qK (qK (qK (qK (qK (pP (pk false (.v (.tuple #[])) bF rfl) (Zd (Zc (Zn rfl (Zi ?_)))))))))))))))))))))))
 refine ZL (Zc (Za (pM (mT 17 (iv k)) (oC (ZZ (c:=((k+1:Nat):Int)) rfl (w64 (by omega) (by omega) (by omega))) I0 I0 (pM (aT 75 (iv (k+1:Nat))) (kN 99 [] [(1,Ze sh),(3,iv i),(8,iv 0),(9,iv 0),(10,iv 0),(14,iv (i+1:Nat)),(15,iv ((trun sh sh.length).se i)),(16,iv q),(17,iv (k+1:Nat)),(73,bT),(94,bF)] (Zc ?_)))))))
 refine ZI ⟨(k+1,q),by dsimp only;omega,(En.par_skip hs (by omega) hpi (.inl hs3))⟩ (show i-(k+1)<i-k by omega) ?_
 show Wk _ _ (ofL []) (ofT 99 [(1,Ze sh),(3,iv i),(8,iv 0),(9,iv 0),(10,iv 0),(14,iv (i+1:Nat)),(15,iv ((trun sh sh.length).se i)),(16,iv q),(17,iv ((k+1):Nat))])
 exact Zk [] _ rfl (by kernel_rfl) (by kernel_rfl)
 refine Za (pM (mT 17 (iv k)) (pM (mT 3 (iv i)) (oC (ZW rfl (dF hs2)) I0 I0 (Zd (Zc (Zn rfl (Yb (Zt (Zt (Kb (Zc (Zb (Za (pM (mT 14 (iv (i+1:Nat))) (pM (mT 15 (iv ((trun sh sh.length).se i))) (pM (mT 16 (iv q)) (pM (aT 96 (iv (i+1:Nat))) (pM (aT 97 (iv ((trun sh sh.length).se i))) (pM (aT 98 (iv q)) (Zd (Zc (Zl ?_))))))))))))))))))))))
 refine Kt Tryz.results56 (.tmp rfl) (.tmp rfl) (.tmp rfl) ?_
 rw [(Jd.t_2 hs hi hs1).1,(Jd.t_2 hs hi hs1).2,← En.par_end hs hi (by omega) hk0 hpi]
 exact rfl
 refine Za (pM (mT 1 (Ze sh)) (pM (mT 3 (iv i)) (oC (xS (i*1) 60 61 U24) I0 I0 (oA (lE (iv sh[i]) 62 U3 (ZU sh (by omega))) I0 (oC (Zp rfl (dF hs1)) I0 I0 (Zd (Zc (Zn rfl (Zi (Zc (Zb (Zb (Za (pM (aC (.int .i64 0)) (kN 99 [] [(1,Ze sh),(3,iv i),(8,iv 0),(9,iv 0),(10,iv 0),(14,iv (-1)),(15,iv (-1)),(16,iv (-1)),(17,iv 0)] (Zc (Zy ?_)))))))))))))))))
 refine Yd (σ:={s:Nat × Int // s.1≤i∧En.parI sh i s.1 s.2}) (fun s=>(ofL [],ofT 99 [(1,Ze sh),(3,iv i),(8,iv 0),(9,iv 0),(10,iv 0),(14,iv (-1)),(15,iv (-1)),(16,iv s.1.2),(17,iv s.1.1)])) (fun s=>i-s.1.1) ⟨(0,-1),Nat.zero_le _,En.par_zero⟩ (Zk [] _ rfl (by kernel_rfl) (by kernel_rfl)) (fun s => ?_)
 obtain ⟨⟨k,q⟩,hk0,hpi⟩:=s
 show ETri J w0 (ofL []) (ofT 99 [(1,Ze sh),(3,iv i),(8,iv 0),(9,iv 0),(10,iv 0),(14,iv (-1)),(15,iv (-1)),(16,iv q),(17,iv k)]) _
 dsimp only at hk0 hpi
 refine Zb (Zb ?_)
 by_cases hs6:((k:Nat):Int)<((i:Nat):Int)
 refine Za (pM (mT 17 (iv k)) (pM (mT 3 (iv i)) (oC (ZW rfl (dT hs6)) I0 I0 (Zd (Zc (Zm rfl (Zi (Zc (Zb (Zy (Zb ?_)))))))))))
 by_cases hs7:sh[k]=2
 by_cases hs8:((k+1:Nat):Int)=((i:Nat):Int)
 refine Za (pM (mT 1 (Ze sh)) (pM (mT 17 (iv k)) (oC (xS (k*1) 76 77 U24) I0 I0 (oA (lE (iv sh[k]) 78 U3 (ZU sh (by omega))) I0 (oC (Zp rfl (dT hs7)) I0 I0 (pM (mT 80 bT) (qM (mT 17 (iv k)) (gC (ZZ (c:=((k+1:Nat):Int)) rfl (w64 (by omega) (by omega) (by omega))) I0 I0 (qM (mT 3 (iv i)) (gC (Zp rfl (dT hs8)) I0 I0 (qM (mT 85 bT) (qK (qK (qK (qK (qK (qK (qP (pk true bT (.v (.tuple #[])) rfl) (pP (pk true bT bF rfl) (Zd (Zc (Zm rfl (Za ?_)))))))))))))))))))))))
 refine pM (mT 17 (iv k)) (pM (aT 95 (iv k)) (Zd (ZL (Zc (Za (pM (mT 17 (iv k)) (oC (ZZ (c:=((k+1:Nat):Int)) rfl (w64 (by omega) (by omega) (by omega))) I0 I0 (pM (aT 75 (iv (k+1:Nat))) (kN 99 [] [(1,Ze sh),(3,iv i),(8,iv 0),(9,iv 0),(10,iv 0),(14,iv (-1)),(15,iv (-1)),(16,iv k),(17,iv (k+1:Nat)),(73,bT),(94,bT)] (Zc ?_))))))))))
 refine ZI ⟨(k+1,((k:Nat):Int)),by dsimp only;omega,(En.par_here hs (by omega) hs7 (.inl hs8))⟩ (show i-(k+1)<i-k by omega) ?_
 show Wk _ _ (ofL []) (ofT 99 [(1,Ze sh),(3,iv i),(8,iv 0),(9,iv 0),(10,iv 0),(14,iv (-1)),(15,iv (-1)),(16,iv ((k:Nat):Int)),(17,iv ((k+1):Nat))])
 exact Zk [] _ rfl (by kernel_rfl) (by kernel_rfl)
 by_cases hs9:((trun sh sh.length).se k)=((i:Nat):Int)
 refine Za (pM (mT 1 (Ze sh)) (pM (mT 17 (iv k)) (oC (xS (k*1) 76 77 U24) I0 I0 (oA (lE (iv sh[k]) 78 U3 (ZU sh (by omega))) I0 (oC (Zp rfl (dT hs7)) I0 I0 (pM (mT 80 bT) (qM (mT 17 (iv k)) (gC (ZZ (c:=((k+1:Nat):Int)) rfl (w64 (by omega) (by omega) (by omega))) I0 I0 (qM (mT 3 (iv i)) (gC (Zp rfl (dF hs8)) I0 I0 (qM (mT 85 bF) (qM (mT 1 (Ze sh)) (qM (mT 17 (iv k)) (gC (ZZ (c:=((k+1:Nat):Int)) rfl (w64 (by omega) (by omega) (by omega))) I0 I0 (gD (sc #[.tmp 87,.tmp 89] [] (endT_c hs lsh (by omega) hs7) [Ze sh,iv (k+1:Nat)] rfl rfl rfl) I0 I0 I0 (qM (mT 3 (iv i)) (gC (Zp rfl (dT hs9)) I0 I0 (qP (pk false bT bT rfl) (pP (pk true bT bF rfl) (Zd (Zc (Zm rfl (Za ?_)))))))))))))))))))))))
 refine pM (mT 17 (iv k)) (pM (aT 95 (iv k)) (Zd (ZL (Zc (Za (pM (mT 17 (iv k)) (oC (ZZ (c:=((k+1:Nat):Int)) rfl (w64 (by omega) (by omega) (by omega))) I0 I0 (pM (aT 75 (iv (k+1:Nat))) (kN 99 [] [(1,Ze sh),(3,iv i),(8,iv 0),(9,iv 0),(10,iv 0),(14,iv (-1)),(15,iv (-1)),(16,iv k),(17,iv (k+1:Nat)),(73,bT),(94,bT)] (Zc ?_))))))))))
 refine ZI ⟨(k+1,((k:Nat):Int)),by dsimp only;omega,(En.par_here hs (by omega) hs7 (.inr hs9))⟩ (show i-(k+1)<i-k by omega) ?_
 show Wk _ _ (ofL []) (ofT 99 [(1,Ze sh),(3,iv i),(8,iv 0),(9,iv 0),(10,iv 0),(14,iv (-1)),(15,iv (-1)),(16,iv ((k:Nat):Int)),(17,iv ((k+1):Nat))])
 exact Zk [] _ rfl (by kernel_rfl) (by kernel_rfl)
 refine Za (pM (mT 1 (Ze sh)) (pM (mT 17 (iv k)) (oC (xS (k*1) 76 77 U24) I0 I0 (oA (lE (iv sh[k]) 78 U3 (ZU sh (by omega))) I0 (oC (Zp rfl (dT hs7)) I0 I0 (pM (mT 80 bT) (qM (mT 17 (iv k)) (gC (ZZ (c:=((k+1:Nat):Int)) rfl (w64 (by omega) (by omega) (by omega))) I0 I0 (qM (mT 3 (iv i)) (gC (Zp rfl (dF hs8)) I0 I0 (qM (mT 85 bF) (qM (mT 1 (Ze sh)) (qM (mT 17 (iv k)) (gC (ZZ (c:=((k+1:Nat):Int)) rfl (w64 (by omega) (by omega) (by omega))) I0 I0 (gD (sc #[.tmp 87,.tmp 89] [] (endT_c hs lsh (by omega) hs7) [Ze sh,iv (k+1:Nat)] rfl rfl rfl) I0 I0 I0 (qM (mT 3 (iv i)) (gC (Zp rfl (dF hs9)) I0 I0 (qP (pk false bT bF rfl) (pP (pk true bF bF rfl) (Zd (Zc (Zn rfl (Zi ?_)))))))))))))))))))))))
 refine ZL (Zc (Za (pM (mT 17 (iv k)) (oC (ZZ (c:=((k+1:Nat):Int)) rfl (w64 (by omega) (by omega) (by omega))) I0 I0 (pM (aT 75 (iv (k+1:Nat))) (kN 99 [] [(1,Ze sh),(3,iv i),(8,iv 0),(9,iv 0),(10,iv 0),(14,iv (-1)),(15,iv (-1)),(16,iv q),(17,iv (k+1:Nat)),(73,bT),(94,bF)] (Zc ?_)))))))
 refine ZI ⟨(k+1,q),by dsimp only;omega,(En.par_skip hs (by omega) hpi (.inr ⟨hs7,hs8,hs9⟩))⟩ (show i-(k+1)<i-k by omega) ?_
 show Wk _ _ (ofL []) (ofT 99 [(1,Ze sh),(3,iv i),(8,iv 0),(9,iv 0),(10,iv 0),(14,iv (-1)),(15,iv (-1)),(16,iv q),(17,iv ((k+1):Nat))])
 exact Zk [] _ rfl (by kernel_rfl) (by kernel_rfl)
 refine Za (pM (mT 1 (Ze sh)) (pM (mT 17 (iv k)) (oC (xS (k*1) 76 77 U24) I0 I0 (oA (lE (iv sh[k]) 78 U3 (ZU sh (by omega))) I0 (oC (Zp rfl (dF hs7)) I0 I0 (pM (mT 80 bF) (qK (qK (qK (qK (qK (qK (qK (qK (qK (qK (qK (qK (pP (pk false (.v (.tuple #[])) bF rfl) (Zd (Zc (Zn rfl (Zi ?_)))))))))))))))))))))))
 refine ZL (Zc (Za (pM (mT 17 (iv k)) (oC (ZZ (c:=((k+1:Nat):Int)) rfl (w64 (by omega) (by omega) (by omega))) I0 I0 (pM (aT 75 (iv (k+1:Nat))) (kN 99 [] [(1,Ze sh),(3,iv i),(8,iv 0),(9,iv 0),(10,iv 0),(14,iv (-1)),(15,iv (-1)),(16,iv q),(17,iv (k+1:Nat)),(73,bT),(94,bF)] (Zc ?_)))))))
 refine ZI ⟨(k+1,q),by dsimp only;omega,(En.par_skip hs (by omega) hpi (.inl hs7))⟩ (show i-(k+1)<i-k by omega) ?_
 show Wk _ _ (ofL []) (ofT 99 [(1,Ze sh),(3,iv i),(8,iv 0),(9,iv 0),(10,iv 0),(14,iv (-1)),(15,iv (-1)),(16,iv q),(17,iv ((k+1):Nat))])
 exact Zk [] _ rfl (by kernel_rfl) (by kernel_rfl)
 refine Za (pM (mT 17 (iv k)) (pM (mT 3 (iv i)) (oC (ZW rfl (dF hs6)) I0 I0 (Zd (Zc (Zn rfl (Yb (Zt (Zt (Kb (Zc (Zb (Za (pM (mT 14 (iv (-1))) (pM (mT 15 (iv (-1))) (pM (mT 16 (iv q)) (pM (aT 96 (iv (-1))) (pM (aT 97 (iv (-1))) (pM (aT 98 (iv q)) (Zd (Zc (Zl ?_))))))))))))))))))))))
 refine Kt Tryz.results56 (.tmp rfl) (.tmp rfl) (.tmp rfl) ?_
 rw [(Jd.t_0 hs hi hs1).1,(Jd.t_0 hs hi hs1).2,← En.par_end hs hi (by omega) hk0 hpi]
 exact rfl
theorem nbClq_c {n i:Nat} (hi:i<n) (hn:n≤100) {sh:List Int}:Ctr Tryz.prog J 56 [iv 1,Ze sh,iv n,iv i] (.tup [iv (-1),iv (-1),iv (-1)]):=by
 refine Zw Tryz.func56 rfl (by intro X hX;simp only [List.mem_cons,List.not_mem_nil,or_false] at hX;rcases hX with rfl | rfl | rfl | rfl;exact .v _;exact Z6 _;exact .v _;exact .v _) (n:=99) rfl (by simp) (fun w0 => ?_)
 refine kW 99 [] [(0,iv 1),(1,Ze sh),(2,iv n),(3,iv i)] (Zb (Za (pM (aC (.int .i64 0)) (pM (aC (.int .i64 0)) (pM (aC (.int .i64 0)) (Zd (Zc (Zb (Zb (Za (pM (mT 3 (iv i)) (pM (mT 2 (iv n)) (oC (Z5 (c:=((n:Nat):Int)-1) rfl (w64 (by omega) (by omega) (by omega))) I0 I0 (ZM rfl (sc #[.tmp 18,.const (.int .i64 0),.tmp 20] [] (ZA Ko (Jd.in_w hi)) [iv i,iv 0,iv (((n:Nat):Int)-1)] rfl rfl rfl) ⟨I0,I0,I0,I0,T0⟩ T0 T0 (oA (Zr rfl rfl) I0 (Zd (Zc (Zn rfl (Zi (Zc (Zb (Zb (Za ?_)))))))))))))))))))))))
 refine pM (mT 0 (iv 1)) (oC (Zp (r:=false) rfl (by decide)) I0 I0 (Zd (Zc (Zn rfl (Zi (Zc (Zb (Zb (Za (pM (mT 0 (iv 1)) (oC (Zp (r:=false) rfl (by decide)) I0 I0 (Zd (Zc (Zn rfl (Zi (Zc (Zb (Zb (Za (pM (mT 0 (iv 1)) (oC (Zv (r:=true) rfl (by decide)) I0 I0 (pM (mT 48 bT) (qK ?_)))))))))))))))))))))))
 refine qK (qK (qK (pP (pk true bT (.v (.tuple #[])) rfl) (pM (mT 54 bT) (qK (qK (qK (pP (pk true bT (.v (.tuple #[])) rfl) (Zd (Zc (Zm rfl (Zb (Za (pM (aC (.int .i64 (-1))) (pM (aC (.int .i64 (-1))) (pM (aC (.int .i64 (-1))) (Zd (Zc (Zl (Zf ?_))))))))))))))))))))
 refine Kt Tryz.results56 (.tmp rfl) (.tmp rfl) (.tmp rfl) ?_
 exact rfl
theorem nbP_c {p:Fm} {n f:Int} {c:Cf} (HC:Rd.CgOk c) (hc:En.CfV p n f c) (hv:valE p=0) {i:Nat} (hi:i<c.st.length):Ctr Tryz.prog J 56 [iv p.top,Ze c.sh,iv ((c.st.length:Nat):Int),iv ((i:Nat):Int)] (.tup [iv (En.nF p.top c.sh c.st.length i),iv (En.nS p.top c.sh c.st.length i),iv (En.nP p.top c.sh c.st.length i)]):=by
  have ht:=Jd.top_in hv
  by_cases h1:p.top=1
  · rw [h1]
    exact nbClq_c hi HC.lst
  unfold En.nF En.nS En.nP
  rw [if_neg h1,if_neg h1,if_neg h1]
  by_cases h4:p.top=4
  · have hs:=En.sh_tree hc h4
    unfold isShp at hs
    simp only [Bool.and_eq_true,decide_eq_true_eq] at hs
    have hl:c.sh.length=c.st.length:=by omega
    rw [h4,← hl]
    exact nbTreeP_c HC.sh hs.2 HC.lsh (by omega)
  rw [En.lkP_row h4]
  obtain h | h:p.top=2∨p.top=3:=by omega
  · rw [h];exact nbLine_c hi HC.lst
  rw [h];exact nbRing_c hi HC.lst
theorem rheard_c {p:Fm} {n t f:Int} {c:Cf} (hc:En.CfV p n f c) (hf:0≤f∧f≤1048576) {x:Int} (h0:0≤x) (hm:x.toNat<p.msgs.length) {fo:Bool}:Ctr Tryz.prog J 80 [.agg (cFm p),.agg (cSz n t f),.agg (Rd.cCg c),iv x,bv fo] (iv (En.hdG p f c fo x.toNat)):=by
 have hse:x.toNat<c.se.length:=by rw [hc.ls];exact hm
 have hfa:x.toNat<c.fa.length:=by rw [hc.lf];exact hm
 have b1:=hc.se _ (List.getElem_mem hse)
 have b2:=hc.fa _ (List.getElem_mem hfa)
 refine Zw Tryz.func80 rfl (by intro X hX;simp only [List.mem_cons,List.not_mem_nil,or_false] at hX;rcases hX with rfl | rfl | rfl | rfl | rfl;exact Zq (Z9 p);exact Zq (Yi n t f);exact Zq (Rd.plain_cg c);exact .v _;exact .v _) (n:=54) rfl (by simp) (fun w0 => ?_)
 refine kW 54 [] [(0,.agg (cFm p)),(1,.agg (cSz n t f)),(2,.agg (Rd.cCg c)),(3,iv x),(4,bv fo)] (Zb (Za (ZM rfl (ZT (X := .agg (cFm p)) (k:=1) (.tmp 0) rfl rfl) ⟨I0,T0⟩ T0 rfl (ZM rfl (ZT (X := .agg (cSz n t f)) (k:=2) (.tmp 1) rfl rfl) ⟨I0,T0⟩ T0 rfl (ZM rfl (ZT (X := .agg (Rd.cCg c)) (k:=3) (.tmp 2) rfl rfl) ⟨I0,T0⟩ T0 rfl (pM (aC (.int .i64 0)) (Zd (Zc (Zb (Zb ?_))))))))))
 by_cases hs1:p.fault=1
 refine Za (oA (fb 5 5 U27 1) I0 (oB (lb (iv p.fault) 11 U3) I0 rfl (oC (Zp rfl (dT hs1)) I0 I0 (pM (mT 13 bT) (qK (qK (qK (qK (qK (qK (qK (pP (pk true bT (.v (.tuple #[])) rfl) (Zd (Zc (Zm rfl (Zb ?_))))))))))))))))
 refine Zs (dA (fb 3 7 U31 1) I0 (dB (lb (Ze c.se) 23 U24) I0 rfl (dM (mT 3 (iv x)) (dC (xS (x.toNat*1) 24 25 U24) I0 I0 (dA (lE (iv c.se[x.toNat]) 26 U3 (ZU c.se (by omega))) I0 (dA (fb 4 7 U31 1) I0 (dB (lb (Ze c.fa) 28 U24) I0 rfl (dM (mT 3 (iv x)) (dC (xS (x.toNat*1) 29 30 U24) I0 I0 (dA (lE (iv c.fa[x.toNat]) 31 U3 (ZU c.fa (by omega))) I0 (dC (ZZ (c:=c.se[x.toNat]+c.fa[x.toNat]) rfl (w64 (by omega) (by omega) (by omega))) I0 I0 (dM (aT 33 (iv (c.se[x.toNat]+c.fa[x.toNat]))) (dE ?_))))))))))))) (by kernel_rfl)
 show ETri J w0 _ _ _
 refine Zc (Zl (Zf ?_))
 refine Zh Tryz.results80 (.tmp rfl) ?_
 rw [En.g_1 hm hs1,Ct.getD_at hse,Ct.getD_at hfa]
 exact rfl
 by_cases hs2:p.fault=2
 by_cases hs3:fo=true
 rw [hs3]
 refine kW 54 [(1,.box 27 (cFm p)),(2,.box 29 (cSz n t f)),(3,.box 31 (Rd.cCg c))] [(3,iv x),(4,bT),(5,.box 1 0),(6,.box 2 0),(7,.box 3 0),(10,iv 0)] (Za (oA (fb 5 5 U27 1) I0 (oB (lb (iv p.fault) 11 U3) I0 rfl (oC (Zp rfl (dF hs1)) I0 I0 (pM (mT 13 bF) (gA (fb 5 5 U27 1) I0 (gB (lb (iv p.fault) 15 U3) I0 rfl (gC (Zp rfl (dT hs2)) I0 I0 (qM (mT 17 bT) (qM (mT 4 bT) (gA (Zr rfl rfl) I0 (qP (pk true bF bF rfl) (pP (pk false bT bF rfl) (Zd (Zc (Zn rfl (Zi (Zc (Zb (Zb (Za (oA (fb 5 5 U27 1) I0 (oB (lb (iv p.fault) 34 U3) I0 rfl ?_)))))))))))))))))))))))
 refine oC (Zp rfl (dF (by omega))) I0 I0 (pM (mT 36 bF) (qK (qK (pP (pk false (.v (.tuple #[])) bF rfl) (Zd (Zc (Zn rfl (Zi (Zc (Zb (Za (oA (fb 3 7 U31 1) I0 (oB (lb (Ze c.se) 49 U24) I0 rfl (pM (mT 3 (iv x)) (oC (xS (x.toNat*1) 50 51 U24) I0 I0 (oA (lE (iv c.se[x.toNat]) 52 U3 (ZU c.se (by omega))) I0 (pM (aT 53 (iv c.se[x.toNat])) (Zd (Zc (Zl ?_))))))))))))))))))))
 refine Zh Tryz.results80 (.tmp rfl) ?_
 rw [En.g_t hs1,Ct.getD_at hse]
 exact rfl
 have hs3f:fo=false:=by simpa using hs3
 rw [hs3f]
 refine kW 54 [(1,.box 27 (cFm p)),(2,.box 29 (cSz n t f)),(3,.box 31 (Rd.cCg c))] [(3,iv x),(4,bF),(5,.box 1 0),(6,.box 2 0),(7,.box 3 0),(10,iv 0)] (Za (oA (fb 5 5 U27 1) I0 (oB (lb (iv p.fault) 11 U3) I0 rfl (oC (Zp rfl (dF hs1)) I0 I0 (pM (mT 13 bF) (gA (fb 5 5 U27 1) I0 (gB (lb (iv p.fault) 15 U3) I0 rfl (gC (Zp rfl (dT hs2)) I0 I0 (qM (mT 17 bT) (qM (mT 4 bF) (gA (Zr rfl rfl) I0 (qP (pk true bT bF rfl) (pP (pk false bT bT rfl) (Zd (Zc (Zm rfl (Zb ?_)))))))))))))))))
 refine Zs (dA (fb 3 7 U31 1) I0 (dB (lb (Ze c.se) 23 U24) I0 rfl (dM (mT 3 (iv x)) (dC (xS (x.toNat*1) 24 25 U24) I0 I0 (dA (lE (iv c.se[x.toNat]) 26 U3 (ZU c.se (by omega))) I0 (dA (fb 4 7 U31 1) I0 (dB (lb (Ze c.fa) 28 U24) I0 rfl (dM (mT 3 (iv x)) (dC (xS (x.toNat*1) 29 30 U24) I0 I0 (dA (lE (iv c.fa[x.toNat]) 31 U3 (ZU c.fa (by omega))) I0 (dC (ZZ (c:=c.se[x.toNat]+c.fa[x.toNat]) rfl (w64 (by omega) (by omega) (by omega))) I0 I0 (dM (aT 33 (iv (c.se[x.toNat]+c.fa[x.toNat]))) (dE ?_))))))))))))) (by kernel_rfl)
 show ETri J w0 _ _ _
 refine Zc (Zl (Zf ?_))
 refine Zh Tryz.results80 (.tmp rfl) ?_
 rw [En.g_2 hm hs2 rfl,Ct.getD_at hse,Ct.getD_at hfa]
 exact rfl
 refine Za (oA (fb 5 5 U27 1) I0 (oB (lb (iv p.fault) 11 U3) I0 rfl (oC (Zp rfl (dF hs1)) I0 I0 (pM (mT 13 bF) (gA (fb 5 5 U27 1) I0 (gB (lb (iv p.fault) 15 U3) I0 rfl (gC (Zp rfl (dF hs2)) I0 I0 (qM (mT 17 bF) (qK (qK (qP (pk false (.v (.tuple #[])) bF rfl) (pP (pk false bT bF rfl) (Zd (Zc (Zn rfl (Zi (Zc (Zb (Zb ?_)))))))))))))))))))
 by_cases hs4:p.fault=3
 by_cases hs5:fo=true
 rw [hs5]
 refine kW 54 [(1,.box 27 (cFm p)),(2,.box 29 (cSz n t f)),(3,.box 31 (Rd.cCg c))] [(3,iv x),(4,bT),(5,.box 1 0),(6,.box 2 0),(7,.box 3 0),(10,iv 0),(22,bF)] (Za (oA (fb 5 5 U27 1) I0 (oB (lb (iv p.fault) 34 U3) I0 rfl (oC (Zp rfl (dT hs4)) I0 I0 (pM (mT 36 bT) (qM (mT 4 bT) (gA (Zr rfl rfl) I0 (pP (pk true bF bF rfl) (Zd (Zc (Zn rfl (Zi (Zc (Zb (Za (oA (fb 3 7 U31 1) I0 (oB (lb (Ze c.se) 49 U24) I0 rfl (pM (mT 3 (iv x)) (oC (xS (x.toNat*1) 50 51 U24) I0 I0 (oA (lE (iv c.se[x.toNat]) 52 U3 (ZU c.se (by omega))) I0 (pM (aT 53 (iv c.se[x.toNat])) (Zd (Zc ?_)))))))))))))))))))))))
 refine Zl ?_
 refine Zh Tryz.results80 (.tmp rfl) ?_
 rw [En.g_t hs1,Ct.getD_at hse]
 exact rfl
 have hs5f:fo=false:=by simpa using hs5
 rw [hs5f]
 refine kW 54 [(1,.box 27 (cFm p)),(2,.box 29 (cSz n t f)),(3,.box 31 (Rd.cCg c))] [(3,iv x),(4,bF),(5,.box 1 0),(6,.box 2 0),(7,.box 3 0),(10,iv 0),(22,bF)] (Za (oA (fb 5 5 U27 1) I0 (oB (lb (iv p.fault) 34 U3) I0 rfl (oC (Zp rfl (dT hs4)) I0 I0 (pM (mT 36 bT) (qM (mT 4 bF) (gA (Zr rfl rfl) I0 (pP (pk true bT bF rfl) (Zd (Zc (Zm rfl (Zb ?_))))))))))))
 refine Zs (dA (fb 3 7 U31 1) I0 (dB (lb (Ze c.se) 41 U24) I0 rfl (dM (mT 3 (iv x)) (dC (xS (x.toNat*1) 42 43 U24) I0 I0 (dA (lE (iv c.se[x.toNat]) 44 U3 (ZU c.se (by omega))) I0 (dA (fb 2 6 U29 1) I0 (dB (lb (iv f) 46 U3) I0 rfl (dC (ZZ (c:=c.se[x.toNat]+f) rfl (w64 (by omega) (by omega) (by omega))) I0 I0 (dM (aT 48 (iv (c.se[x.toNat]+f))) (dE ?_)))))))))) (by kernel_rfl)
 show ETri J w0 _ _ _
 refine Zc (Zl (Zf ?_))
 refine Zh Tryz.results80 (.tmp rfl) ?_
 rw [En.g_3 hm hs1 hs2 hs4 rfl,Ct.getD_at hse]
 exact rfl
 refine Za (oA (fb 5 5 U27 1) I0 (oB (lb (iv p.fault) 34 U3) I0 rfl (oC (Zp rfl (dF hs4)) I0 I0 (pM (mT 36 bF) (qK (qK (pP (pk false (.v (.tuple #[])) bF rfl) (Zd (Zc (Zn rfl (Zi (Zc (Zb (Za (oA (fb 3 7 U31 1) I0 (oB (lb (Ze c.se) 49 U24) I0 rfl (pM (mT 3 (iv x)) (oC (xS (x.toNat*1) 50 51 U24) I0 I0 (oA (lE (iv c.se[x.toNat]) 52 U3 (ZU c.se (by omega))) I0 (pM (aT 53 (iv c.se[x.toNat])) (Zd (Zc (Zl ?_)))))))))))))))))))))))
 refine Zh Tryz.results80 (.tmp rfl) ?_
 rw [En.g_0 hm hs1 hs2 hs4,Ct.getD_at hse]
 exact rfl
theorem K2 {c:Cf} (HC:Rd.CgOk c) {l:List Int} (ll:l.length≤9223372036854775807) {x:Int} (hx:x<((c.st.length:Nat):Int)):Ctr Tryz.prog J 58 [.agg (Rd.cCg c),Ze l,iv x] (bv (En.fitB c x l)):=by
 have l100:=HC.lst
 refine Zw Tryz.func58 rfl (by intro X hX;simp only [List.mem_cons,List.not_mem_nil,or_false] at hX;rcases hX with rfl | rfl | rfl;exact Zq (Rd.plain_cg c);exact Z6 _;exact .v _) (n:=23) rfl (by simp) (fun w0 => ?_)
 refine kW 23 [] [(0,.agg (Rd.cCg c)),(1,Ze l),(2,iv x)] (Zb (Za (ZM rfl (ZT (X := .agg (Rd.cCg c)) (k:=1) (.tmp 0) rfl rfl) ⟨I0,T0⟩ T0 rfl (pM (aC (.bool false)) (Zd (Zc (Zb ?_)))))))
 by_cases hs1:((l.length:Nat):Int)=0
 refine Za (pM (mT 1 (Ze l)) (oA (nS 7 U24) I0 (oC (Zp rfl (dT hs1)) I0 I0 (pM (mT 9 bT) (qK (qK (qK (qK (qK (qK (qK (qK (qK (qK (qK (pP (pk true bT (.v (.tuple #[])) rfl) (pM (aT 22 bT) (Zd (Zc (Zl ?_))))))))))))))))))))
 refine Zh Tryz.results58 (.tmp rfl) ?_
 exact congrArg (fun x:Bool=>AV.v (.bool x)) ((by unfold En.fitB;simp only [dT hs1,decide_true,decide_false,Bool.and_true,Bool.true_and,Bool.false_and,Bool.and_false,Bool.true_or,Bool.false_or,Bool.or_true,Bool.or_false,Bool.not_true,Bool.not_false]))
 by_cases hs2:0≤x
 refine Za (pM (mT 1 (Ze l)) (oA (nS 7 U24) I0 (oC (Zp rfl (dF hs1)) I0 I0 (pM (mT 9 bF) (qM (mT 2 (iv x)) (gC (YI rfl (dT hs2)) I0 I0 (qM (mT 12 bT) (qM (mT 1 (Ze l)) (gA (fb 1 3 U31 1) I0 (gB (lb (Ze c.st) 15 U24) I0 rfl (qM (mT 2 (iv x)) (gC (xS (x.toNat*1) 16 17 U24) I0 I0 (gA (lE (iv c.st[x.toNat]) 18 U3 (ZU c.st (by omega))) I0 (gD (sc #[.tmp 14,.tmp 19] [] (has_c l c.st[x.toNat] ll) [Ze l,iv c.st[x.toNat]] rfl rfl rfl) I0 I0 I0 (qP (pk true (bv (decide (c.st[x.toNat]∈l))) bF rfl) (pP (pk false bT (bv (decide (c.st[x.toNat]∈l))) rfl) (pM (aT 22 (bv (decide (c.st[x.toNat]∈l)))) (Zd (Zc (Zl ?_))))))))))))))))))))
 refine Zh Tryz.results58 (.tmp rfl) ?_
 exact congrArg (fun x:Bool=>AV.v (.bool x)) ((by unfold En.fitB;rw [Ct.getD_at (L:=c.st) (i:=x.toNat) (by omega)];simp only [dF hs1,dT hs2,decide_true,decide_false,Bool.and_true,Bool.true_and,Bool.false_and,Bool.and_false,Bool.true_or,Bool.false_or,Bool.or_true,Bool.or_false,Bool.not_true,Bool.not_false]))
 refine Za (pM (mT 1 (Ze l)) (oA (nS 7 U24) I0 (oC (Zp rfl (dF hs1)) I0 I0 (pM (mT 9 bF) (qM (mT 2 (iv x)) (gC (YI rfl (dF hs2)) I0 I0 (qM (mT 12 bF) (qK (qK (qK (qK (qK (qK (qK (qP (pk false (.v (.tuple #[])) bF rfl) (pP (pk false bT bF rfl) (pM (aT 22 bF) (Zd (Zc (Zl ?_))))))))))))))))))))
 refine Zh Tryz.results58 (.tmp rfl) ?_
 exact congrArg (fun x:Bool=>AV.v (.bool x)) ((by unfold En.fitB;simp only [dF hs1,dF hs2,decide_true,decide_false,Bool.and_true,Bool.true_and,Bool.false_and,Bool.and_false,Bool.true_or,Bool.false_or,Bool.or_true,Bool.or_false,Bool.not_true,Bool.not_false]))
end Go.Proofs.YtmobmhgobpipkaaGreat
