import Derived.Test.YtengacodacejiaaGrpheaimlea
import Derived.Test.YtengacodacejiaaGrppafemefo
import Derived.Test.YtengacodacejiaaGrpigjeemdo
import Derived.Test.YtengacodacejiaaGrpaigjopcg
import Derived.Test.YtengacodacejiaaGrpdkkmomim
set_option linter.all false
namespace Go.Proofs.Ytengacodacejiaa
open Go.RowKit Go.Deep
set_option maxRecDepth 100000
set_option maxHeartbeats 6400000
variable {J:World→Prop}
theorem fits_c {c:Cf} {sx:Int} {l:List Int} (ll:l.length≤9223372036854775807) {x:Int} (l8:c.st.length≤8) (hx:x<((c.st.length:Nat):Int)):Ctr Try.prog J 68 [.agg (En.cfV sx c),iv x,Zc l] (bv (En.fitB c x l)):=by
 refine Zy Try.func68 rfl (by intro X hX;simp only [List.mem_cons,List.not_mem_nil,or_false] at hX;rcases hX with rfl | rfl | rfl;exact Zi (En.plain_cfV _ c);exact .v _;exact Z7 _) (n:=22) rfl (by simp) (fun w0 => ?_)
 refine kW 22 [] [(0,.agg (En.cfV sx c)),(1,iv x),(2,Zc l)] (Zb (Za (oA (ZV (X := .agg (En.cfV sx c)) (.tmp 0) rfl rfl rfl) I0 (pM (aC (.bool false)) (Ze (Zd (Zb ?_)))))))
 by_cases hs1:((l.length:Nat):Int)=0
 refine Za (pM (mT 2 (Zc l)) (oA (nS 7 U24) I0 (oC (ZA rfl (dT hs1)) I0 I0 (pM (mT 9 bT) (qK (qK (qK (qK (qK (qK (qK (qK (qK (qK (pP (pk true bT (.v (.tuple #[])) rfl) (pM (aT 21 bT) (Ze (Zd (Zk ?_)))))))))))))))))))
 refine Zs Try.results68 (.tmp rfl) ?_
 exact congrArg (fun x:Bool=>AV.v (.bool x)) ((by unfold En.fitB;simp only [hs1,decide_true,decide_false,Bool.and_true,Bool.true_and,Bool.false_and,Bool.and_false,Bool.true_or,Bool.false_or,Bool.or_true,Bool.or_false,Bool.not_true,Bool.not_false]))
 by_cases hs2:0≤x
 refine Za (pM (mT 2 (Zc l)) (oA (nS 7 U24) I0 (oC (ZA rfl (dF hs1)) I0 I0 (pM (mT 9 bF) (qM (mT 1 (iv x)) (gC (Y0 rfl (dT hs2)) I0 I0 (qM (mT 12 bT) (qM (mT 2 (Zc l)) (qM (mT 1 (iv x)) (gA (fe 1 3 U78 8) I0 (gC (Z5 (off':=1+x.toNat*1) (.tmp 16) (.tmp 15) rfl U74 (by kernel_rfl) (by omega) (by omega) rfl) I0 I0 (gA (lE (iv (c.st.getD x.toNat 0)) 17 U3 (En.cfV_st (by omega))) I0 (gD (sc #[.tmp 14,.tmp 18] [] (KK l (c.st.getD x.toNat 0) ll) [Zc l,iv (c.st.getD x.toNat 0)] rfl rfl rfl) I0 I0 I0 (qP (pk true (bv (decide (c.st.getD x.toNat 0∈l))) bF rfl) (pP (pk false bT (bv (decide (c.st.getD x.toNat 0∈l))) rfl) (pM (aT 21 (bv (decide (c.st.getD x.toNat 0∈l)))) (Ze (Zd (Zk ?_)))))))))))))))))))
 refine Zs Try.results68 (.tmp rfl) ?_
 exact congrArg (fun x:Bool=>AV.v (.bool x)) ((by unfold En.fitB;simp only [hs1,hs2,decide_true,decide_false,Bool.and_true,Bool.true_and,Bool.false_and,Bool.and_false,Bool.true_or,Bool.false_or,Bool.or_true,Bool.or_false,Bool.not_true,Bool.not_false]))
 refine Za (pM (mT 2 (Zc l)) (oA (nS 7 U24) I0 (oC (ZA rfl (dF hs1)) I0 I0 (pM (mT 9 bF) (qM (mT 1 (iv x)) (gC (Y0 rfl (dF hs2)) I0 I0 (qM (mT 12 bF) (qK (qK (qK (qK (qK (qK (qP (pk false (.v (.tuple #[])) bF rfl) (pP (pk false bT bF rfl) (pM (aT 21 bF) (Ze (Zd (Zk ?_)))))))))))))))))))
 refine Zs Try.results68 (.tmp rfl) ?_
 exact congrArg (fun x:Bool=>AV.v (.bool x)) ((by unfold En.fitB;simp only [hs1,hs2,decide_true,decide_false,Bool.and_true,Bool.true_and,Bool.false_and,Bool.and_false,Bool.true_or,Bool.false_or,Bool.or_true,Bool.or_false,Bool.not_true,Bool.not_false]))
theorem neighH_c {p:Fm} {n t f:Int} {c:Cf} (hn:(Ns.cntE p n f).toNat=c.st.length) (l8:c.st.length≤8) {sx:Int} {r:Nat} (hr:r<p.rules.length) {i:Nat} (hi:i<c.st.length) {kp:Int} (hrl:RuLen p.rules[r]) (hx0:0≤sx) (hx1:sx<(((En.shS p.top (Ns.cntE p n f).toNat).length:Nat):Int)) (hx2:(En.shS p.top (Ns.cntE p n f).toNat)[sx.toNat]? = some c.sh) (hlk:Jd.lkF p.top c.sh c.st.length i<((c.st.length:Nat):Int)∧Jd.lkS p.top c.sh c.st.length i<((c.st.length:Nat):Int)∧En.lkP p.top c.sh c.st.length i<((c.st.length:Nat):Int)):Ctr Try.prog J 49 [.el (En.sysP p n t f) 0,.agg (En.cfV sx c),.agg [iv r,iv i,iv kp]] (bv (En.nbB p.top c p.rules[r] i)):=by
 refine Zy Try.func49 rfl (by intro X hX;simp only [List.mem_cons,List.not_mem_nil,or_false] at hX;rcases hX with rfl | rfl | rfl;exact (show Plain (.el (En.sysP p n t f) 0) from .el (ZQ (En.plain_sysP p n t f)));exact Zi (En.plain_cfV _ c);exact Zi (fun X hX=>by simp only [List.mem_cons,List.not_mem_nil,or_false] at hX;rcases hX with rfl | rfl | rfl<;>exact .v _)) (n:=79) rfl (by simp) (fun w0 => ?_)
 refine kW 79 [] [(0,.el (En.sysP p n t f) 0),(1,.agg (En.cfV sx c)),(2,.agg [iv r,iv i,iv kp])] (Zb (Za (oA (ZV (X := .agg (En.cfV sx c)) (.tmp 1) rfl rfl rfl) I0 (oA (ZV (X := .agg [iv r,iv i,iv kp]) (.tmp 2) rfl rfl rfl) I0 (pM (aC (.bool false)) (Ze (Zd (Zb ?_))))))))
 refine Zo (dM (mT 0 (.el (En.sysP p n t f) 0)) (dA (Zl (off:=0) (.tmp 9) rfl) I0 (dA (fe 0 10 U111 10) I0 (dA (fe 9 11 U27 1) I0 (dA (lE (slA 18 cRu p.rules) 12 U25) I0 (dA (fe 0 5 U35 1) I0 (dA (lE (iv r) 14 U3) I0 (dC (xS (r*18) 13 15 U25) I0 I0 (dM (aT 16 (.el (p.rules.flatMap cRu) (r*18))) (dE ?_)))))))))) (by kernel_rfl)
 show ETri J w0 _ _ _
 refine kW 79 [] [(0,.el (En.sysP p n t f) 0),(4,.el (En.cfV sx c) 0),(5,.el ([iv r,iv i,iv kp]) 0),(6,bF),(7,.el (p.rules.flatMap cRu) (r*18))] (Zd (Zb ?_))
 refine Zo (dM (mT 0 (.el (En.sysP p n t f) 0)) (dA (Zl (off:=0) (.tmp 17) rfl) I0 (dA (fe 32 18 U111 1) I0 (dA (lE (En.lkS p.top (Ns.cntE p n f).toNat) 19 U109) I0 (dA (fe 0 4 U78 1) I0 (dA (lE (iv sx) 21 U3) I0 (dC (xS (sx.toNat*1) 20 22 U109) I0 I0 (dA (lE (Jd.lkA p.top c.sh c.st.length) 23 U99 (En.links_at hx2 hn)) I0 (dA (fe 1 5 U35 1) I0 (dA (lE (iv i) 25 U3) I0 (dC (xS (i*3) 24 26 U99) I0 I0 (dA (Zq (z:=3) (.tmp 27) rfl U96 rfl (by kernel_rfl) (En.lk_el (by omega)) rfl) I0 (dR (ZJ (z := .agg #[.int .i64 0,.int .i64 0,.int .i64 0]) (k:=1) rfl (by kernel_rfl)) T0 T0 rfl (dR (sB 3 8 (.tmp 28) (.agg ([iv (Jd.lkF p.top c.sh c.st.length i),iv (Jd.lkS p.top c.sh c.st.length i),iv (En.lkP p.top c.sh c.st.length i)]))) ⟨I0,I0,T0⟩ ⟨rfl,T0⟩ rfl (dE ?_))))))))))))))) (by kernel_rfl)
 show ETri J w0 _ _ _
 refine kW 79 [(1,.box 96 ([iv (Jd.lkF p.top c.sh c.st.length i),iv (Jd.lkS p.top c.sh c.st.length i),iv (En.lkP p.top c.sh c.st.length i)]))] [(4,.el (En.cfV sx c) 0),(5,.el ([iv r,iv i,iv kp]) 0),(6,bF),(7,.el (p.rules.flatMap cRu) (r*18)),(8,.box 1 0)] (Zd (Zb (ZD (Zb ?_))))
 refine t_cut (True) (ofL [(1,.box 96 ([iv (Jd.lkF p.top c.sh c.st.length i),iv (Jd.lkS p.top c.sh c.st.length i),iv (En.lkP p.top c.sh c.st.length i)]))]) (ofT 79 [(4,.el (En.cfV sx c) 0),(6,bF),(7,.el (p.rules.flatMap cRu) (r*18)),(8,.box 1 0),(29,bv (decide (p.rules[r].pos=1) && !decide (((i:Nat):Int)=0)))]) ?_ (fun _ => ?_)
 by_cases hs1:p.rules[r].pos=1
 by_cases hs2:((i:Nat):Int)=0
 refine Za (pM (mT 7 (.el (p.rules.flatMap cRu) (r*18))) (oA (Zl (off:=r*18) (.tmp 30) rfl) I0 (oA (fe (r*18+13) 31 U65 1) I0 (oA (lE (iv p.rules[r].pos) 32 U3 ((Zu lenRu p.rules r 13 (by omega) (by decide)).trans rfl)) I0 (oC (ZA rfl (dT hs1)) I0 I0 (pM (mT 34 bT) (gA (fe 1 5 U35 1) I0 (gA (lE (iv i) 36 U3) I0 (gC (Z0 rfl (dT' hs2)) I0 I0 (pP (pk true bF bF rfl) (pM (aT 39 bF) (kN 79 [(1,.box 96 ([iv (Jd.lkF p.top c.sh c.st.length i),iv (Jd.lkS p.top c.sh c.st.length i),iv (En.lkP p.top c.sh c.st.length i)]))] [(4,.el (En.cfV sx c) 0),(6,bF),(7,.el (p.rules.flatMap cRu) (r*18)),(8,.box 1 0),(29,bF)] ?_))))))))))))
 rw [show ((decide (p.rules[r].pos=1) && !decide (((i:Nat):Int)=0)))=false by simp only [dT hs1,dT hs2,decide_true,decide_false,Bool.and_true,Bool.true_and,Bool.false_and,Bool.and_false,Bool.true_or,Bool.false_or,Bool.or_true,Bool.or_false,Bool.not_true,Bool.not_false]]
 exact YV T0 (ZC _ _ rfl (by kernel_rfl) (by kernel_rfl))
 refine Za (pM (mT 7 (.el (p.rules.flatMap cRu) (r*18))) (oA (Zl (off:=r*18) (.tmp 30) rfl) I0 (oA (fe (r*18+13) 31 U65 1) I0 (oA (lE (iv p.rules[r].pos) 32 U3 ((Zu lenRu p.rules r 13 (by omega) (by decide)).trans rfl)) I0 (oC (ZA rfl (dT hs1)) I0 I0 (pM (mT 34 bT) (gA (fe 1 5 U35 1) I0 (gA (lE (iv i) 36 U3) I0 (gC (Z0 rfl (dF' hs2)) I0 I0 (pP (pk true bT bF rfl) (pM (aT 39 bT) (kN 79 [(1,.box 96 ([iv (Jd.lkF p.top c.sh c.st.length i),iv (Jd.lkS p.top c.sh c.st.length i),iv (En.lkP p.top c.sh c.st.length i)]))] [(4,.el (En.cfV sx c) 0),(6,bF),(7,.el (p.rules.flatMap cRu) (r*18)),(8,.box 1 0),(29,bT)] ?_))))))))))))
 rw [show ((decide (p.rules[r].pos=1) && !decide (((i:Nat):Int)=0)))=true by simp only [dT hs1,dF hs2,decide_true,decide_false,Bool.and_true,Bool.true_and,Bool.false_and,Bool.and_false,Bool.true_or,Bool.false_or,Bool.or_true,Bool.or_false,Bool.not_true,Bool.not_false]]
 exact YV T0 (ZC _ _ rfl (by kernel_rfl) (by kernel_rfl))
 refine Za (pM (mT 7 (.el (p.rules.flatMap cRu) (r*18))) (oA (Zl (off:=r*18) (.tmp 30) rfl) I0 (oA (fe (r*18+13) 31 U65 1) I0 (oA (lE (iv p.rules[r].pos) 32 U3 ((Zu lenRu p.rules r 13 (by omega) (by decide)).trans rfl)) I0 (oC (ZA rfl (dF hs1)) I0 I0 (pM (mT 34 bF) (qK (qK (qK (pP (pk false (.v (.tuple #[])) bF rfl) (pM (aT 39 bF) (kN 79 [(1,.box 96 ([iv (Jd.lkF p.top c.sh c.st.length i),iv (Jd.lkS p.top c.sh c.st.length i),iv (En.lkP p.top c.sh c.st.length i)]))] [(4,.el (En.cfV sx c) 0),(6,bF),(7,.el (p.rules.flatMap cRu) (r*18)),(8,.box 1 0),(29,bF)] ?_))))))))))))
 rw [show ((decide (p.rules[r].pos=1) && !decide (((i:Nat):Int)=0)))=false by simp only [dF hs1,decide_true,decide_false,Bool.and_true,Bool.true_and,Bool.false_and,Bool.and_false,Bool.true_or,Bool.false_or,Bool.or_true,Bool.or_false,Bool.not_true,Bool.not_false]]
 exact YV T0 (ZC _ _ rfl (by kernel_rfl) (by kernel_rfl))
 refine Zd ?_
 by_cases hs3:(decide (p.rules[r].pos=1) && !decide (((i:Nat):Int)=0))=true
 rw [hs3]
 refine kW 79 [(1,.box 96 ([iv (Jd.lkF p.top c.sh c.st.length i),iv (Jd.lkS p.top c.sh c.st.length i),iv (En.lkP p.top c.sh c.st.length i)]))] [(4,.el (En.cfV sx c) 0),(6,bF),(7,.el (p.rules.flatMap cRu) (r*18)),(8,.box 1 0),(29,bT)] (Zm rfl (Zb (Za (pM (aC (.bool false)) (Ze (Zd (Zk (ZS (Zj ?_)))))))))
 refine Zs Try.results49 (.tmp rfl) ?_
 exact congrArg (fun x:Bool=>AV.v (.bool x)) ((by unfold En.nbB;simp only [hs3,decide_true,decide_false,Bool.and_true,Bool.true_and,Bool.false_and,Bool.and_false,Bool.true_or,Bool.false_or,Bool.or_true,Bool.or_false,Bool.not_true,Bool.not_false]))
 have hs3f:(decide (p.rules[r].pos=1) && !decide (((i:Nat):Int)=0))=false:=by simpa using hs3
 rw [hs3f]
 refine kW 79 [(1,.box 96 ([iv (Jd.lkF p.top c.sh c.st.length i),iv (Jd.lkS p.top c.sh c.st.length i),iv (En.lkP p.top c.sh c.st.length i)]))] [(4,.el (En.cfV sx c) 0),(6,bF),(7,.el (p.rules.flatMap cRu) (r*18)),(8,.box 1 0),(29,bF)] (Zp rfl (Zb ?_))
 refine t_cut (True) (ofL [(1,.box 96 ([iv (Jd.lkF p.top c.sh c.st.length i),iv (Jd.lkS p.top c.sh c.st.length i),iv (En.lkP p.top c.sh c.st.length i)]))]) (ofT 79 [(4,.el (En.cfV sx c) 0),(6,bF),(7,.el (p.rules.flatMap cRu) (r*18)),(8,.box 1 0),(40,bv (decide (p.rules[r].pos=2)&&decide (0≤(Jd.lkS p.top c.sh c.st.length i))))]) ?_ (fun _ => ?_)
 by_cases hs4:p.rules[r].pos=2
 by_cases hs5:0≤(Jd.lkS p.top c.sh c.st.length i)
 refine Za (pM (mT 7 (.el (p.rules.flatMap cRu) (r*18))) (oA (Zl (off:=r*18) (.tmp 41) rfl) I0 (oA (fe (r*18+13) 42 U65 1) I0 (oA (lE (iv p.rules[r].pos) 43 U3 ((Zu lenRu p.rules r 13 (by omega) (by decide)).trans rfl)) I0 (oC (ZA rfl (dT hs4)) I0 I0 (pM (mT 45 bT) (gA (fb 1 8 U96 1) I0 (gB (lb (iv (Jd.lkS p.top c.sh c.st.length i)) 47 U3) I0 rfl (gC (Y0 rfl (dT hs5)) I0 I0 (pP (pk true bT bF rfl) (pM (aT 50 bT) (kN 79 [(1,.box 96 ([iv (Jd.lkF p.top c.sh c.st.length i),iv (Jd.lkS p.top c.sh c.st.length i),iv (En.lkP p.top c.sh c.st.length i)]))] [(4,.el (En.cfV sx c) 0),(6,bF),(7,.el (p.rules.flatMap cRu) (r*18)),(8,.box 1 0),(40,bT)] ?_))))))))))))
 rw [show ((decide (p.rules[r].pos=2)&&decide (0≤(Jd.lkS p.top c.sh c.st.length i))))=true by simp only [hs3f,dT hs4,dT hs5,decide_true,decide_false,Bool.and_true,Bool.true_and,Bool.false_and,Bool.and_false,Bool.true_or,Bool.false_or,Bool.or_true,Bool.or_false,Bool.not_true,Bool.not_false]]
 exact YV T0 (ZC _ _ rfl (by kernel_rfl) (by kernel_rfl))
 refine Za (pM (mT 7 (.el (p.rules.flatMap cRu) (r*18))) (oA (Zl (off:=r*18) (.tmp 41) rfl) I0 (oA (fe (r*18+13) 42 U65 1) I0 (oA (lE (iv p.rules[r].pos) 43 U3 ((Zu lenRu p.rules r 13 (by omega) (by decide)).trans rfl)) I0 (oC (ZA rfl (dT hs4)) I0 I0 (pM (mT 45 bT) (gA (fb 1 8 U96 1) I0 (gB (lb (iv (Jd.lkS p.top c.sh c.st.length i)) 47 U3) I0 rfl (gC (Y0 rfl (dF hs5)) I0 I0 (pP (pk true bF bF rfl) (pM (aT 50 bF) (kN 79 [(1,.box 96 ([iv (Jd.lkF p.top c.sh c.st.length i),iv (Jd.lkS p.top c.sh c.st.length i),iv (En.lkP p.top c.sh c.st.length i)]))] [(4,.el (En.cfV sx c) 0),(6,bF),(7,.el (p.rules.flatMap cRu) (r*18)),(8,.box 1 0),(40,bF)] ?_))))))))))))
 rw [show ((decide (p.rules[r].pos=2)&&decide (0≤(Jd.lkS p.top c.sh c.st.length i))))=false by simp only [hs3f,dT hs4,dF hs5,decide_true,decide_false,Bool.and_true,Bool.true_and,Bool.false_and,Bool.and_false,Bool.true_or,Bool.false_or,Bool.or_true,Bool.or_false,Bool.not_true,Bool.not_false]]
 exact YV T0 (ZC _ _ rfl (by kernel_rfl) (by kernel_rfl))
 refine Za (pM (mT 7 (.el (p.rules.flatMap cRu) (r*18))) (oA (Zl (off:=r*18) (.tmp 41) rfl) I0 (oA (fe (r*18+13) 42 U65 1) I0 (oA (lE (iv p.rules[r].pos) 43 U3 ((Zu lenRu p.rules r 13 (by omega) (by decide)).trans rfl)) I0 (oC (ZA rfl (dF hs4)) I0 I0 (pM (mT 45 bF) (qK (qK (qK (pP (pk false (.v (.tuple #[])) bF rfl) (pM (aT 50 bF) (kN 79 [(1,.box 96 ([iv (Jd.lkF p.top c.sh c.st.length i),iv (Jd.lkS p.top c.sh c.st.length i),iv (En.lkP p.top c.sh c.st.length i)]))] [(4,.el (En.cfV sx c) 0),(6,bF),(7,.el (p.rules.flatMap cRu) (r*18)),(8,.box 1 0),(40,bF)] ?_))))))))))))
 rw [show ((decide (p.rules[r].pos=2)&&decide (0≤(Jd.lkS p.top c.sh c.st.length i))))=false by simp only [hs3f,dF hs4,decide_true,decide_false,Bool.and_true,Bool.true_and,Bool.false_and,Bool.and_false,Bool.true_or,Bool.false_or,Bool.or_true,Bool.or_false,Bool.not_true,Bool.not_false]]
 exact YV T0 (ZC _ _ rfl (by kernel_rfl) (by kernel_rfl))
 refine Zd ?_
 by_cases hs6:(decide (p.rules[r].pos=2)&&decide (0≤(Jd.lkS p.top c.sh c.st.length i)))=true
 rw [hs6]
 refine kW 79 [(1,.box 96 ([iv (Jd.lkF p.top c.sh c.st.length i),iv (Jd.lkS p.top c.sh c.st.length i),iv (En.lkP p.top c.sh c.st.length i)]))] [(4,.el (En.cfV sx c) 0),(6,bF),(7,.el (p.rules.flatMap cRu) (r*18)),(8,.box 1 0),(40,bT)] (Zm rfl (Zb (Za (pM (aC (.bool false)) (Ze (Zd (Zk (ZS (Zj ?_)))))))))
 refine Zs Try.results49 (.tmp rfl) ?_
 exact congrArg (fun x:Bool=>AV.v (.bool x)) ((by unfold En.nbB;simp only [hs3f,hs6,decide_true,decide_false,Bool.and_true,Bool.true_and,Bool.false_and,Bool.and_false,Bool.true_or,Bool.false_or,Bool.or_true,Bool.or_false,Bool.not_true,Bool.not_false]))
 have hs6f:(decide (p.rules[r].pos=2)&&decide (0≤(Jd.lkS p.top c.sh c.st.length i)))=false:=by simpa using hs6
 rw [hs6f]
 refine kW 79 [(1,.box 96 ([iv (Jd.lkF p.top c.sh c.st.length i),iv (Jd.lkS p.top c.sh c.st.length i),iv (En.lkP p.top c.sh c.st.length i)]))] [(4,.el (En.cfV sx c) 0),(6,bF),(7,.el (p.rules.flatMap cRu) (r*18)),(8,.box 1 0),(40,bF)] (Zp rfl (Zn (ZT (Zd (Zb ?_)))))
 by_cases hs7:(En.fitB c (Jd.lkF p.top c.sh c.st.length i) p.rules[r].left)=true
 by_cases hs8:(En.fitB c (Jd.lkS p.top c.sh c.st.length i) p.rules[r].right)=true
 refine Zo (dA (Zq (z:=16) (.tmp 4) rfl U78 rfl (by kernel_rfl) rfl rfl) I0 (dA (fb 0 8 U96 1) I0 (dB (lb (iv (Jd.lkF p.top c.sh c.st.length i)) 52 U3) I0 rfl (dM (mT 7 (.el (p.rules.flatMap cRu) (r*18))) (dA (Zl (off:=r*18) (.tmp 54) rfl) I0 (dA (fe (r*18+14) 55 U65 1) I0 (dA (lE (Zc p.rules[r].left) 56 U24 ((Zu lenRu p.rules r 14 (by omega) (by decide)).trans rfl)) I0 (dR (sc #[.tmp 51,.tmp 53,.tmp 57] [] (Yd (fits_c (Nat.le_trans hrl.left (by decide)) l8 hlk.1) hs7) [.agg (En.cfV sx c),iv (Jd.lkF p.top c.sh c.st.length i),Zc p.rules[r].left] rfl rfl rfl) ⟨I0,I0,I0,I0,T0⟩ T0 T0 (dM (mT 58 bT) (dA (Zq (z:=16) (.tmp 4) rfl U78 rfl (by kernel_rfl) rfl rfl) I0 (dA (fb 1 8 U96 1) I0 (dB (lb (iv (Jd.lkS p.top c.sh c.st.length i)) 61 U3) I0 rfl (dM (mT 7 (.el (p.rules.flatMap cRu) (r*18))) (dA (Zl (off:=r*18) (.tmp 63) rfl) I0 (dA (fe (r*18+15) 64 U65 1) I0 (dA (lE (Zc p.rules[r].right) 65 U24 ((Zu lenRu p.rules r 15 (by omega) (by decide)).trans rfl)) I0 (dR (sc #[.tmp 60,.tmp 62,.tmp 66] [] (Yd (fits_c (Nat.le_trans hrl.right (by decide)) l8 hlk.2.1) hs8) [.agg (En.cfV sx c),iv (Jd.lkS p.top c.sh c.st.length i),Zc p.rules[r].right] rfl rfl rfl) ⟨I0,I0,I0,I0,T0⟩ T0 T0 (dP (pk true bT bF rfl) (dM (mT 68 bT) (dA (Zq (z:=16) (.tmp 4) rfl U78 rfl (by kernel_rfl) rfl rfl) I0 (dA (fb 2 8 U96 1) I0 (dB (lb (iv (En.lkP p.top c.sh c.st.length i)) 71 U3) I0 rfl (dM (mT 7 (.el (p.rules.flatMap cRu) (r*18))) (dA (Zl (off:=r*18) (.tmp 73) rfl) I0 (dA (fe (r*18+16) 74 U65 1) I0 (dA (lE (Zc p.rules[r].parent) 75 U24 ((Zu lenRu p.rules r 16 (by omega) (by decide)).trans rfl)) I0 (dR (sc #[.tmp 70,.tmp 72,.tmp 76] [] (fits_c (Nat.le_trans hrl.parent (by decide)) l8 hlk.2.2) [.agg (En.cfV sx c),iv (En.lkP p.top c.sh c.st.length i),Zc p.rules[r].parent] rfl rfl rfl) ⟨I0,I0,I0,I0,T0⟩ T0 T0 (dP (pk true (bv (En.fitB c (En.lkP p.top c.sh c.st.length i) p.rules[r].parent)) bF rfl) (dM (aT 78 (bv (En.fitB c (En.lkP p.top c.sh c.st.length i) p.rules[r].parent))) (dE ?_)))))))))))))))))))))))))))))) (by kernel_rfl)
 show ETri J w0 _ _ _
 refine Zd (Zk ?_)
 refine Zs Try.results49 (.tmp rfl) ?_
 exact congrArg (fun x:Bool=>AV.v (.bool x)) ((by unfold En.nbB;simp only [hs3f,hs6f,hs7,hs8,decide_true,decide_false,Bool.and_true,Bool.true_and,Bool.false_and,Bool.and_false,Bool.true_or,Bool.false_or,Bool.or_true,Bool.or_false,Bool.not_true,Bool.not_false]))
 have hs8f:(En.fitB c (Jd.lkS p.top c.sh c.st.length i) p.rules[r].right)=false:=by simpa using hs8
 refine Zo (dA (Zq (z:=16) (.tmp 4) rfl U78 rfl (by kernel_rfl) rfl rfl) I0 (dA (fb 0 8 U96 1) I0 (dB (lb (iv (Jd.lkF p.top c.sh c.st.length i)) 52 U3) I0 rfl (dM (mT 7 (.el (p.rules.flatMap cRu) (r*18))) (dA (Zl (off:=r*18) (.tmp 54) rfl) I0 (dA (fe (r*18+14) 55 U65 1) I0 (dA (lE (Zc p.rules[r].left) 56 U24 ((Zu lenRu p.rules r 14 (by omega) (by decide)).trans rfl)) I0 (dR (sc #[.tmp 51,.tmp 53,.tmp 57] [] (Yd (fits_c (Nat.le_trans hrl.left (by decide)) l8 hlk.1) hs7) [.agg (En.cfV sx c),iv (Jd.lkF p.top c.sh c.st.length i),Zc p.rules[r].left] rfl rfl rfl) ⟨I0,I0,I0,I0,T0⟩ T0 T0 (dM (mT 58 bT) (dA (Zq (z:=16) (.tmp 4) rfl U78 rfl (by kernel_rfl) rfl rfl) I0 (dA (fb 1 8 U96 1) I0 (dB (lb (iv (Jd.lkS p.top c.sh c.st.length i)) 61 U3) I0 rfl (dM (mT 7 (.el (p.rules.flatMap cRu) (r*18))) (dA (Zl (off:=r*18) (.tmp 63) rfl) I0 (dA (fe (r*18+15) 64 U65 1) I0 (dA (lE (Zc p.rules[r].right) 65 U24 ((Zu lenRu p.rules r 15 (by omega) (by decide)).trans rfl)) I0 (dR (sc #[.tmp 60,.tmp 62,.tmp 66] [] (Yd (fits_c (Nat.le_trans hrl.right (by decide)) l8 hlk.2.1) hs8f) [.agg (En.cfV sx c),iv (Jd.lkS p.top c.sh c.st.length i),Zc p.rules[r].right] rfl rfl rfl) ⟨I0,I0,I0,I0,T0⟩ T0 T0 (dP (pk true bF bF rfl) (dM (mT 68 bF) (dK (dK (dK (dK (dK (dK (dK (dK (dP (pk false (.v (.tuple #[])) bF rfl) (dM (aT 78 bF) (dE ?_)))))))))))))))))))))))))))))) (by kernel_rfl)
 show ETri J w0 _ _ _
 refine Zd (Zk ?_)
 refine Zs Try.results49 (.tmp rfl) ?_
 exact congrArg (fun x:Bool=>AV.v (.bool x)) ((by unfold En.nbB;simp only [hs3f,hs6f,hs7,hs8f,decide_true,decide_false,Bool.and_true,Bool.true_and,Bool.false_and,Bool.and_false,Bool.true_or,Bool.false_or,Bool.or_true,Bool.or_false,Bool.not_true,Bool.not_false]))
 have hs7f:(En.fitB c (Jd.lkF p.top c.sh c.st.length i) p.rules[r].left)=false:=by simpa using hs7
 refine Zo (dA (Zq (z:=16) (.tmp 4) rfl U78 rfl (by kernel_rfl) rfl rfl) I0 (dA (fb 0 8 U96 1) I0 (dB (lb (iv (Jd.lkF p.top c.sh c.st.length i)) 52 U3) I0 rfl (dM (mT 7 (.el (p.rules.flatMap cRu) (r*18))) (dA (Zl (off:=r*18) (.tmp 54) rfl) I0 (dA (fe (r*18+14) 55 U65 1) I0 (dA (lE (Zc p.rules[r].left) 56 U24 ((Zu lenRu p.rules r 14 (by omega) (by decide)).trans rfl)) I0 (dR (sc #[.tmp 51,.tmp 53,.tmp 57] [] (Yd (fits_c (Nat.le_trans hrl.left (by decide)) l8 hlk.1) hs7f) [.agg (En.cfV sx c),iv (Jd.lkF p.top c.sh c.st.length i),Zc p.rules[r].left] rfl rfl rfl) ⟨I0,I0,I0,I0,T0⟩ T0 T0 (dM (mT 58 bF) (dK (dK (dK (dK (dK (dK (dK (dK (dP (pk false (.v (.tuple #[])) bF rfl) (dM (mT 68 bF) (dK (dK (dK (dK (dK (dK (dK (dK (dP (pk false (.v (.tuple #[])) bF rfl) (dM (aT 78 bF) (dE ?_)))))))))))))))))))))))))))))) (by kernel_rfl)
 show ETri J w0 _ _ _
 refine Zd (Zk ?_)
 refine Zs Try.results49 (.tmp rfl) ?_
 exact congrArg (fun x:Bool=>AV.v (.bool x)) ((by unfold En.nbB;simp only [hs3f,hs6f,hs7f,decide_true,decide_false,Bool.and_true,Bool.true_and,Bool.false_and,Bool.and_false,Bool.true_or,Bool.false_or,Bool.or_true,Bool.or_false,Bool.not_true,Bool.not_false]))
theorem passH_c {p:Fm} {n t f:Int} {c:Cf} (hn:(Ns.cntE p n f).toNat=c.st.length) (l8:c.st.length≤8) {sx:Int} {r:Nat} (hr:r<p.rules.length) {i:Nat} (hi:i<c.st.length) {kp:Int} (hrl:RuLen p.rules[r]) (hx0:0≤sx) (hx1:sx<(((En.shS p.top (Ns.cntE p n f).toNat).length:Nat):Int)) (hx2:(En.shS p.top (Ns.cntE p n f).toNat)[sx.toNat]? = some c.sh) (hlk:Jd.lkF p.top c.sh c.st.length i<((c.st.length:Nat):Int)∧Jd.lkS p.top c.sh c.st.length i<((c.st.length:Nat):Int)∧En.lkP p.top c.sh c.st.length i<((c.st.length:Nat):Int)):Ctr Try.prog J 50 [.el (En.sysP p n t f) 0,.agg (En.cfV sx c),.agg [iv r,iv i,iv kp]] (bv (En.psB p.top c p.rules[r] i kp)):=by
 refine Zy Try.func50 rfl (by intro X hX;simp only [List.mem_cons,List.not_mem_nil,or_false] at hX;rcases hX with rfl | rfl | rfl;exact (show Plain (.el (En.sysP p n t f) 0) from .el (ZQ (En.plain_sysP p n t f)));exact Zi (En.plain_cfV _ c);exact Zi (fun X hX=>by simp only [List.mem_cons,List.not_mem_nil,or_false] at hX;rcases hX with rfl | rfl | rfl<;>exact .v _)) (n:=63) rfl (by simp) (fun w0 => ?_)
 refine kW 63 [] [(0,.el (En.sysP p n t f) 0),(1,.agg (En.cfV sx c)),(2,.agg [iv r,iv i,iv kp])] (Zb (Za (oA (ZV (X := .agg (En.cfV sx c)) (.tmp 1) rfl rfl rfl) I0 (oA (ZV (X := .agg [iv r,iv i,iv kp]) (.tmp 2) rfl rfl rfl) I0 (pM (aC (.bool false)) (Ze (Zd (Zb ?_))))))))
 refine Zo (dM (mT 0 (.el (En.sysP p n t f) 0)) (dA (Zl (off:=0) (.tmp 8) rfl) I0 (dA (fe 32 9 U111 1) I0 (dA (lE (En.lkS p.top (Ns.cntE p n f).toNat) 10 U109) I0 (dA (fe 0 4 U78 1) I0 (dA (lE (iv sx) 12 U3) I0 (dC (xS (sx.toNat*1) 11 13 U109) I0 I0 (dA (lE (Jd.lkA p.top c.sh c.st.length) 14 U99 (En.links_at hx2 hn)) I0 (dA (fe 1 5 U35 1) I0 (dA (lE (iv i) 16 U3) I0 (dC (xS (i*3) 15 17 U99) I0 I0 (dA (Zq (z:=3) (.tmp 18) rfl U96 rfl (by kernel_rfl) (En.lk_el (by omega)) rfl) I0 (dR (ZJ (z := .agg #[.int .i64 0,.int .i64 0,.int .i64 0]) (k:=1) rfl (by kernel_rfl)) T0 T0 rfl (dR (sB 3 7 (.tmp 19) (.agg ([iv (Jd.lkF p.top c.sh c.st.length i),iv (Jd.lkS p.top c.sh c.st.length i),iv (En.lkP p.top c.sh c.st.length i)]))) ⟨I0,I0,T0⟩ ⟨rfl,T0⟩ rfl (dE ?_))))))))))))))) (by kernel_rfl)
 show ETri J w0 _ _ _
 refine kW 63 [(1,.box 96 ([iv (Jd.lkF p.top c.sh c.st.length i),iv (Jd.lkS p.top c.sh c.st.length i),iv (En.lkP p.top c.sh c.st.length i)]))] [(0,.el (En.sysP p n t f) 0),(5,.el ([iv r,iv i,iv kp]) 0),(6,bF),(7,.box 1 0)] (Zd (Zb (Zb ?_)))
 refine Zo (dM (mT 0 (.el (En.sysP p n t f) 0)) (dA (Zl (off:=0) (.tmp 20) rfl) I0 (dA (fe 0 21 U111 10) I0 (dA (fe 9 22 U27 1) I0 (dA (lE (slA 18 cRu p.rules) 23 U25) I0 (dA (fe 0 5 U35 1) I0 (dA (lE (iv r) 25 U3) I0 (dC (xS (r*18) 24 26 U25) I0 I0 (dA (fe (r*18+17) 27 U65 1) I0 (dA (lE (iv p.rules[r].dir) 28 U3 ((Zu lenRu p.rules r 17 (by omega) (by decide)).trans rfl)) I0 (dE ?_))))))))))) (by kernel_rfl)
 show ETri J w0 _ _ _
 refine kW 63 [(1,.box 96 ([iv (Jd.lkF p.top c.sh c.st.length i),iv (Jd.lkS p.top c.sh c.st.length i),iv (En.lkP p.top c.sh c.st.length i)]))] [(5,.el ([iv r,iv i,iv kp]) 0),(6,bF),(7,.box 1 0),(29,iv p.rules[r].dir)] (Zd (ZD (Zb ?_)))
 by_cases hs1:p.rules[r].dir=1
 refine Za (oC (ZA rfl (dT hs1)) I0 I0 (pM (aT 31 bT) (Ze (Zd (Zm rfl (Zb (Za (oA (fe 2 5 U35 1) I0 (oA (lE (iv kp) 32 U3) I0 (oA (fb 1 7 U96 1) I0 (oB (lb (iv (Jd.lkS p.top c.sh c.st.length i)) 34 U3) I0 rfl (oC (ZA rfl rfl) I0 I0 (pM (aT 36 (bv (decide (kp=(Jd.lkS p.top c.sh c.st.length i))))) (Ze (Zd (Zk (ZS (Zj ?_))))))))))))))))))
 refine Zs Try.results50 (.tmp rfl) ?_
 exact congrArg (fun x:Bool=>AV.v (.bool x)) ((by unfold En.psB;rw [if_pos hs1]))
 refine Za (oC (ZA rfl (dF hs1)) I0 I0 (pM (aT 31 bF) (Ze (Zd (Zp rfl (Zb ?_))))))
 by_cases hs2:p.rules[r].dir=2
 refine Za (oC (ZA rfl (dT hs2)) I0 I0 (pM (aT 38 bT) (Ze (Zd (Zm rfl (Zb (Za (oA (fe 2 5 U35 1) I0 (oA (lE (iv kp) 39 U3) I0 (oA (fb 0 7 U96 1) I0 (oB (lb (iv (Jd.lkF p.top c.sh c.st.length i)) 41 U3) I0 rfl (oC (ZA rfl rfl) I0 I0 (pM (aT 43 (bv (decide (kp=(Jd.lkF p.top c.sh c.st.length i))))) (Ze (Zd (Zk (ZS (Zj ?_))))))))))))))))))
 refine Zs Try.results50 (.tmp rfl) ?_
 exact congrArg (fun x:Bool=>AV.v (.bool x)) ((by unfold En.psB;rw [if_neg hs1,if_pos hs2]))
 refine Za (oC (ZA rfl (dF hs2)) I0 I0 (pM (aT 38 bF) (Ze (Zd (Zp rfl (Zb ?_))))))
 by_cases hs3:p.rules[r].dir=3
 refine Za (oC (ZA rfl (dT hs3)) I0 I0 (pM (aT 45 bT) (Ze (Zd (Zm rfl (Zb ?_))))))
 by_cases hs4:kp=(Jd.lkF p.top c.sh c.st.length i)
 refine Za (oA (fe 2 5 U35 1) I0 (oA (lE (iv kp) 46 U3) I0 (oA (fb 0 7 U96 1) I0 (oB (lb (iv (Jd.lkF p.top c.sh c.st.length i)) 48 U3) I0 rfl (oC (ZA rfl (dT hs4)) I0 I0 (pM (mT 50 bT) (qK (qK (qK (qK (qK (pP (pk true bT (.v (.tuple #[])) rfl) (pM (aT 57 bT) (Ze (Zd (Zk (ZS (Zj ?_))))))))))))))))))
 refine Zs Try.results50 (.tmp rfl) ?_
 exact congrArg (fun x:Bool=>AV.v (.bool x)) ((by unfold En.psB;rw [if_neg hs1,if_neg hs2,if_pos hs3];simp only [dT hs4,decide_true,decide_false,Bool.and_true,Bool.true_and,Bool.false_and,Bool.and_false,Bool.true_or,Bool.false_or,Bool.or_true,Bool.or_false,Bool.not_true,Bool.not_false]))
 refine Za (oA (fe 2 5 U35 1) I0 (oA (lE (iv kp) 46 U3) I0 (oA (fb 0 7 U96 1) I0 (oB (lb (iv (Jd.lkF p.top c.sh c.st.length i)) 48 U3) I0 rfl (oC (ZA rfl (dF hs4)) I0 I0 (pM (mT 50 bF) (gA (fe 2 5 U35 1) I0 (gA (lE (iv kp) 52 U3) I0 (gA (fb 1 7 U96 1) I0 (gB (lb (iv (Jd.lkS p.top c.sh c.st.length i)) 54 U3) I0 rfl (gC (ZA rfl rfl) I0 I0 (pP (pk false bT (bv (decide (kp=(Jd.lkS p.top c.sh c.st.length i)))) rfl) (pM (aT 57 (bv (decide (kp=(Jd.lkS p.top c.sh c.st.length i))))) (Ze (Zd (Zk (ZS (Zj ?_))))))))))))))))))
 refine Zs Try.results50 (.tmp rfl) ?_
 exact congrArg (fun x:Bool=>AV.v (.bool x)) ((by unfold En.psB;rw [if_neg hs1,if_neg hs2,if_pos hs3];simp only [dF hs4,decide_true,decide_false,Bool.and_true,Bool.true_and,Bool.false_and,Bool.and_false,Bool.true_or,Bool.false_or,Bool.or_true,Bool.or_false,Bool.not_true,Bool.not_false]))
 refine Za (oC (ZA rfl (dF hs3)) I0 I0 (pM (aT 45 bF) (Ze (Zd (Zp rfl (Zn (ZT (Zd (Zb (Za (oA (fe 2 5 U35 1) I0 (oA (lE (iv kp) 58 U3) I0 (oA (fb 2 7 U96 1) I0 (oB (lb (iv (En.lkP p.top c.sh c.st.length i)) 60 U3) I0 rfl (oC (ZA rfl rfl) I0 I0 (pM (aT 62 (bv (decide (kp=(En.lkP p.top c.sh c.st.length i))))) (Ze (Zd (Zk ?_)))))))))))))))))))
 refine Zs Try.results50 (.tmp rfl) ?_
 exact congrArg (fun x:Bool=>AV.v (.bool x)) ((by unfold En.psB;rw [if_neg hs1,if_neg hs2,if_neg hs3]))
theorem En.nbr {p:Fm} {n f:Int} {c:Cf} (hc:En.CfV p n f c) (hv:valE p=0) {r:Nat} (hr:r<p.rules.length) (hk:¬ p.rules[r].kind≤3) {i:Nat} (hi:i<c.st.length) :
    (0≤(Rd.shI p.top (Ns.shT p.top (Ns.cntE p n f)) c.sh)∧(Rd.shI p.top (Ns.shT p.top (Ns.cntE p n f)) c.sh)<(((En.shS p.top (Ns.cntE p n f).toNat).length:Nat):Int)∧(En.shS p.top (Ns.cntE p n f).toNat)[((Rd.shI p.top (Ns.shT p.top (Ns.cntE p n f)) c.sh)).toNat]? = some c.sh) ∧
    (Jd.lkF p.top c.sh c.st.length i<((c.st.length:Nat):Int)∧Jd.lkS p.top c.sh c.st.length i<((c.st.length:Nat):Int)∧En.lkP p.top c.sh c.st.length i<((c.st.length:Nat):Int)):=by
  have R:=En.val_in hv (List.getElem_mem hr)
  have h1:¬ p.top=1:=fun e=>hk (R.kt.2 e)
  have ht:=Jd.top_in hv
  have h0:0≤Ns.cntE p n f:=by have:=hc.ln;omega
  exact ⟨En.shI_at hc h1 ht h0,En.lk_ok hc h1 ht hi⟩
theorem En.isP_nat {m i:Nat} (h:i<m):En.isP m ((i:Nat):Int)=true:=by unfold En.isP;rw [decide_eq_true (by omega),decide_eq_true (by omega)];rfl
theorem enabled_in {p:Fm} (HL:FamLen p) {n t f:Int} {c:Cf} (hc:En.CfV p n f c) (hv:valE p=0) (l8:c.st.length≤8) {r:Nat} (hr:r<p.rules.length) {i:Nat} (hi:i<c.st.length) {kp:Int} {g:Nat→Int} (hg:∀ m,0≤g m∧g m≤3000000):Ctr Try.prog J 28 [.el (En.sysP p n t f) 0,.agg (En.cfV (Rd.shI p.top (Ns.shT p.top (Ns.cntE p n f)) c.sh) c),.agg [iv r,iv i,iv kp],.agg (En.msA g)] (bv (En.enR p.top n t f c g p.rules[r] i kp)):=by
 have R:=En.val_in hv (List.getElem_mem hr)
 have hz:=En.val_sizes hv
 have hn:=hc.ln.symm
 have hnN:(Ns.cntE p n f).toNat=c.st.length:=by omega
 have hle:=(HL.rules _ (List.getElem_mem hr)).ex
 have hlf:=(HL.rules _ (List.getElem_mem hr)).fa
 refine Zy Try.func28 rfl (by intro X hX;simp only [List.mem_cons,List.not_mem_nil,or_false] at hX;rcases hX with rfl | rfl | rfl | rfl;exact (show Plain (.el (En.sysP p n t f) 0) from .el (ZQ (En.plain_sysP p n t f)));exact Zi (En.plain_cfV _ c);exact Zi (fun X hX=>by simp only [List.mem_cons,List.not_mem_nil,or_false] at hX;rcases hX with rfl | rfl | rfl<;>exact .v _);exact Zi (En.plain_msA _)) (n:=94) rfl (by simp) (fun w0 => ?_)
 refine kW 94 [] [(0,.el (En.sysP p n t f) 0),(1,.agg (En.cfV (Rd.shI p.top (Ns.shT p.top (Ns.cntE p n f)) c.sh) c)),(2,.agg [iv r,iv i,iv kp]),(3,.agg (En.msA g))] (Zb (Za (oA (ZV (X := .agg (En.cfV (Rd.shI p.top (Ns.shT p.top (Ns.cntE p n f)) c.sh) c)) (.tmp 1) rfl rfl rfl) I0 (oA (ZV (X := .agg [iv r,iv i,iv kp]) (.tmp 2) rfl rfl rfl) I0 (oA (ZV (X := .agg (En.msA g)) (.tmp 3) rfl rfl rfl) I0 (pM (aC (.bool false)) (Ze (Zd (Zb (Zb ?_))))))))))
 refine Zo (dA (fe 0 6 U35 1) I0 (dA (lE (iv r) 10 U3) I0 (dC (ZY rfl (dF (by omega))) I0 I0 (dM (mT 12 bF) (dA (fe 0 6 U35 1) I0 (dA (lE (iv r) 14 U3) I0 (dM (mT 0 (.el (En.sysP p n t f) 0)) (dA (Zl (off:=0) (.tmp 16) rfl) I0 (dA (fe 0 17 U111 10) I0 (dA (fe 9 18 U27 1) I0 (dA (lE (slA 18 cRu p.rules) 19 U25) I0 (dA (nS 20 U25) I0 (dC (Y0 rfl (dF (by omega))) I0 I0 (dP (pk false bT bF rfl) (dM (mT 23 bF) (dM (mT 0 (.el (En.sysP p n t f) 0)) (dA (fe 1 6 U35 1) I0 (dA (lE (iv i) 26 U3) I0 (dD (sc #[.tmp 25,.tmp 27] [] (Yd (isProc_c hn) (En.isP_nat hi)) [.el (En.sysP p n t f) 0,iv i] rfl rfl rfl) I0 I0 I0 (dA (Ya rfl rfl) I0 (dP (pk false bT bF rfl) (dE ?_)))))))))))))))))))))) (by kernel_rfl)
 show ETri J w0 _ _ _
 refine kW 94 [] [(0,.el (En.sysP p n t f) 0),(5,.el (En.cfV (Rd.shI p.top (Ns.shT p.top (Ns.cntE p n f)) c.sh) c) 0),(6,.el ([iv r,iv i,iv kp]) 0),(7,.el (En.msA g) 0),(8,bF),(30,bF)] (Zd (Zp rfl (Zn (Zd (Zb ?_)))))
 refine Zo (dM (mT 0 (.el (En.sysP p n t f) 0)) (dA (Zl (off:=0) (.tmp 31) rfl) I0 (dA (fe 0 32 U111 10) I0 (dA (fe 9 33 U27 1) I0 (dA (lE (slA 18 cRu p.rules) 34 U25) I0 (dA (fe 0 6 U35 1) I0 (dA (lE (iv r) 36 U3) I0 (dC (xS (r*18) 35 37 U25) I0 I0 (dM (aT 38 (.el (p.rules.flatMap cRu) (r*18))) (dE ?_)))))))))) (by kernel_rfl)
 show ETri J w0 _ _ _
 refine kW 94 [] [(0,.el (En.sysP p n t f) 0),(5,.el (En.cfV (Rd.shI p.top (Ns.shT p.top (Ns.cntE p n f)) c.sh) c) 0),(6,.el ([iv r,iv i,iv kp]) 0),(7,.el (En.msA g) 0),(8,bF),(9,.el (p.rules.flatMap cRu) (r*18))] (Zd (Zb (Zb ?_)))
 by_cases hs1:(c.st.getD i 0)=p.rules[r].frm
 by_cases hs2:(En.ptB c p.rules[r] i kp)=true
 refine Zo (dA (fe 1 6 U35 1) I0 (dA (lE (iv i) 39 U3) I0 (dA (fe 1 5 U78 8) I0 (dC (Z5 (off':=1+i*1) (.tmp 41) (.tmp 40) rfl U74 (by kernel_rfl) (by omega) (by omega) rfl) I0 I0 (dA (lE (iv (c.st.getD i 0)) 42 U3 (En.cfV_st (by omega))) I0 (dM (mT 9 (.el (p.rules.flatMap cRu) (r*18))) (dA (Zl (off:=r*18) (.tmp 44) rfl) I0 (dA (fe (r*18+2) 45 U65 1) I0 (dA (lE (iv p.rules[r].frm) 46 U3 ((Zu lenRu p.rules r 2 (by omega) (by decide)).trans rfl)) I0 (dC (Z0 rfl (dT' hs1)) I0 I0 (dM (mT 48 bF) (dM (mT 0 (.el (En.sysP p n t f) 0)) (dA (Zq (z:=16) (.tmp 5) rfl U78 rfl (by kernel_rfl) rfl rfl) I0 (dM (mT 9 (.el (p.rules.flatMap cRu) (r*18))) (dA (Zq (z:=3) (.tmp 6) rfl U35 rfl (by kernel_rfl) rfl rfl) I0 (dR (sc #[.tmp 50,.tmp 51,.tmp 52,.tmp 53] [] (Yd (partFits_c hn l8 hr hi) hs2) [.el (En.sysP p n t f) 0,.agg (En.cfV (Rd.shI p.top (Ns.shT p.top (Ns.cntE p n f)) c.sh) c),.el (p.rules.flatMap cRu) (r*18),.agg ([iv r,iv i,iv kp])] rfl rfl rfl) ⟨I0,I0,I0,I0,I0,T0⟩ T0 T0 (dA (Ya rfl rfl) I0 (dP (pk false bT bF rfl) (dE ?_))))))))))))))))))) (by kernel_rfl)
 show ETri J w0 _ _ _
 refine kW 94 [] [(0,.el (En.sysP p n t f) 0),(5,.el (En.cfV (Rd.shI p.top (Ns.shT p.top (Ns.cntE p n f)) c.sh) c) 0),(6,.el ([iv r,iv i,iv kp]) 0),(7,.el (En.msA g) 0),(8,bF),(9,.el (p.rules.flatMap cRu) (r*18)),(56,bF)] (Zd (Zp rfl (Zn (Zd (Zb (Zb (Za (pM (mT 9 (.el (p.rules.flatMap cRu) (r*18))) (oA (Zl (off:=r*18) (.tmp 57) rfl) I0 (oA (fe (r*18+1) 58 U65 1) I0 (oA (lE (iv p.rules[r].kind) 59 U3 ((Zu lenRu p.rules r 1 (by omega) (by decide)).trans rfl)) I0 (Ze (Zd (ZD (Zb ?_)))))))))))))))
 by_cases hs3:p.rules[r].kind=1
 refine Za (oC (ZA rfl (dT hs3)) I0 I0 (pM (aT 62 bT) (Ze (Zd (Zm rfl (Zb (Za (pM (mT 0 (.el (En.sysP p n t f) 0)) (oA (Zq (z:=16) (.tmp 5) rfl U78 rfl (by kernel_rfl) rfl rfl) I0 (oA (Zq (z:=3) (.tmp 6) rfl U35 rfl (by kernel_rfl) rfl rfl) I0 (oA (Zq (z:=3) (.tmp 7) rfl U76 rfl (by kernel_rfl) rfl rfl) I0 (ZF rfl (sc #[.tmp 63,.tmp 64,.tmp 65,.tmp 66] [] (localH_c hn l8 hr hi hg hz.1 hz.2.2.1 R.gl R.gd (Nat.le_trans hle (by decide)) (Nat.le_trans hlf (by decide))) [.el (En.sysP p n t f) 0,.agg (En.cfV (Rd.shI p.top (Ns.shT p.top (Ns.cntE p n f)) c.sh) c),.agg ([iv r,iv i,iv kp]),.agg (En.msA g)] rfl rfl rfl) ⟨I0,I0,I0,I0,I0,T0⟩ T0 T0 (pM (aT 67 (bv (En.loB n t f c p.rules[r] g i))) (Ze (Zd (Zk (ZS (Zj ?_))))))))))))))))))
 refine Zs Try.results28 (.tmp rfl) ?_
 exact congrArg (fun x:Bool=>AV.v (.bool x)) ((by unfold En.enR;rw [if_pos hs3];simp only [dT hs1,hs2,decide_true,decide_false,Bool.and_true,Bool.true_and,Bool.false_and,Bool.and_false,Bool.true_or,Bool.false_or,Bool.or_true,Bool.or_false,Bool.not_true,Bool.not_false]))
 refine Za (oC (ZA rfl (dF hs3)) I0 I0 (pM (aT 62 bF) (Ze (Zd (Zp rfl (Zb ?_))))))
 by_cases hs4:p.rules[r].kind=4
 refine Za (oC (ZA rfl (dT hs4)) I0 I0 (pM (aT 69 bT) (Ze (Zd (Zm rfl (Zb (Za (pM (mT 0 (.el (En.sysP p n t f) 0)) (oA (Zq (z:=16) (.tmp 5) rfl U78 rfl (by kernel_rfl) rfl rfl) I0 (oA (Zq (z:=3) (.tmp 6) rfl U35 rfl (by kernel_rfl) rfl rfl) I0 (ZF rfl (sc #[.tmp 70,.tmp 71,.tmp 72] [] (neighH_c hnN l8 hr hi (kp:=kp) (HL.rules _ (List.getElem_mem hr)) (En.nbr hc hv hr (by have:=hs4;omega) hi).1.1 (En.nbr hc hv hr (by have:=hs4;omega) hi).1.2.1 (En.nbr hc hv hr (by have:=hs4;omega) hi).1.2.2 (En.nbr hc hv hr (by have:=hs4;omega) hi).2) [.el (En.sysP p n t f) 0,.agg (En.cfV (Rd.shI p.top (Ns.shT p.top (Ns.cntE p n f)) c.sh) c),.agg ([iv r,iv i,iv kp])] rfl rfl rfl) ⟨I0,I0,I0,I0,T0⟩ T0 T0 (pM (aT 73 (bv (En.nbB p.top c p.rules[r] i))) (Ze (Zd (Zk (ZS (Zj ?_)))))))))))))))))
 refine Zs Try.results28 (.tmp rfl) ?_
 exact congrArg (fun x:Bool=>AV.v (.bool x)) ((by unfold En.enR;rw [if_neg hs3,if_pos hs4];simp only [dT hs1,hs2,decide_true,decide_false,Bool.and_true,Bool.true_and,Bool.false_and,Bool.and_false,Bool.true_or,Bool.false_or,Bool.or_true,Bool.or_false,Bool.not_true,Bool.not_false]))
 refine Za (oC (ZA rfl (dF hs4)) I0 I0 (pM (aT 69 bF) (Ze (Zd (Zp rfl (Zb ?_))))))
 by_cases hs5:p.rules[r].kind=5
 refine Za (oC (ZA rfl (dT hs5)) I0 I0 (pM (aT 75 bT) (Ze (Zd (Zm rfl (Zb (Za (pM (mT 0 (.el (En.sysP p n t f) 0)) (oA (Zq (z:=16) (.tmp 5) rfl U78 rfl (by kernel_rfl) rfl rfl) I0 (oA (Zq (z:=3) (.tmp 6) rfl U35 rfl (by kernel_rfl) rfl rfl) I0 (ZF rfl (sc #[.tmp 76,.tmp 77,.tmp 78] [] (passH_c hnN l8 hr hi (HL.rules _ (List.getElem_mem hr)) (En.nbr hc hv hr (by have:=hs5;omega) hi).1.1 (En.nbr hc hv hr (by have:=hs5;omega) hi).1.2.1 (En.nbr hc hv hr (by have:=hs5;omega) hi).1.2.2 (En.nbr hc hv hr (by have:=hs5;omega) hi).2) [.el (En.sysP p n t f) 0,.agg (En.cfV (Rd.shI p.top (Ns.shT p.top (Ns.cntE p n f)) c.sh) c),.agg ([iv r,iv i,iv kp])] rfl rfl rfl) ⟨I0,I0,I0,I0,T0⟩ T0 T0 (pM (aT 79 (bv (En.psB p.top c p.rules[r] i kp))) (Ze (Zd (Zk (ZS (Zj ?_)))))))))))))))))
 refine Zs Try.results28 (.tmp rfl) ?_
 exact congrArg (fun x:Bool=>AV.v (.bool x)) ((by unfold En.enR;rw [if_neg hs3,if_neg hs4,if_pos hs5];simp only [dT hs1,hs2,decide_true,decide_false,Bool.and_true,Bool.true_and,Bool.false_and,Bool.and_false,Bool.true_or,Bool.false_or,Bool.or_true,Bool.or_false,Bool.not_true,Bool.not_false]))
 refine Za (oC (ZA rfl (dF hs5)) I0 I0 (pM (aT 75 bF) (Ze (Zd (Zp rfl (Zn (ZT (Zd (Zb ?_)))))))))
 by_cases hs6:p.rules[r].rd<0
 refine Zo (dM (mT 9 (.el (p.rules.flatMap cRu) (r*18))) (dA (Zl (off:=r*18) (.tmp 80) rfl) I0 (dA (fe (r*18+10) 81 U65 1) I0 (dA (lE (iv p.rules[r].rd) 82 U3 ((Zu lenRu p.rules r 10 (by omega) (by decide)).trans rfl)) I0 (dC (ZY rfl (dT hs6)) I0 I0 (dM (mT 84 bT) (dK (dK (dK (dK (dK (dK (dK (dP (pk true bT (.v (.tuple #[])) rfl) (dM (aT 93 bT) (dE ?_)))))))))))))))) (by kernel_rfl)
 show ETri J w0 _ _ _
 refine Zd (Zk ?_)
 refine Zs Try.results28 (.tmp rfl) ?_
 exact congrArg (fun x:Bool=>AV.v (.bool x)) ((by unfold En.enR;rw [if_neg hs3,if_neg hs4,if_neg hs5];simp only [dT hs1,hs2,dT hs6,decide_true,decide_false,Bool.and_true,Bool.true_and,Bool.false_and,Bool.and_false,Bool.true_or,Bool.false_or,Bool.or_true,Bool.or_false,Bool.not_true,Bool.not_false]))
 refine Zo (dM (mT 9 (.el (p.rules.flatMap cRu) (r*18))) (dA (Zl (off:=r*18) (.tmp 80) rfl) I0 (dA (fe (r*18+10) 81 U65 1) I0 (dA (lE (iv p.rules[r].rd) 82 U3 ((Zu lenRu p.rules r 10 (by omega) (by decide)).trans rfl)) I0 (dC (ZY rfl (dF hs6)) I0 I0 (dM (mT 84 bF) (dA (fe 15 5 U78 1) I0 (dA (lE (iv c.val) 86 U3) I0 (dM (mT 9 (.el (p.rules.flatMap cRu) (r*18))) (dA (Zl (off:=r*18) (.tmp 88) rfl) I0 (dA (fe (r*18+10) 89 U65 1) I0 (dA (lE (iv p.rules[r].rd) 90 U3 ((Zu lenRu p.rules r 10 (by omega) (by decide)).trans rfl)) I0 (dC (ZA rfl rfl) I0 I0 (dP (pk false bT (bv (decide (c.val=p.rules[r].rd))) rfl) (dM (aT 93 (bv (decide (c.val=p.rules[r].rd)))) (dE ?_)))))))))))))))) (by kernel_rfl)
 show ETri J w0 _ _ _
 refine Zd (Zk ?_)
 refine Zs Try.results28 (.tmp rfl) ?_
 exact congrArg (fun x:Bool=>AV.v (.bool x)) ((by unfold En.enR;rw [if_neg hs3,if_neg hs4,if_neg hs5];simp only [dT hs1,hs2,dF hs6,decide_true,decide_false,Bool.and_true,Bool.true_and,Bool.false_and,Bool.and_false,Bool.true_or,Bool.false_or,Bool.or_true,Bool.or_false,Bool.not_true,Bool.not_false]))
 have hs2f:(En.ptB c p.rules[r] i kp)=false:=by simpa using hs2
 refine Zo (dA (fe 1 6 U35 1) I0 (dA (lE (iv i) 39 U3) I0 (dA (fe 1 5 U78 8) I0 (dC (Z5 (off':=1+i*1) (.tmp 41) (.tmp 40) rfl U74 (by kernel_rfl) (by omega) (by omega) rfl) I0 I0 (dA (lE (iv (c.st.getD i 0)) 42 U3 (En.cfV_st (by omega))) I0 (dM (mT 9 (.el (p.rules.flatMap cRu) (r*18))) (dA (Zl (off:=r*18) (.tmp 44) rfl) I0 (dA (fe (r*18+2) 45 U65 1) I0 (dA (lE (iv p.rules[r].frm) 46 U3 ((Zu lenRu p.rules r 2 (by omega) (by decide)).trans rfl)) I0 (dC (Z0 rfl (dT' hs1)) I0 I0 (dM (mT 48 bF) (dM (mT 0 (.el (En.sysP p n t f) 0)) (dA (Zq (z:=16) (.tmp 5) rfl U78 rfl (by kernel_rfl) rfl rfl) I0 (dM (mT 9 (.el (p.rules.flatMap cRu) (r*18))) (dA (Zq (z:=3) (.tmp 6) rfl U35 rfl (by kernel_rfl) rfl rfl) I0 (dR (sc #[.tmp 50,.tmp 51,.tmp 52,.tmp 53] [] (Yd (partFits_c hn l8 hr hi) hs2f) [.el (En.sysP p n t f) 0,.agg (En.cfV (Rd.shI p.top (Ns.shT p.top (Ns.cntE p n f)) c.sh) c),.el (p.rules.flatMap cRu) (r*18),.agg ([iv r,iv i,iv kp])] rfl rfl rfl) ⟨I0,I0,I0,I0,I0,T0⟩ T0 T0 (dA (Ya rfl rfl) I0 (dP (pk false bT bT rfl) (dE ?_))))))))))))))))))) (by kernel_rfl)
 show ETri J w0 _ _ _
 refine kW 94 [] [(0,.el (En.sysP p n t f) 0),(5,.el (En.cfV (Rd.shI p.top (Ns.shT p.top (Ns.cntE p n f)) c.sh) c) 0),(6,.el ([iv r,iv i,iv kp]) 0),(7,.el (En.msA g) 0),(8,bF),(9,.el (p.rules.flatMap cRu) (r*18)),(56,bT)] (Zd (Zm rfl (Zb (Za (pM (aC (.bool false)) (Ze (Zd (Zk (Zj ?_)))))))))
 refine Zs Try.results28 (.tmp rfl) ?_
 exact congrArg (fun x:Bool=>AV.v (.bool x)) ((by unfold En.enR;simp only [dT hs1,hs2f,decide_true,decide_false,Bool.and_true,Bool.true_and,Bool.false_and,Bool.and_false,Bool.true_or,Bool.false_or,Bool.or_true,Bool.or_false,Bool.not_true,Bool.not_false]))
 refine Zo (dA (fe 1 6 U35 1) I0 (dA (lE (iv i) 39 U3) I0 (dA (fe 1 5 U78 8) I0 (dC (Z5 (off':=1+i*1) (.tmp 41) (.tmp 40) rfl U74 (by kernel_rfl) (by omega) (by omega) rfl) I0 I0 (dA (lE (iv (c.st.getD i 0)) 42 U3 (En.cfV_st (by omega))) I0 (dM (mT 9 (.el (p.rules.flatMap cRu) (r*18))) (dA (Zl (off:=r*18) (.tmp 44) rfl) I0 (dA (fe (r*18+2) 45 U65 1) I0 (dA (lE (iv p.rules[r].frm) 46 U3 ((Zu lenRu p.rules r 2 (by omega) (by decide)).trans rfl)) I0 (dC (Z0 rfl (dF' hs1)) I0 I0 (dM (mT 48 bT) (dK (dK (dK (dK (dK (dK (dP (pk true bT (.v (.tuple #[])) rfl) (dE ?_))))))))))))))))))) (by kernel_rfl)
 show ETri J w0 _ _ _
 refine kW 94 [] [(0,.el (En.sysP p n t f) 0),(5,.el (En.cfV (Rd.shI p.top (Ns.shT p.top (Ns.cntE p n f)) c.sh) c) 0),(6,.el ([iv r,iv i,iv kp]) 0),(7,.el (En.msA g) 0),(8,bF),(9,.el (p.rules.flatMap cRu) (r*18)),(56,bT)] (Zd (Zm rfl (Zb (Za (pM (aC (.bool false)) (Ze (Zd (Zk (Zj ?_)))))))))
 refine Zs Try.results28 (.tmp rfl) ?_
 exact congrArg (fun x:Bool=>AV.v (.bool x)) ((by unfold En.enR;simp only [dF hs1,decide_true,decide_false,Bool.and_true,Bool.true_and,Bool.false_and,Bool.and_false,Bool.true_or,Bool.false_or,Bool.or_true,Bool.or_false,Bool.not_true,Bool.not_false]))
theorem enabled_no {p:Fm} (HL:FamLen p) {n t f:Int} {c:Cf} (hc:En.CfV p n f c) (hv:valE p=0) (l8:c.st.length≤8) {x y kp:Int} (hno:(0≤x∧x<((p.rules.length:Nat):Int))→En.isP c.st.length y=false) {g:Nat→Int}:Ctr Try.prog J 28 [.el (En.sysP p n t f) 0,.agg (En.cfV (Rd.shI p.top (Ns.shT p.top (Ns.cntE p n f)) c.sh) c),.agg [iv x,iv y,iv kp],.agg (En.msA g)] bF:=by
 have hn:=hc.ln.symm
 have hz:=En.val_sizes hv
 refine Zy Try.func28 rfl (by intro X hX;simp only [List.mem_cons,List.not_mem_nil,or_false] at hX;rcases hX with rfl | rfl | rfl | rfl;exact (show Plain (.el (En.sysP p n t f) 0) from .el (ZQ (En.plain_sysP p n t f)));exact Zi (En.plain_cfV _ c);exact Zi (fun X hX=>by simp only [List.mem_cons,List.not_mem_nil,or_false] at hX;rcases hX with rfl | rfl | rfl<;>exact .v _);exact Zi (En.plain_msA _)) (n:=94) rfl (by simp) (fun w0 => ?_)
 refine kW 94 [] [(0,.el (En.sysP p n t f) 0),(1,.agg (En.cfV (Rd.shI p.top (Ns.shT p.top (Ns.cntE p n f)) c.sh) c)),(2,.agg [iv x,iv y,iv kp]),(3,.agg (En.msA g))] (Zb (Za (oA (ZV (X := .agg (En.cfV (Rd.shI p.top (Ns.shT p.top (Ns.cntE p n f)) c.sh) c)) (.tmp 1) rfl rfl rfl) I0 (oA (ZV (X := .agg [iv x,iv y,iv kp]) (.tmp 2) rfl rfl rfl) I0 (oA (ZV (X := .agg (En.msA g)) (.tmp 3) rfl rfl rfl) I0 (pM (aC (.bool false)) (Ze (Zd (Zb (Zb ?_))))))))))
 by_cases hs1:x<0
 refine Zo (dA (fe 0 6 U35 1) I0 (dA (lE (iv x) 10 U3) I0 (dC (ZY rfl (dT hs1)) I0 I0 (dM (mT 12 bT) (dK (dK (dK (dK (dK (dK (dK (dK (dK (dP (pk true bT (.v (.tuple #[])) rfl) (dM (mT 23 bT) (dK (dK (dK (dK (dK (dP (pk true bT (.v (.tuple #[])) rfl) (dE ?_)))))))))))))))))))))) (by kernel_rfl)
 show ETri J w0 _ _ _
 refine kW 94 [] [(0,.el (En.sysP p n t f) 0),(5,.el (En.cfV (Rd.shI p.top (Ns.shT p.top (Ns.cntE p n f)) c.sh) c) 0),(6,.el ([iv x,iv y,iv kp]) 0),(7,.el (En.msA g) 0),(8,bF),(30,bT)] (Zd (Zm rfl (Zb (Za (pM (aC (.bool false)) (Ze (Zd (Zk (Zj ?_)))))))))
 refine Zs Try.results28 (.tmp rfl) ?_
 exact rfl
 by_cases hs2:((p.rules.length:Nat):Int)≤x
 refine Zo (dA (fe 0 6 U35 1) I0 (dA (lE (iv x) 10 U3) I0 (dC (ZY rfl (dF hs1)) I0 I0 (dM (mT 12 bF) (dA (fe 0 6 U35 1) I0 (dA (lE (iv x) 14 U3) I0 (dM (mT 0 (.el (En.sysP p n t f) 0)) (dA (Zl (off:=0) (.tmp 16) rfl) I0 (dA (fe 0 17 U111 10) I0 (dA (fe 9 18 U27 1) I0 (dA (lE (slA 18 cRu p.rules) 19 U25) I0 (dA (nS 20 U25) I0 (dC (Y0 rfl (dT hs2)) I0 I0 (dP (pk false bT bT rfl) (dM (mT 23 bT) (dK (dK (dK (dK (dK (dP (pk true bT (.v (.tuple #[])) rfl) (dE ?_)))))))))))))))))))))) (by kernel_rfl)
 show ETri J w0 _ _ _
 refine kW 94 [] [(0,.el (En.sysP p n t f) 0),(5,.el (En.cfV (Rd.shI p.top (Ns.shT p.top (Ns.cntE p n f)) c.sh) c) 0),(6,.el ([iv x,iv y,iv kp]) 0),(7,.el (En.msA g) 0),(8,bF),(30,bT)] (Zd (Zm rfl (Zb (Za (pM (aC (.bool false)) (Ze (Zd (Zk (Zj ?_)))))))))
 refine Zs Try.results28 (.tmp rfl) ?_
 exact rfl
 refine Zo (dA (fe 0 6 U35 1) I0 (dA (lE (iv x) 10 U3) I0 (dC (ZY rfl (dF hs1)) I0 I0 (dM (mT 12 bF) (dA (fe 0 6 U35 1) I0 (dA (lE (iv x) 14 U3) I0 (dM (mT 0 (.el (En.sysP p n t f) 0)) (dA (Zl (off:=0) (.tmp 16) rfl) I0 (dA (fe 0 17 U111 10) I0 (dA (fe 9 18 U27 1) I0 (dA (lE (slA 18 cRu p.rules) 19 U25) I0 (dA (nS 20 U25) I0 (dC (Y0 rfl (dF hs2)) I0 I0 (dP (pk false bT bF rfl) (dM (mT 23 bF) (dM (mT 0 (.el (En.sysP p n t f) 0)) (dA (fe 1 6 U35 1) I0 (dA (lE (iv y) 26 U3) I0 (dD (sc #[.tmp 25,.tmp 27] [] (Yd (isProc_c hn) (hno (by have:=hs1;have:=hs2;omega))) [.el (En.sysP p n t f) 0,iv y] rfl rfl rfl) I0 I0 I0 (dA (Ya rfl rfl) I0 (dP (pk false bT bT rfl) (dE ?_)))))))))))))))))))))) (by kernel_rfl)
 show ETri J w0 _ _ _
 refine kW 94 [] [(0,.el (En.sysP p n t f) 0),(5,.el (En.cfV (Rd.shI p.top (Ns.shT p.top (Ns.cntE p n f)) c.sh) c) 0),(6,.el ([iv x,iv y,iv kp]) 0),(7,.el (En.msA g) 0),(8,bF),(30,bT)] (Zd (Zm rfl (Zb (Za (pM (aC (.bool false)) (Ze (Zd (Zk (Zj ?_)))))))))
 refine Zs Try.results28 (.tmp rfl) ?_
 exact rfl
theorem En.isP_no {m:Nat} {x:Int} (h:¬ (0≤x∧x<((m:Nat):Int))):En.isP m x=false:=by
  unfold En.isP
  rw [Bool.and_eq_false_iff,decide_eq_false_iff_not,decide_eq_false_iff_not]
  omega
theorem enabled_c {p:Fm} (HL:FamLen p) {n t f:Int} {c:Cf} (hc:En.CfV p n f c) (hv:valE p=0) (l8:c.st.length≤8) {x y kp:Int} {g:Nat→Int} (hg:∀ m,0≤g m∧g m≤3000000):Ctr Try.prog J 28 [.el (En.sysP p n t f) 0,.agg (En.cfV (Rd.shI p.top (Ns.shT p.top (Ns.cntE p n f)) c.sh) c),.agg [iv x,iv y,iv kp],.agg (En.msA g)] (bv (En.enB p n t f c g x y kp)):=by
  by_cases h1:0≤x∧x<((p.rules.length:Nat):Int)
  · by_cases h2:0≤y∧y<((c.st.length:Nat):Int)
    · obtain ⟨r,rfl⟩:=Int.eq_ofNat_of_zero_le h1.1
      obtain ⟨i,rfl⟩:=Int.eq_ofNat_of_zero_le h2.1
      have hr:r<p.rules.length:=by omega
      have hi:i<c.st.length:=by omega
      have e:En.enB p n t f c g ((r:Nat):Int) ((i:Nat):Int) kp=En.enR p.top n t f c g p.rules[r] i kp:=by
        unfold En.enB
        rw [En.isP_nat hr,En.isP_nat hi,Int.toNat_natCast,Int.toNat_natCast,List.getD_eq_getElem?_getD,List.getElem?_eq_getElem hr]
        rfl
      rw [e]
      exact enabled_in HL hc hv l8 hr hi hg
    have e:En.enB p n t f c g x y kp=false:=by
      unfold En.enB
      rw [En.isP_no h2];simp
    rw [e]
    exact enabled_no HL hc hv l8 fun _=>En.isP_no h2
  have e:En.enB p n t f c g x y kp=false:=by
    unfold En.enB
    rw [En.isP_no h1];rfl
  rw [e]
  exact enabled_no HL hc hv l8 fun h=>absurd h h1
section
variable {P:Program} {o:Oper}
theorem sp_sliceBoxH {t e:TypeId} {m:Int} {len n k off:Nat} {ik:IntKind} (x y:Operand) (ho:o.op = .slice t x none (some y) none) (hu:P.underlying t=some (.array len e)) (hz:(P.info? e).map (·.size)=some 1) (hn:n≤len) (h0:Nat.blt 0 len=true) (hmn:m=(n:Int)) :
    ASpec P J o [(x,.box k off),(y,.v (.int ik m))] [] (.bsl k off n) .no :=
  ZM fun ρ B a w _ ha _=>by
    subst hmn
    obtain ⟨b,c,n1,h1',h2⟩:=(ha (x,.box k off) (by simp)).box_inv
    have hy:=(ha (y,.v (.int ik (n:Int))) (by simp)).v_inv
    obtain ⟨it,hi,_⟩:=Option.map_eq_some_iff.1 hz
    have h0':0<len:=by rwa [Nat.blt_eq] at h0
    refine ⟨.slice (some ⟨b,off,none⟩) n len,?_,.bsl (o:=off) (m:=n) h1' (.inl ⟨b,c,n1,off,len,rfl,rfl,fun _=>rfl⟩)⟩
    simp only [execOp,ho,h2]
    refine Yc ?_
    have r2:(Instr.sliceBound (a.eval y) len .sliceAlen).run P w = .ok n w:=by
      rw [hy];simp [Instr.sliceBound,asIntOf,hn]
    simp [Instr.sliceAt,run_underlying hu,Instr.sureAddr,Instr.sliceBounds,sizeOf,typeInfo,hi,r2,Addr.add_mid]
theorem sp_lenBsl {t e:TypeId} {n k off:Nat} (x:Operand) (ho:o.op = .call { callee := .builtin .len,args := #[x],argTypes := #[t] }) (hu:P.underlying t=some (.slice e)):ASpec P J o [(x,.bsl k off n)] [] (.v (.int .i64 n)) .no :=
  ZM fun ρ B a w _ ha _=>by
    obtain ⟨nm,_,h3⟩:=(ha (x,.bsl k off n) (by simp)).bsl_part
    refine ⟨.int .i64 n,?_,.pu (.v _)⟩
    rcases h3 with ⟨b,c,n1,o',cap,rfl,h4,_⟩ | ⟨rfl,h4⟩<;>simp [execOp,ho,resolve,invoke,builtin,h4,run_lenS hu]
theorem sp_indexBsl {t e:TypeId} {n k off off':Nat} {ik:IntKind} {i:Int} (x y:Operand) (ho:o.op = .indexAddr t x y) (hu:P.underlying t=some (.slice e)) (hz:(P.info? e).map (·.size)=some 1) (h0:0≤i) (h1:i<n) (he:off+i.toNat*1=off') :
    ASpec P J o [(x,.bsl k off n),(y,.v (.int ik i))] [] (.box k off') .no :=
  ZM fun ρ B a w _ ha _=>by
    obtain ⟨b,c,n1,cp,h1',h2⟩:=(ha (x,.bsl k off n) (by simp)).bsl_inv (by omega)
    have hy:=(ha (y,.v (.int ik i)) (by simp)).v_inv
    refine ⟨_,?_,.box (o:=off') h1'⟩
    simp only [execOp,ho,h2,hy]
    exact Yc (by rw [run_index hu hz _ _ _ _ _ _ h0 h1,he])
theorem Yx {t e:TypeId} {len off:Nat} {cs ds:List AV} (x:Operand) (ho:o.op = .slice t x none none none) (hu:P.underlying t=some (.array len e)) (hz:(P.info? e).map (·.size)=some 1) (h0:Nat.blt 0 len=true) (hm:Nat.ble len maxLen=true) (hd:(cs.drop off).take len=ds) (hl:ds.length=len) :
    ASpec P J o [(x,.el cs off)] [] (.sl 1 len ds) .no :=
  ZM fun ρ B a w _ ha _=>by
    obtain ⟨b,base,f,h2,hb,hw,hf,hp⟩:=rel_el (ha (x,.el cs off) (by simp))
    obtain ⟨it,hi,_⟩:=Option.map_eq_some_iff.1 hz
    have h0':0<len:=by rwa [Nat.blt_eq] at h0
    refine ⟨.slice (some ⟨b,base+off,none⟩) len len,?_,.pu (.sl (f:=fun j=>f (off+j)) (by omega) (Nat.le_refl _) (Nat.le_of_ble_eq_true hm) hb hw (fun j hj => ?_) fun j hj => ?_)⟩
    · simp only [execOp,ho,h2]
      refine Yc ?_
      simp [Instr.sliceAt,run_underlying hu,Instr.sureAddr,Instr.sliceBounds,sizeOf,typeInfo,hi,Addr.add_mid]
    · subst hd
      obtain ⟨h5,_⟩:=Kv cs off _ j hj
      rw [Nat.add_assoc];exact hf _ h5
    subst hd
    obtain ⟨h5,h6⟩:=Kv cs off _ j hj
    rw [h6];exact hp _ h5
end
theorem wk_freeze {h:AHeap} {t:ATm} (i k o:Nat) {T:TypeId} {cs:List AV} {t':ATm} (hb:h k=some (.box T cs)) (hi:t.f i = .box k o) (hv:cs.all AV.isV=true) (ht:(⟨t.n,fun j=>if j=i then .el cs o else (t.f j).wk3 (fun j => !(j==k)) h⟩:ATm)=t') (hk:k<hand:=by decide) :
    Wk h t (fun j=>if j=k then none else (h j).map (ABlk.wk (fun j => !(j==k)) h)) t':=by
  subst ht
  intro J w0 ρ a w s
  refine ⟨kept (fun j => !(j==k)) ρ,?_⟩
  have H:∀ X x,Rel ρ w0.heap.size w X x→Rel (kept (fun j => !(j==k)) ρ) w0.heap.size w (X.wk3 (fun j => !(j==k)) h) x:=fun X x hx=>rel_wk3 s.wf s.hp hx
  have H1:∀ X x,Rel ρ w0.heap.size w X x→Rel (kept (fun j => !(j==k)) ρ) w0.heap.size w (X.wk1 (fun j => !(j==k)) h) x:=fun X x hx=>Y2 s.wf s.hp hx
  have hsub:∀ k' nm,kept (fun j => !(j==k)) ρ k'=some nm→ρ k'=some nm∧k'≠k:=fun k' nm e=>by
    dsimp only [kept] at e
    split at e
    · rename_i e1;exact ⟨e,by simpa using e1⟩
    cases e
  have hyes:∀ k',k'≠k→kept (fun j => !(j==k)) ρ k'=ρ k':=fun k' e=>Kz (by simpa using e)
  refine ⟨⟨fun j k b c d m n hj hk=>s.wf.inj _ _ _ _ _ _ _ (hsub _ _ hj).1 (hsub _ _ hk).1,fun k b c n hk=>s.wf.lo _ _ _ _ (hsub _ _ hk).1⟩,s.hH,s.bel,s.inv,fun j X hj => ?_,fun j hl hj => ?_,fun j hj=>(hyes j (by omega)).trans (s.pin j hj),s.tl,fun j hj => ?_,s.df,fun j hj => ?_⟩
  · by_cases e:j=k
    · rw [if_pos e] at hj;cases hj
    rw [if_neg e] at hj
    obtain ⟨Y,hY,rfl⟩:=Option.map_eq_some_iff.1 hj
    obtain ⟨nm,g1,g2⟩:=s.hp j Y hY
    refine ⟨nm,(hyes j e).trans g1,?_⟩
    cases Y with
    | box T cs =>
      obtain ⟨b,c,n,vs,rfl,q1,q2,q3⟩:=g2
      exact ⟨b,c,n,vs,rfl,q1,by simpa using q2,fun j hj=>by rw [List.getElem_map];exact H1 _ _ (q3 j (by simpa using hj))⟩
    | row fr e z n cs =>
      obtain ⟨xs,q1,q2,q3⟩:=g2
      exact ⟨xs,q1,q2,fun j hj=>(q3 j hj).weak fun b hb=>⟨fun k c n hk=>hb.1 _ _ _ (hsub _ _ hk).1,hb.2⟩⟩
  · by_cases e:j=k
    · subst e;exact kept_no (by simp)
    rw [if_neg e] at hj
    rw [hyes j e]
    exact s.dom j hl (by simpa using hj)
  · show Rel _ _ _ (if j=i then _ else _) _
    by_cases e:j=i
    · subst e
      rw [if_pos rfl]
      have h1:=s.tm j hj
      rw [hi] at h1
      obtain ⟨b,c,n,g1,g2⟩:=h1.box_inv
      obtain ⟨nm,g3,b',c',n',vs,e0,q1,q2,q3⟩:=s.hp k _ hb
      rw [g1] at g3;cases g3;cases e0
      have hnk:okOf (kept (fun j => !(j==k)) ρ) b:=fun k' c' n' hk'=>by
        have:=hsub _ _ hk'
        exact this.2 (s.wf.inj _ _ _ _ _ _ _ this.1 g1)
      rw [g2]
      have:=(Pu.el (F:=(w0.heap.size ≤ ·)) (w:=w) (ok:=okOf (kept (fun j => !(j==k)) ρ)) (off:=0) (o:=o) (cs:=cs) (f:=fun j=>vs.getD j undef) hnk (s.wf.lo _ _ _ _ g1).2 (fun j hj => ?_) fun j hj => ?_)
      · rw [Nat.zero_add] at this
        exact .pu this
      · have hj2:j<vs.size:=by omega
        rw [Nat.zero_add]
        simp [World.cell?,q1,Array.getD,hj2]
      have h3:=q3 j hj
      have h4:(cs[j]).isV=true:=List.all_eq_true.1 hv _ (List.getElem_mem hj)
      revert h3 h4
      generalize cs[j]=X
      intro h3 h4
      cases X<;>first | cases h4 | skip
      rw [h3.v_inv];exact .v _
    rw [if_neg e];exact H _ _ (s.tm j hj)
  show (if j=k then _ else _)=none
  by_cases e:j=k
  · rw [if_pos e]
  rw [if_neg e,s.gh j hj];rfl
namespace Ap
open En
theorem getD_set {l:List Int} {i:Nat} {x:Int} (h:i<l.length) (j:Nat):(l.set i x).getD j 0=if i=j then x else l.getD j 0:=by
  rw [List.getD_eq_getElem?_getD,List.getD_eq_getElem?_getD]
  by_cases e:i=j
  · subst e;rw [if_pos rfl,List.getElem?_set_self h];rfl
  rw [if_neg e,List.getElem?_set_ne e]
def wst (c:Cf) (l:List Int):Cf:=⟨c.sh,l,c.cor,c.se,c.fa,c.val⟩
def wse (c:Cf) (l:List Int):Cf:=⟨c.sh,c.st,c.cor,l,c.fa,c.val⟩
def wfa (c:Cf) (l:List Int):Cf:=⟨c.sh,c.st,c.cor,c.se,l,c.val⟩
theorem cfV_setSt {s:Int} {c:Cf} {i:Nat} {x:Int} (h:i<8) (hl:i<c.st.length):setAll (cfV s c) (1+i*1) [iv x]=cfV s (wst c (c.st.set i x)):=by
  obtain rfl | rfl | rfl | rfl | rfl | rfl | rfl | rfl:i=0∨i=1∨i=2∨i=3∨i=4∨i=5∨i=6∨i=7:=by omega
  all_goals (unfold cfV wst;simp only [getD_set hl];rfl)
theorem cfV_setSe {s:Int} {c:Cf} {i:Nat} {x:Int} (h:i<3) (hl:i<c.se.length):setAll (cfV s c) (9+i*1) [iv x]=cfV s (wse c (c.se.set i x)):=by
  obtain rfl | rfl | rfl:i=0∨i=1∨i=2:=by omega
  all_goals (unfold cfV wse;simp only [getD_set hl];rfl)
theorem cfV_setFa {s:Int} {c:Cf} {i:Nat} {x:Int} (h:i<3) (hl:i<c.fa.length):setAll (cfV s c) (12+i*1) [iv x]=cfV s (wfa c (c.fa.set i x)):=by
  obtain rfl | rfl | rfl:i=0∨i=1∨i=2:=by omega
  all_goals (unfold cfV wfa;simp only [getD_set hl];rfl)
theorem cfV_se {s:Int} {c:Cf} {k:Nat} (h:k<3):(cfV s c)[9+k*1]? = some (iv (c.se.getD k 0)):=by
  obtain rfl | rfl | rfl:k=0∨k=1∨k=2:=by omega
  all_goals rfl
def brd (r:Ru) (s:Int):Int:=r.resp.getD s.toNat 0
def brL (r:Ru) (l:List Int) (j:Nat):List Int:=(List.range l.length).map fun q=>if q<j then brd r (l.getD q 0) else l.getD q 0
theorem brL_len (r:Ru) (l:List Int) (j:Nat):(brL r l j).length=l.length:=by simp [brL]
theorem brL_at {r:Ru} {l:List Int} {j q:Nat} (h:q<l.length):(brL r l j)[q]'(by rw [brL_len];exact h)=if q<j then brd r (l.getD q 0) else l.getD q 0:=by simp [brL]
theorem brL_zero (r:Ru) (l:List Int):brL r l 0=l:=by
  refine List.ext_getElem (brL_len _ _ _) fun q h1 h2 => ?_
  rw [brL_at h2,if_neg (by omega),Ct.getD_at h2]
theorem brL_all (r:Ru) (l:List Int) {j:Nat} (h:l.length≤j):brL r l j=l.map (brd r):=by
  refine List.ext_getElem (by rw [brL_len,List.length_map]) fun q h1 h2 => ?_
  have hq:q<l.length:=by rw [brL_len] at h1;exact h1
  rw [brL_at hq,if_pos (by omega),Ct.getD_at hq,List.getElem_map]
theorem brL_get {r:Ru} {l:List Int} {j:Nat} (h:j<l.length):(brL r l j).getD j 0=l.getD j 0:=by
  rw [Ct.getD_at (by rw [brL_len];exact h),brL_at h,if_neg (by omega)]
theorem brL_set {r:Ru} {l:List Int} {j:Nat}:(brL r l j).set j (brd r (l.getD j 0))=brL r l (j+1):=by
  refine List.ext_getElem (by rw [List.length_set,brL_len,brL_len]) fun q h1 h2 => ?_
  have hq:q<l.length:=by rw [brL_len] at h2;exact h2
  rw [List.getElem_set,brL_at hq,brL_at hq]
  by_cases e:j=q
  · subst e;rw [if_pos rfl,if_pos (by omega)]
  rw [if_neg e]
  by_cases e2:q<j
  · rw [if_pos e2,if_pos (by omega)]
  rw [if_neg e2,if_neg (by omega)]
theorem br_step {s:Int} {c:Cf} {r:Ru} {j:Nat} {x:Int} (h:j<c.st.length) (h8:c.st.length≤8) (hx:x=brd r (c.st.getD j 0)):setAll (cfV s (wst c (brL r c.st j))) (1+j*1) [iv x]=cfV s (wst c (brL r c.st (j+1))):=by
  rw [cfV_setSt (c:=wst c (brL r c.st j)) (by omega) (by show j<(brL r c.st j).length;rw [brL_len];exact h)]
  show cfV s (wst c ((brL r c.st j).set j x))=_
  rw [hx,brL_set]
theorem br_load {s:Int} {c:Cf} {r:Ru} {j:Nat} (h:j<c.st.length) (h8:c.st.length≤8):(cfV s (wst c (brL r c.st j)))[1+j*1]? = some (iv (c.st.getD j 0)):=by
  rw [cfV_st (by omega)]
  show some (iv ((brL r c.st j).getD j 0))=_
  rw [brL_get h]
theorem brd_at {r:Ru} {x:Int} (h:x.toNat<r.resp.length):r.resp[x.toNat]=brd r x:=by
  unfold brd;rw [Ct.getD_at h]
theorem cst_in {p:Fm} {n f:Int} {c:Cf} (h:CfV p n f c) {j:Nat} (hj:j<c.st.length):0≤c.st.getD j 0∧c.st.getD j 0<p.states.length:=by
  rw [Ct.getD_at hj];exact h.st _ (List.getElem_mem hj)
def st0 (c:Cf) (r:Ru):List Int:=if r.kind=3 then c.st.map (brd r) else c.st
def st1 (c:Cf) (r:Ru) (i:Nat):List Int:=(st0 c r).set i r.to
def stA (c:Cf) (r:Ru) (i:Nat) (k:Int):List Int:=if r.kind=2∨r.kind=5 then (st1 c r i).set k.toNat r.pt else st1 c r i
theorem st0_len (c:Cf) (r:Ru):(st0 c r).length=c.st.length:=by unfold st0;split<;>simp
theorem st1_len (c:Cf) (r:Ru) (i:Nat):(st1 c r i).length=c.st.length:=by unfold st1;rw [List.length_set,st0_len]
theorem stA_len (c:Cf) (r:Ru) (i:Nat) (k:Int):(stA c r i k).length=c.st.length:=by unfold stA;split<;>simp [st1_len]
def snd (l ms:List Int):List Int:=ms.foldl (fun l m=>l.set m.toNat (l.getD m.toNat 0+1)) l
theorem snd_len (ms:List Int):∀ l:List Int,(snd l ms).length=l.length:=by
  induction ms with
  | nil=>intro l;rfl
  | cons m ms ih=>intro l;show (snd _ ms).length=_;rw [ih,List.length_set]
theorem snd_succ (l ms:List Int) {k:Nat} (h:k<ms.length):snd l (ms.take (k+1))=(snd l (ms.take k)).set ms[k].toNat ((snd l (ms.take k)).getD ms[k].toNat 0+1):=by
  unfold snd
  rw [List.take_succ_eq_append_getElem h,List.foldl_append]
  rfl
theorem getD_in {l:List Int} {a:Int} (h:∀ x∈l,0≤x∧x≤a) (ha:0≤a) (j:Nat):0≤l.getD j 0∧l.getD j 0≤a:=by
  by_cases hj:j<l.length
  · rw [Ct.getD_at hj];exact h _ (List.getElem_mem hj)
  rw [List.getD_eq_getElem?_getD,List.getElem?_eq_none (by omega)];exact ⟨by decide,ha⟩
theorem snd_in (ms:List Int):∀ (l:List Int) (a:Int),0≤a→(∀ x∈l,0≤x∧x≤a)→∀ x∈snd l ms,0≤x∧x≤a+ms.length:=by
  induction ms with
  | nil=>intro l a ha h x hx;have:=h x hx;simp;exact this
  | cons m ms ih =>
    intro l a ha h x hx
    have:=ih (l.set m.toNat (l.getD m.toNat 0+1)) (a+1) (by omega) (fun y hy => ?_) x hx
    · rw [List.length_cons];omega
    rcases List.mem_or_eq_of_mem_set hy with h1 | rfl
    · have:=h y h1;omega
    have:=getD_in h ha m.toNat;omega
def seA (cor:Int) (c:Cf) (r:Ru) (i k:Nat):List Int:=if ((i:Nat):Int)<cor then snd c.se (r.send.take k) else c.se
def faA (cor:Int) (c:Cf) (r:Ru) (i k:Nat):List Int:=if ((i:Nat):Int)<cor then c.fa else snd c.fa (r.send.take k)
def mid (cor:Int) (c:Cf) (r:Ru) (i:Nat) (kp:Int) (k:Nat):Cf:=⟨c.sh,stA c r i kp,c.cor,seA cor c r i k,faA cor c r i k,c.val⟩
def af (cor:Int) (c:Cf) (r:Ru) (i:Nat) (kp:Int):Cf:=⟨c.sh,stA c r i kp,c.cor,seA cor c r i r.send.length,faA cor c r i r.send.length,if 0≤r.wr then r.wr else c.val⟩
theorem mid_zero (cor:Int) (c:Cf) (r:Ru) (i:Nat) (kp:Int):mid cor c r i kp 0=wst c (stA c r i kp):=by
  unfold mid wst seA faA snd
  simp
theorem seA_len (cor:Int) (c:Cf) (r:Ru) (i k:Nat):(seA cor c r i k).length=c.se.length:=by unfold seA;split<;>simp [snd_len]
theorem faA_len (cor:Int) (c:Cf) (r:Ru) (i k:Nat):(faA cor c r i k).length=c.fa.length:=by unfold faA;split<;>simp [snd_len]
theorem seA_in {cor:Int} {c:Cf} {r:Ru} {i k:Nat} (h:∀ x∈c.se,0≤x∧x≤1048576):∀ x∈seA cor c r i k,0≤x∧x≤1048576+r.send.length:=by
  intro x hx
  unfold seA at hx
  split at hx
  · have:=snd_in (r.send.take k) c.se 1048576 (by decide) h x hx
    have hl:(r.send.take k).length≤r.send.length:=by simp;omega
    omega
  have:=h x hx;omega
theorem faA_in {cor:Int} {c:Cf} {r:Ru} {i k:Nat} (h:∀ x∈c.fa,0≤x∧x≤1048576):∀ x∈faA cor c r i k,0≤x∧x≤1048576+r.send.length:=by
  intro x hx
  unfold faA at hx
  split at hx
  · have:=h x hx;omega
  have:=snd_in (r.send.take k) c.fa 1048576 (by decide) h x hx
  have hl:(r.send.take k).length≤r.send.length:=by simp;omega
  omega
theorem se_step {s cor:Int} {c:Cf} {r:Ru} {i k:Nat} {kp:Int} (hc:((i:Nat):Int)<cor) (hk:k<r.send.length) (h3:r.send[k].toNat<3) (hl:r.send[k].toNat<c.se.length) :
    setAll (cfV s (mid cor c r i kp k)) (9+r.send[k].toNat*1) [iv ((seA cor c r i k).getD r.send[k].toNat 0+1)]=cfV s (mid cor c r i kp (k+1)):=by
  rw [cfV_setSe (c:=mid cor c r i kp k) h3 (by show _<(seA cor c r i k).length;rw [seA_len];exact hl)]
  refine congrArg (cfV s) ?_
  unfold wse mid
  have e1:seA cor c r i (k+1)=(seA cor c r i k).set r.send[k].toNat ((seA cor c r i k).getD r.send[k].toNat 0+1):=by
    unfold seA;rw [if_pos hc,if_pos hc,snd_succ _ _ hk]
  have e2:faA cor c r i (k+1)=faA cor c r i k:=by unfold faA;rw [if_pos hc,if_pos hc]
  rw [e1,e2]
theorem fa_step {s cor:Int} {c:Cf} {r:Ru} {i k:Nat} {kp:Int} (hc:¬ ((i:Nat):Int)<cor) (hk:k<r.send.length) (h3:r.send[k].toNat<3) (hl:r.send[k].toNat<c.fa.length) :
    setAll (cfV s (mid cor c r i kp k)) (12+r.send[k].toNat*1) [iv ((faA cor c r i k).getD r.send[k].toNat 0+1)]=cfV s (mid cor c r i kp (k+1)):=by
  rw [cfV_setFa (c:=mid cor c r i kp k) h3 (by show _<(faA cor c r i k).length;rw [faA_len];exact hl)]
  refine congrArg (cfV s) ?_
  unfold wfa mid
  have e1:faA cor c r i (k+1)=(faA cor c r i k).set r.send[k].toNat ((faA cor c r i k).getD r.send[k].toNat 0+1):=by
    unfold faA;rw [if_neg hc,if_neg hc,snd_succ _ _ hk]
  have e2:seA cor c r i (k+1)=seA cor c r i k:=by unfold seA;rw [if_neg hc,if_neg hc]
  rw [e1,e2]
theorem cfV_rowSe {s:Int} {c:Cf} (h:c.se.length≤3):((cfV s c).drop 9).take c.se.length=c.se.map iv:=by
  apply List.ext_getElem?
  intro j
  rw [List.getElem?_take]
  by_cases hj:j<c.se.length
  · rw [if_pos hj,List.getElem?_drop,List.getElem?_map,List.getElem?_eq_getElem hj,Option.map_some]
    have:=cfV_se (s:=s) (c:=c) (k:=j) (by omega)
    rw [Nat.mul_one,Ct.getD_at hj] at this
    exact this
  rw [if_neg hj,List.getElem?_map,List.getElem?_eq_none (by omega)];rfl
theorem cfV_rowFa {s:Int} {c:Cf} (h:c.fa.length≤3):((cfV s c).drop 12).take c.fa.length=c.fa.map iv:=by
  apply List.ext_getElem?
  intro j
  rw [List.getElem?_take]
  by_cases hj:j<c.fa.length
  · rw [if_pos hj,List.getElem?_drop,List.getElem?_map,List.getElem?_eq_getElem hj,Option.map_some]
    have:=cfV_fa (s:=s) (c:=c) (k:=j) (by omega)
    rw [Nat.mul_one,Ct.getD_at hj] at this
    exact this
  rw [if_neg hj,List.getElem?_map,List.getElem?_eq_none (by omega)];rfl
theorem bel3 {l:List Int} {m:Int} (h:l.length≤3) (hm:0<m):Rd.belB [l.getD 0 0,l.getD 1 0,l.getD 2 0] m=Rd.belB l m:=by
  have h0:Rd.outB m 0=false:=by unfold Rd.outB;simp;omega
  match l,h with
  | [],_=>simp [Rd.belB,h0]
  | [a],_=>simp [Rd.belB,h0]
  | [a,b],_=>simp [Rd.belB,h0]
  | [a,b,d],_=>rfl
theorem flat_li (L:List (List Int)):L.flatMap cLi=L.map Zc:=by
  induction L with
  | nil=>rfl
  | cons a l ih=>rw [List.flatMap_cons,ih];rfl
theorem sh_at {L:List (List Int)} {i:Nat} {sh:List Int} (h:L[i]? = some sh):(L.flatMap cLi)[i*1]? = some (Zc sh):=by
  rw [flat_li,Nat.mul_one,List.getElem?_map,h];rfl
theorem shT_top {top n:Int} (h:0<(((Ns.shT top n).length:Nat):Int)):top=4:=by
  by_cases e:top=4
  · exact e
  rw [Ns.shT_no e] at h;simp at h
def z16:List AV:=[iv 0,iv 0,iv 0,iv 0,iv 0,iv 0,iv 0,iv 0,iv 0,iv 0,iv 0,iv 0,iv 0,iv 0,iv 0,iv 0]
def zC:Cf:=⟨[],[],0,[],[],0⟩
theorem en_at {p:Fm} {n t f:Int} {c:Cf} {g:Nat→Int} {x y k:Int} (h:enB p n t f c g x y k=true):∃ (r i:Nat),r<p.rules.length∧i<c.st.length∧x=((r:Nat):Int)∧y=((i:Nat):Int):=by
  unfold enB at h
  rw [Bool.and_eq_true,Bool.and_eq_true] at h
  obtain ⟨a,b,_⟩:=h
  unfold isP at a b
  simp only [Bool.and_eq_true,decide_eq_true_eq] at a b
  exact ⟨x.toNat,y.toNat,by omega,by omega,by omega,by omega⟩
theorem rule_get {p:Fm} {r:Nat} (hr:r<p.rules.length):p.rules.getD r default=p.rules[r]:=by
  rw [List.getD_eq_getElem?_getD,List.getElem?_eq_getElem hr];rfl
theorem pt_of {p:Fm} {n t f:Int} {c:Cf} {g:Nat→Int} {r i:Nat} {k:Int} {hr:r<p.rules.length} (h:enB p n t f c g ((r:Nat):Int) ((i:Nat):Int) k=true):ptB c p.rules[r] i k=true:=by
  unfold enB at h
  rw [Bool.and_eq_true,Bool.and_eq_true,Int.toNat_natCast,Int.toNat_natCast,rule_get hr] at h
  have h2:=h.2.2
  unfold enR at h2
  rw [Bool.and_eq_true,Bool.and_eq_true] at h2
  exact h2.2.1
theorem hpt_of {p:Fm} {n t f:Int} {c:Cf} {g:Nat→Int} {r i:Nat} {k:Int} {hr:r<p.rules.length} (h:enB p n t f c g ((r:Nat):Int) ((i:Nat):Int) k=true) (h25:p.rules[r].kind=2∨p.rules[r].kind=5):0≤k∧k<((c.st.length:Nat):Int):=by
  have h2:=pt_of (hr:=hr) h
  unfold ptB at h2
  rw [if_pos h25,Bool.and_eq_true,Bool.and_eq_true] at h2
  have:=h2.1.1
  unfold isP at this
  simp only [Bool.and_eq_true,decide_eq_true_eq] at this
  exact this
theorem mem_set {l:List Int} {i:Nat} {a x:Int} (h:x∈l.set i a):x∈l∨x=a:=List.mem_or_eq_of_mem_set h
theorem st_in {p:Fm} {n f:Int} {c:Cf} (hc:CfV p n f c) {r:Ru} (R:RuV p r) {i:Nat} {k:Int}:∀ x∈stA c r i k,0≤x∧x<p.states.length:=by
  have h0:∀ x∈st0 c r,0≤x∧x<p.states.length:=fun x hx=>by
    unfold st0 at hx
    split at hx
    · rename_i h3
      obtain ⟨y,hy,rfl⟩:=List.mem_map.1 hx
      have h4:=hc.st y hy
      have h5:=R.re h3
      have h6:y.toNat<r.resp.length:=by omega
      rw [← brd_at h6]
      exact h5.2 _ (List.getElem_mem h6)
    exact hc.st x hx
  have h1:∀ x∈st1 c r i,0≤x∧x<p.states.length:=fun x hx=>by
    rcases mem_set hx with h | rfl
    · exact h0 x h
    exact R.tf.1
  intro x hx
  unfold stA at hx
  split at hx
  · rename_i h25
    rcases mem_set hx with h | rfl
    · exact h1 x h
    exact R.pt h25
  exact h1 x hx
theorem af_ok {p:Fm} (HL:FamLen p) {n f:Int} {c:Cf} (hc:CfV p n f c) (hv:valE p=0) (HC:Rd.CgOk c) (l8:c.st.length≤8) {r:Nat} (hr:r<p.rules.length) {i:Nat} (_:i<c.st.length) {kp:Int}:Rd.CgOk (af (n-f) c p.rules[r] i kp):=by
  have R:=val_in hv (List.getElem_mem hr)
  have hz:=val_sizes hv
  have h6:=HL.states
  have hsl:=(HL.rules _ (List.getElem_mem hr)).send
  have hls:=hc.ls
  have hlf:=hc.lf
  refine ⟨HC.sh,fun x hx => ?_,fun x hx => ?_,fun x hx => ?_,HC.lsh,?_,?_,?_⟩
  · have:=st_in hc R x hx;unfold I64;omega
  · have:=seA_in hc.se x hx;unfold I64;omega
  · have:=faA_in hc.fa x hx;unfold I64;omega
  · show (stA _ _ _ _).length≤100
    rw [stA_len];omega
  · show (seA _ _ _ _ _).length≤100
    rw [seA_len];omega
  show (faA _ _ _ _ _).length≤100
  rw [faA_len];omega
theorem shI_T {p:Fm} {n f:Int} {c:Cf} (hc:CfV p n f c) (_:valE p=0) (h4:p.top=4):0≤Rd.shI p.top (Ns.shT p.top (Ns.cntE p n f)) c.sh∧Rd.shI p.top (Ns.shT p.top (Ns.cntE p n f)) c.sh<(((Ns.shT p.top (Ns.cntE p n f)).length:Nat):Int)∧(Ns.shT p.top (Ns.cntE p n f))[(Rd.shI p.top (Ns.shT p.top (Ns.cntE p n f)) c.sh).toNat]? = some c.sh:=by
  have h0:0≤Ns.cntE p n f:=by have:=hc.ln;omega
  have h:=shI_at hc (by omega) (by omega) h0
  have e:shS p.top (Ns.cntE p n f).toNat=Ns.shT p.top (Ns.cntE p n f):=by
    unfold shS;rw [if_pos h4,Ns.shT_tree h4,Int.toNat_of_nonneg h0]
  rwa [e] at h
theorem sh_no {p:Fm} {n f:Int} {c:Cf} (hc:CfV p n f c) (h4:¬ p.top=4):c.sh=[]:=by
  have h:=hc.sh
  rw [Rd.shB_no h4,decide_eq_true_iff] at h
  exact List.eq_nil_of_length_eq_zero (by omega)
def afX (p:Fm) (n f:Int) (c:Cf) (x y k:Int):Cf:=af (n-f) c (p.rules.getD x.toNat default) y.toNat k
def lgB (c:Cf):Bool:=Rd.belB c.se 1048577&&Rd.belB c.fa 1048577
def apE (p:Fm) (n t f:Int) (c:Cf) (x y k:Int):Int :=
  if Rd.vcE p n t f c=0 then (if enB p n t f c (hdJ p f c p.msgs.length) x y k=true then (if lgB (afX p n f c x y k)=true then 0 else 4) else 9) else Rd.vcE p n t f c
def apC (p:Fm) (n t f:Int) (c:Cf) (x y k:Int):Cf:=if apE p n t f c x y k=0 then afX p n f c x y k else zC
section
variable {p:Fm} {n t f:Int} {c:Cf} {x y k:Int} {r i:Nat}
theorem afX_at (hr:r<p.rules.length):afX p n f c ((r:Nat):Int) ((i:Nat):Int) k=af (n-f) c p.rules[r] i k:=by
  unfold afX;rw [Int.toNat_natCast,Int.toNat_natCast,rule_get hr]
theorem lg_and {c:Cf}:lgB c=true↔Rd.belB c.se 1048577=true∧Rd.belB c.fa 1048577=true:=by unfold lgB;rw [Bool.and_eq_true]
theorem apE_err (hz:¬ Rd.vcE p n t f c=0):apE p n t f c x y k=Rd.vcE p n t f c:=by unfold apE;rw [if_neg hz]
theorem apC_err (hz:¬ Rd.vcE p n t f c=0):apC p n t f c x y k=zC:=by unfold apC;rw [apE_err hz,if_neg hz]
theorem apE_no (hz:Rd.vcE p n t f c=0) (he:enB p n t f c (hdJ p f c p.msgs.length) x y k=false):apE p n t f c x y k=9:=by unfold apE;rw [if_pos hz,he];rfl
theorem apC_no (hz:Rd.vcE p n t f c=0) (he:enB p n t f c (hdJ p f c p.msgs.length) x y k=false):apC p n t f c x y k=zC:=by unfold apC;rw [apE_no hz he];rfl
theorem apE_ok (hz:Rd.vcE p n t f c=0) (he:enB p n t f c (hdJ p f c p.msgs.length) ((r:Nat):Int) ((i:Nat):Int) k=true) (hr:r<p.rules.length) (hl:Rd.belB (af (n-f) c p.rules[r] i k).se 1048577=true∧Rd.belB (af (n-f) c p.rules[r] i k).fa 1048577=true):apE p n t f c ((r:Nat):Int) ((i:Nat):Int) k=0:=by
  unfold apE;rw [if_pos hz,if_pos he,afX_at hr,if_pos (lg_and.2 hl)]
theorem apC_ok (hz:Rd.vcE p n t f c=0) (he:enB p n t f c (hdJ p f c p.msgs.length) ((r:Nat):Int) ((i:Nat):Int) k=true) (hr:r<p.rules.length) (hl:Rd.belB (af (n-f) c p.rules[r] i k).se 1048577=true∧Rd.belB (af (n-f) c p.rules[r] i k).fa 1048577=true):apC p n t f c ((r:Nat):Int) ((i:Nat):Int) k=af (n-f) c p.rules[r] i k:=by
  unfold apC;rw [apE_ok hz he hr hl,if_pos rfl,afX_at hr]
theorem apE_lg (hz:Rd.vcE p n t f c=0) (he:enB p n t f c (hdJ p f c p.msgs.length) ((r:Nat):Int) ((i:Nat):Int) k=true) (hr:r<p.rules.length) (hl:¬ (Rd.belB (af (n-f) c p.rules[r] i k).se 1048577=true∧Rd.belB (af (n-f) c p.rules[r] i k).fa 1048577=true)):apE p n t f c ((r:Nat):Int) ((i:Nat):Int) k=4:=by
  unfold apE;rw [if_pos hz,if_pos he,afX_at hr,if_neg (fun h=>hl (lg_and.1 h))]
theorem apC_lg (hz:Rd.vcE p n t f c=0) (he:enB p n t f c (hdJ p f c p.msgs.length) ((r:Nat):Int) ((i:Nat):Int) k=true) (hr:r<p.rules.length) (hl:¬ (Rd.belB (af (n-f) c p.rules[r] i k).se 1048577=true∧Rd.belB (af (n-f) c p.rules[r] i k).fa 1048577=true)):apC p n t f c ((r:Nat):Int) ((i:Nat):Int) k=zC:=by
  unfold apC;rw [apE_lg hz he hr hl];rfl
end
end Ap
set_option maxRecDepth 100000 in
set_option maxHeartbeats 6400000 in
theorem after_c {p:Fm} (HL:FamLen p) {n t f:Int} {c:Cf} (hc:En.CfV p n f c) (hv:valE p=0) (l8:c.st.length≤8) {sx:Int} {r:Nat} (hr:r<p.rules.length) {i:Nat} (hi:i<c.st.length) {kp:Int} (hpt:p.rules[r].kind=2∨p.rules[r].kind=5→0≤kp∧kp<((c.st.length:Nat):Int)):Ctr Try.prog J 44 [.el (En.sysP p n t f) 0,.agg (En.cfV sx c),.agg [iv r,iv i,iv kp]] (.agg (En.cfV sx (Ap.af (n-f) c p.rules[r] i kp))):=by
 have R:=En.val_in hv (List.getElem_mem hr)
 have hz:=En.val_sizes hv
 have hn:=hc.ln.symm
 have hls:=hc.ls
 have hlf:=hc.lf
 have hsl:=(HL.rules _ (List.getElem_mem hr)).send
 refine Zy Try.func44 rfl (by intro X hX;simp only [List.mem_cons,List.not_mem_nil,or_false] at hX;rcases hX with rfl | rfl | rfl;exact (show Plain (.el (En.sysP p n t f) 0) from .el (ZQ (En.plain_sysP p n t f)));exact Zi (En.plain_cfV _ c);exact Zi (fun X hX=>by simp only [List.mem_cons,List.not_mem_nil,or_false] at hX;rcases hX with rfl | rfl | rfl<;>exact .v _)) (n:=108) rfl (by simp) (fun w0 => ?_)
 refine kW 108 [] [(0,.el (En.sysP p n t f) 0),(1,.agg (En.cfV sx c)),(2,.agg [iv r,iv i,iv kp])] (Zb (Za (ZF rfl (Yi (X := .agg (En.cfV sx c)) (k:=1) (.tmp 1) rfl rfl) ⟨I0,T0⟩ T0 rfl (oA (ZV (X := .agg [iv r,iv i,iv kp]) (.tmp 2) rfl rfl rfl) I0 (ZF rfl (ZJ (z := .agg #[.int .i64 0,.int .i64 0,.int .i64 0,.int .i64 0,.int .i64 0,.int .i64 0,.int .i64 0,.int .i64 0,.int .i64 0,.int .i64 0,.int .i64 0,.int .i64 0,.int .i64 0,.int .i64 0,.int .i64 0,.int .i64 0]) (k:=2) rfl (by kernel_rfl)) T0 T0 rfl (Ze (Zd (Zb ?_))))))))
 refine Zo (dM (mT 0 (.el (En.sysP p n t f) 0)) (dA (Zl (off:=0) (.tmp 12) rfl) I0 (dA (fe 0 13 U111 10) I0 (dA (fe 9 14 U27 1) I0 (dA (lE (slA 18 cRu p.rules) 15 U25) I0 (dA (fe 0 5 U35 1) I0 (dA (lE (iv r) 17 U3) I0 (dC (xS (r*18) 16 18 U25) I0 I0 (dM (aT 19 (.el (p.rules.flatMap cRu) (r*18))) (dE ?_)))))))))) (by kernel_rfl)
 show ETri J w0 _ _ _
 refine kW 108 [(1,.box 78 (En.cfV sx c)),(2,.box 78 [iv 0,iv 0,iv 0,iv 0,iv 0,iv 0,iv 0,iv 0,iv 0,iv 0,iv 0,iv 0,iv 0,iv 0,iv 0,iv 0])] [(0,.el (En.sysP p n t f) 0),(4,.box 1 0),(5,.el ([iv r,iv i,iv kp]) 0),(6,.box 2 0),(7,.el (p.rules.flatMap cRu) (r*18))] (Zd (Zb (Zb (Za (pM (mT 7 (.el (p.rules.flatMap cRu) (r*18))) (oA (Zl (off:=r*18) (.tmp 20) rfl) I0 (oA (fe (r*18+1) 21 U65 1) I0 (oA (lE (iv p.rules[r].kind) 22 U3 ((Zu lenRu p.rules r 1 (by omega) (by decide)).trans rfl)) I0 (oC (ZA rfl rfl) I0 I0 (kN 108 [(1,.box 78 (En.cfV sx c)),(2,.box 78 [iv 0,iv 0,iv 0,iv 0,iv 0,iv 0,iv 0,iv 0,iv 0,iv 0,iv 0,iv 0,iv 0,iv 0,iv 0,iv 0])] [(0,.el (En.sysP p n t f) 0),(4,.box 1 0),(5,.el ([iv r,iv i,iv kp]) 0),(6,.box 2 0),(7,.el (p.rules.flatMap cRu) (r*18)),(24,bv (decide (p.rules[r].kind=3)))] (Zd ?_)))))))))))
 refine t_cut (True) (ofL [(1,.box 78 (En.cfV sx (Ap.wst c (Ap.st0 c p.rules[r])))),(2,.box 78 [iv 0,iv 0,iv 0,iv 0,iv 0,iv 0,iv 0,iv 0,iv 0,iv 0,iv 0,iv 0,iv 0,iv 0,iv 0,iv 0])]) (ofT 108 [(0,.el (En.sysP p n t f) 0),(4,.box 1 0),(5,.el ([iv r,iv i,iv kp]) 0),(6,.box 2 0),(7,.el (p.rules.flatMap cRu) (r*18))]) ?_ (fun _ => ?_)
 by_cases hs1:p.rules[r].kind=3
 rw [dT hs1]
 refine kW 108 [(1,.box 78 (En.cfV sx c)),(2,.box 78 [iv 0,iv 0,iv 0,iv 0,iv 0,iv 0,iv 0,iv 0,iv 0,iv 0,iv 0,iv 0,iv 0,iv 0,iv 0,iv 0])] [(0,.el (En.sysP p n t f) 0),(4,.box 1 0),(5,.el ([iv r,iv i,iv kp]) 0),(6,.box 2 0),(7,.el (p.rules.flatMap cRu) (r*18)),(24,bT)] (Zm rfl (Zb (Za (oA (fb 1 4 U78 8) I0 (pM (mT 0 (.el (En.sysP p n t f) 0)) (oA (Zl (off:=0) (.tmp 26) rfl) I0 (oA (fe 13 27 U111 1) I0 (oA (lE (iv (Ns.cntE p n f)) 28 U3) I0 (oC (sp_sliceBoxH (n:=c.st.length) (.tmp 25) (.tmp 29) rfl U74 (by kernel_rfl) (by omega) rfl hn) I0 I0 (oA (sp_lenBsl (.tmp 30) rfl U24) I0 (pM (YL (.const (.int .i64 0)) (iv 0) rfl) (kN 108 [(1,.box 78 (En.cfV sx c)),(2,.box 78 [iv 0,iv 0,iv 0,iv 0,iv 0,iv 0,iv 0,iv 0,iv 0,iv 0,iv 0,iv 0,iv 0,iv 0,iv 0,iv 0])] [(0,.el (En.sysP p n t f) 0),(4,.box 1 0),(5,.el ([iv r,iv i,iv kp]) 0),(6,.box 2 0),(7,.el (p.rules.flatMap cRu) (r*18)),(30,.bsl 1 1 c.st.length),(31,iv c.st.length),(32,iv 0)] (Zd (ZD ?_))))))))))))))
 rw [show En.cfV sx c=En.cfV sx (Ap.wst c (Ap.brL p.rules[r] c.st 0)) by rw [Ap.brL_zero];rfl]
 refine Yy (σ:={j:Nat // j≤c.st.length}) (fun s=>(ofL [(1,.box 78 (En.cfV sx (Ap.wst c (Ap.brL p.rules[r] c.st s.1)))),(2,.box 78 [iv 0,iv 0,iv 0,iv 0,iv 0,iv 0,iv 0,iv 0,iv 0,iv 0,iv 0,iv 0,iv 0,iv 0,iv 0,iv 0])],ofT 108 [(0,.el (En.sysP p n t f) 0),(4,.box 1 0),(5,.el ([iv r,iv i,iv kp]) 0),(6,.box 2 0),(7,.el (p.rules.flatMap cRu) (r*18)),(30,.bsl 1 1 c.st.length),(31,iv c.st.length),(32,iv s.1)])) (fun s=>c.st.length-s.1) ⟨0,Nat.zero_le _⟩ (ZC _ _ rfl (by kernel_rfl) (by kernel_rfl)) (fun s => ?_)
 obtain ⟨j,hj0⟩:=s
 show ETri J w0 (ofL [(1,.box 78 (En.cfV sx (Ap.wst c (Ap.brL p.rules[r] c.st j)))),(2,.box 78 [iv 0,iv 0,iv 0,iv 0,iv 0,iv 0,iv 0,iv 0,iv 0,iv 0,iv 0,iv 0,iv 0,iv 0,iv 0,iv 0])]) (ofT 108 [(0,.el (En.sysP p n t f) 0),(4,.box 1 0),(5,.el ([iv r,iv i,iv kp]) 0),(6,.box 2 0),(7,.el (p.rules.flatMap cRu) (r*18)),(30,.bsl 1 1 c.st.length),(31,iv c.st.length),(32,iv j)]) _
 refine Zb ?_
 by_cases hs2:((j:Nat):Int)<((c.st.length:Nat):Int)
 have hj1:j<c.st.length:=by omega
 have hst:=Ap.cst_in hc hj1
 have hre:=R.re (by assumption)
 have hrs:(c.st.getD j 0).toNat<p.rules[r].resp.length:=by omega
 refine Za (oC (ZY rfl (dT hs2)) I0 I0 (Ze (Zd (Zb (Zm rfl (Zn (Zd (Zb (ZD (Zb (Za (pM (mT 32 (iv j)) (oC (sp_indexBsl (off':=1+j*1) (.tmp 30) (.tmp 32) rfl U24 (by kernel_rfl) (by omega) (by omega) rfl) I0 I0 (oB (lB (.box 78 (En.cfV sx (Ap.wst c (Ap.brL p.rules[r] c.st j)))) (iv (c.st.getD j 0)) (.tmp 35) rfl U3 rfl (Ap.br_load hj1 l8)) I0 rfl (pM (aT 34 (iv j)) (pM (aT 36 (iv (c.st.getD j 0))) (Ze (Zd (Za (pM (mT 8 (iv j)) (pM (mT 7 (.el (p.rules.flatMap cRu) (r*18))) (oA (Zl (off:=r*18) (.tmp 38) rfl) I0 (oA (fe (r*18+6) 39 U65 1) I0 ?_)))))))))))))))))))))))
 refine oA (lE (Zc p.rules[r].resp) 40 U24 ((Zu lenRu p.rules r 6 (by omega) (by decide)).trans rfl)) I0 (pM (mT 9 (iv (c.st.getD j 0))) (oC (xS (((c.st.getD j 0).toNat)*1) 41 42 U24) I0 I0 (oA (lE (iv (p.rules[r].resp[(c.st.getD j 0).toNat])) 43 U3 (map_at1 p.rules[r].resp (by omega))) I0 (oA (fb 1 4 U78 8) I0 (oC (Z4 (off':=1+j*1) (.tmp 45) (.tmp 37) rfl U74 (by kernel_rfl) (by omega) (by omega) rfl) I0 I0 (ZF rfl (Zw (T0:=78) (X:=iv (p.rules[r].resp[(c.st.getD j 0).toNat])) (off:=1+j*1) (cs:=En.cfV sx (Ap.wst c (Ap.brL p.rules[r] c.st j))) (ds:=En.cfV sx (Ap.wst c (Ap.brL p.rules[r] c.st (j+1)))) (z:=1) (.tmp 46) (.tmp 44) rfl (by kernel_rfl) (by kernel_rfl) (by kernel_rfl) (by show _≤16;omega) (Ap.br_step hj1 l8 (Ap.brd_at hrs))) ⟨I0,I0,T0⟩ ⟨rfl,T0⟩ rfl (Ze (ZT (Zd (Za (oC (Yo (c:=((j+1:Nat):Int)) rfl (w64 (by omega) (by omega) (by omega))) I0 I0 (pM (mT 47 (iv (j+1:Nat))) (kN 108 [(1,.box 78 (En.cfV sx (Ap.wst c (Ap.brL p.rules[r] c.st (j+1))))),(2,.box 78 [iv 0,iv 0,iv 0,iv 0,iv 0,iv 0,iv 0,iv 0,iv 0,iv 0,iv 0,iv 0,iv 0,iv 0,iv 0,iv 0])] [(0,.el (En.sysP p n t f) 0),(4,.box 1 0),(5,.el ([iv r,iv i,iv kp]) 0),(6,.box 2 0),(7,.el (p.rules.flatMap cRu) (r*18)),(8,iv j),(9,iv (c.st.getD j 0)),(30,.bsl 1 1 c.st.length),(31,iv c.st.length),(32,iv (j+1:Nat)),(33,bT)] (Zd ?_))))))))))))))
 refine ZZ ⟨j+1,by omega⟩ (show c.st.length-(j+1)<c.st.length-j by omega) ?_
 show Wk _ _ (ofL [(1,.box 78 (En.cfV sx (Ap.wst c (Ap.brL p.rules[r] c.st (j+1))))),(2,.box 78 [iv 0,iv 0,iv 0,iv 0,iv 0,iv 0,iv 0,iv 0,iv 0,iv 0,iv 0,iv 0,iv 0,iv 0,iv 0,iv 0])]) (ofT 108 [(0,.el (En.sysP p n t f) 0),(4,.box 1 0),(5,.el ([iv r,iv i,iv kp]) 0),(6,.box 2 0),(7,.el (p.rules.flatMap cRu) (r*18)),(30,.bsl 1 1 c.st.length),(31,iv c.st.length),(32,iv ((j+1):Nat))])
 exact ZC _ _ rfl (by kernel_rfl) (by kernel_rfl)
 refine Za (oC (ZY rfl (dF hs2)) I0 I0 (kN 108 [(1,.box 78 (En.cfV sx (Ap.wst c (Ap.brL p.rules[r] c.st j)))),(2,.box 78 [iv 0,iv 0,iv 0,iv 0,iv 0,iv 0,iv 0,iv 0,iv 0,iv 0,iv 0,iv 0,iv 0,iv 0,iv 0,iv 0])] [(0,.el (En.sysP p n t f) 0),(4,.box 1 0),(5,.el ([iv r,iv i,iv kp]) 0),(6,.box 2 0),(7,.el (p.rules.flatMap cRu) (r*18)),(30,.bsl 1 1 c.st.length),(31,iv c.st.length),(32,iv j),(33,bF)] (Zd (Zb (Zp rfl (Yq (Zz (Zz (t_hit ?_)))))))))
 rw [show En.cfV sx (Ap.wst c (Ap.st0 c p.rules[r]))=En.cfV sx (Ap.wst c (Ap.brL p.rules[r] c.st j)) by rw [Ap.brL_all _ _ (by omega)];unfold Ap.st0;rw [if_pos hs1]]
 exact YV T0 (ZC _ _ rfl (by kernel_rfl) (by kernel_rfl))
 rw [dF hs1]
 refine kW 108 [(1,.box 78 (En.cfV sx c)),(2,.box 78 [iv 0,iv 0,iv 0,iv 0,iv 0,iv 0,iv 0,iv 0,iv 0,iv 0,iv 0,iv 0,iv 0,iv 0,iv 0,iv 0])] [(0,.el (En.sysP p n t f) 0),(4,.box 1 0),(5,.el ([iv r,iv i,iv kp]) 0),(6,.box 2 0),(7,.el (p.rules.flatMap cRu) (r*18)),(24,bF)] (Zp rfl (Zn ?_))
 rw [show En.cfV sx (Ap.wst c (Ap.st0 c p.rules[r]))=En.cfV sx c by unfold Ap.st0;rw [if_neg hs1];rfl]
 exact YV T0 (ZC _ _ rfl (by kernel_rfl) (by kernel_rfl))
 refine Zd (Zb ?_)
 refine Zo (dA (fe 1 5 U35 1) I0 (dA (lE (iv i) 48 U3) I0 (dM (mT 7 (.el (p.rules.flatMap cRu) (r*18))) (dA (Zl (off:=r*18) (.tmp 50) rfl) I0 (dA (fe (r*18+3) 51 U65 1) I0 (dA (lE (iv p.rules[r].to) 52 U3 ((Zu lenRu p.rules r 3 (by omega) (by decide)).trans rfl)) I0 (dA (fb 1 4 U78 8) I0 (dC (Z4 (off':=1+i*1) (.tmp 54) (.tmp 49) rfl U74 (by kernel_rfl) (by omega) (by omega) rfl) I0 I0 (dR (Zw (T0:=78) (X:=iv p.rules[r].to) (off:=1+i*1) (cs:=En.cfV sx (Ap.wst c (Ap.st0 c p.rules[r]))) (ds:=En.cfV sx (Ap.wst c (Ap.st1 c p.rules[r] i))) (z:=1) (.tmp 55) (.tmp 53) rfl (by kernel_rfl) (by kernel_rfl) (by kernel_rfl) (by show _≤16;omega) (Ap.cfV_setSt (c:=(Ap.wst c (Ap.st0 c p.rules[r]))) (by omega) (by show i<(Ap.st0 c p.rules[r]).length;rw [Ap.st0_len];exact hi))) ⟨I0,I0,T0⟩ ⟨rfl,T0⟩ rfl (dE ?_)))))))))) (by kernel_rfl)
 show ETri J w0 _ _ _
 refine kW 108 [(1,.box 78 (En.cfV sx (Ap.wst c (Ap.st1 c p.rules[r] i)))),(2,.box 78 [iv 0,iv 0,iv 0,iv 0,iv 0,iv 0,iv 0,iv 0,iv 0,iv 0,iv 0,iv 0,iv 0,iv 0,iv 0,iv 0])] [(0,.el (En.sysP p n t f) 0),(4,.box 1 0),(5,.el ([iv r,iv i,iv kp]) 0),(6,.box 2 0),(7,.el (p.rules.flatMap cRu) (r*18))] (Zd (Zb (Zb (Za (pM (mT 7 (.el (p.rules.flatMap cRu) (r*18))) (oC (sc #[.tmp 56] [] (hasPart_c hr) [.el (p.rules.flatMap cRu) (r*18)] rfl rfl rfl) I0 I0 (kN 108 [(1,.box 78 (En.cfV sx (Ap.wst c (Ap.st1 c p.rules[r] i)))),(2,.box 78 [iv 0,iv 0,iv 0,iv 0,iv 0,iv 0,iv 0,iv 0,iv 0,iv 0,iv 0,iv 0,iv 0,iv 0,iv 0,iv 0])] [(0,.el (En.sysP p n t f) 0),(4,.box 1 0),(5,.el ([iv r,iv i,iv kp]) 0),(6,.box 2 0),(7,.el (p.rules.flatMap cRu) (r*18)),(57,bv (decide (p.rules[r].kind=2)||decide (p.rules[r].kind=5)))] (Zd ?_))))))))
 refine t_cut (True) (ofL [(1,.box 78 (En.cfV sx (Ap.mid (n-f) c p.rules[r] i kp 0))),(2,.box 78 [iv 0,iv 0,iv 0,iv 0,iv 0,iv 0,iv 0,iv 0,iv 0,iv 0,iv 0,iv 0,iv 0,iv 0,iv 0,iv 0])]) (ofT 108 [(0,.el (En.sysP p n t f) 0),(4,.box 1 0),(5,.el ([iv r,iv i,iv kp]) 0),(6,.box 2 0),(7,.el (p.rules.flatMap cRu) (r*18))]) ?_ (fun _ => ?_)
 by_cases hs3:(decide (p.rules[r].kind=2)||decide (p.rules[r].kind=5))=true
 have hkp:=hpt (En.or_t hs3)
 rw [hs3]
 refine kW 108 [(1,.box 78 (En.cfV sx (Ap.wst c (Ap.st1 c p.rules[r] i)))),(2,.box 78 [iv 0,iv 0,iv 0,iv 0,iv 0,iv 0,iv 0,iv 0,iv 0,iv 0,iv 0,iv 0,iv 0,iv 0,iv 0,iv 0])] [(0,.el (En.sysP p n t f) 0),(4,.box 1 0),(5,.el ([iv r,iv i,iv kp]) 0),(6,.box 2 0),(7,.el (p.rules.flatMap cRu) (r*18)),(57,bT)] (Zm rfl ?_)
 refine Zo (dA (fe 2 5 U35 1) I0 (dA (lE (iv kp) 58 U3) I0 (dM (mT 7 (.el (p.rules.flatMap cRu) (r*18))) (dA (Zl (off:=r*18) (.tmp 60) rfl) I0 (dA (fe (r*18+5) 61 U65 1) I0 (dA (lE (iv p.rules[r].pt) 62 U3 ((Zu lenRu p.rules r 5 (by omega) (by decide)).trans rfl)) I0 (dA (fb 1 4 U78 8) I0 (dC (Z4 (off':=1+kp.toNat*1) (.tmp 64) (.tmp 59) rfl U74 (by kernel_rfl) (by omega) (by omega) rfl) I0 I0 (dR (Zw (T0:=78) (X:=iv p.rules[r].pt) (off:=1+kp.toNat*1) (cs:=En.cfV sx (Ap.wst c (Ap.st1 c p.rules[r] i))) (ds:=En.cfV sx (Ap.wst c ((Ap.st1 c p.rules[r] i).set kp.toNat p.rules[r].pt))) (z:=1) (.tmp 65) (.tmp 63) rfl (by kernel_rfl) (by kernel_rfl) (by kernel_rfl) (by show _≤16;omega) (Ap.cfV_setSt (c:=(Ap.wst c (Ap.st1 c p.rules[r] i))) (by omega) (by show kp.toNat<(Ap.st1 c p.rules[r] i).length;rw [Ap.st1_len];omega))) ⟨I0,I0,T0⟩ ⟨rfl,T0⟩ rfl (dE ?_)))))))))) (by kernel_rfl)
 show ETri J w0 _ _ _
 refine kW 108 [(1,.box 78 (En.cfV sx (Ap.wst c ((Ap.st1 c p.rules[r] i).set kp.toNat p.rules[r].pt)))),(2,.box 78 [iv 0,iv 0,iv 0,iv 0,iv 0,iv 0,iv 0,iv 0,iv 0,iv 0,iv 0,iv 0,iv 0,iv 0,iv 0,iv 0])] [(0,.el (En.sysP p n t f) 0),(4,.box 1 0),(5,.el ([iv r,iv i,iv kp]) 0),(6,.box 2 0),(7,.el (p.rules.flatMap cRu) (r*18))] ?_
 rw [show En.cfV sx (Ap.mid (n-f) c p.rules[r] i kp 0)=En.cfV sx (Ap.wst c ((Ap.st1 c p.rules[r] i).set kp.toNat p.rules[r].pt)) by rw [Ap.mid_zero];unfold Ap.stA;rw [if_pos (En.or_t hs3)]]
 exact YV T0 (ZC _ _ rfl (by kernel_rfl) (by kernel_rfl))
 have hs3f:(decide (p.rules[r].kind=2)||decide (p.rules[r].kind=5))=false:=by simpa using hs3
 rw [hs3f]
 refine kW 108 [(1,.box 78 (En.cfV sx (Ap.wst c (Ap.st1 c p.rules[r] i)))),(2,.box 78 [iv 0,iv 0,iv 0,iv 0,iv 0,iv 0,iv 0,iv 0,iv 0,iv 0,iv 0,iv 0,iv 0,iv 0,iv 0,iv 0])] [(0,.el (En.sysP p n t f) 0),(4,.box 1 0),(5,.el ([iv r,iv i,iv kp]) 0),(6,.box 2 0),(7,.el (p.rules.flatMap cRu) (r*18)),(57,bF)] (Zp rfl (Zn ?_))
 rw [show En.cfV sx (Ap.mid (n-f) c p.rules[r] i kp 0)=En.cfV sx (Ap.wst c (Ap.st1 c p.rules[r] i)) by rw [Ap.mid_zero];unfold Ap.stA;rw [if_neg (En.or_f hs3f)]]
 exact YV T0 (ZC _ _ rfl (by kernel_rfl) (by kernel_rfl))
 refine Zd (Zb (Zb (Za (pM (mT 7 (.el (p.rules.flatMap cRu) (r*18))) (oA (Zl (off:=r*18) (.tmp 66) rfl) I0 (oA (fe (r*18+12) 67 U65 1) I0 (oA (lE (Zc p.rules[r].send) 68 U24 ((Zu lenRu p.rules r 12 (by omega) (by decide)).trans rfl)) I0 (oA (nS 69 U24) I0 (pM (YL (.const (.int .i64 0)) (iv 0) rfl) (kN 108 [(1,.box 78 (En.cfV sx (Ap.mid (n-f) c p.rules[r] i kp 0))),(2,.box 78 [iv 0,iv 0,iv 0,iv 0,iv 0,iv 0,iv 0,iv 0,iv 0,iv 0,iv 0,iv 0,iv 0,iv 0,iv 0,iv 0])] [(0,.el (En.sysP p n t f) 0),(4,.box 1 0),(5,.el ([iv r,iv i,iv kp]) 0),(6,.box 2 0),(7,.el (p.rules.flatMap cRu) (r*18)),(69,Zc p.rules[r].send),(70,iv (p.rules[r].send.length:Nat)),(71,iv 0)] (Zd (ZD ?_))))))))))))
 refine Yy (σ:={k:Nat // k≤p.rules[r].send.length}) (fun s=>(ofL [(1,.box 78 (En.cfV sx (Ap.mid (n-f) c p.rules[r] i kp s.1))),(2,.box 78 [iv 0,iv 0,iv 0,iv 0,iv 0,iv 0,iv 0,iv 0,iv 0,iv 0,iv 0,iv 0,iv 0,iv 0,iv 0,iv 0])],ofT 108 [(0,.el (En.sysP p n t f) 0),(4,.box 1 0),(5,.el ([iv r,iv i,iv kp]) 0),(6,.box 2 0),(7,.el (p.rules.flatMap cRu) (r*18)),(69,Zc p.rules[r].send),(70,iv (p.rules[r].send.length:Nat)),(71,iv s.1)])) (fun s=>p.rules[r].send.length-s.1) ⟨0,Nat.zero_le _⟩ (ZC _ _ rfl (by kernel_rfl) (by kernel_rfl)) (fun s => ?_)
 obtain ⟨k,hk0⟩:=s
 show ETri J w0 (ofL [(1,.box 78 (En.cfV sx (Ap.mid (n-f) c p.rules[r] i kp k))),(2,.box 78 [iv 0,iv 0,iv 0,iv 0,iv 0,iv 0,iv 0,iv 0,iv 0,iv 0,iv 0,iv 0,iv 0,iv 0,iv 0,iv 0])]) (ofT 108 [(0,.el (En.sysP p n t f) 0),(4,.box 1 0),(5,.el ([iv r,iv i,iv kp]) 0),(6,.box 2 0),(7,.el (p.rules.flatMap cRu) (r*18)),(69,Zc p.rules[r].send),(70,iv (p.rules[r].send.length:Nat)),(71,iv k)]) _
 refine Zb ?_
 by_cases hs4:((k:Nat):Int)<((p.rules[r].send.length:Nat):Int)
 have hk1:k<p.rules[r].send.length:=by omega
 have hsm:=R.se _ (List.getElem_mem hk1)
 have hb1:=Ap.getD_in (Ap.seA_in (cor:=(n-f)) (r:=p.rules[r]) (i:=i) (k:=k) hc.se) (by omega) p.rules[r].send[k].toNat
 have hb2:=Ap.getD_in (Ap.faA_in (cor:=(n-f)) (r:=p.rules[r]) (i:=i) (k:=k) hc.fa) (by omega) p.rules[r].send[k].toNat
 refine Za (oC (ZY rfl (dT hs4)) I0 I0 (Ze (Zd (Zb (Zm rfl (Zn (Zd (Zb (ZD (Zb (Za (oC (xS (k*1) 69 71 U24) I0 I0 (oA (lE (iv p.rules[r].send[k]) 73 U3 (map_at1 p.rules[r].send (by omega))) I0 (pM (aT 74 (iv p.rules[r].send[k])) (Ze (Zd (Zb ?_)))))))))))))))))
 by_cases hs5:((i:Nat):Int)<(n-f)
 refine Zo (dA (fe 1 5 U35 1) I0 (dA (lE (iv i) 75 U3) I0 (dM (mT 0 (.el (En.sysP p n t f) 0)) (dA (Zl (off:=0) (.tmp 77) rfl) I0 (dA (fe 14 78 U111 1) I0 (dA (lE (iv (n-f)) 79 U3) I0 (dC (ZY rfl (dT hs5)) I0 I0 (dE ?_)))))))) (by kernel_rfl)
 show ETri J w0 _ _ _
 refine kW 108 [(1,.box 78 (En.cfV sx (Ap.mid (n-f) c p.rules[r] i kp k))),(2,.box 78 [iv 0,iv 0,iv 0,iv 0,iv 0,iv 0,iv 0,iv 0,iv 0,iv 0,iv 0,iv 0,iv 0,iv 0,iv 0,iv 0])] [(0,.el (En.sysP p n t f) 0),(4,.box 1 0),(5,.el ([iv r,iv i,iv kp]) 0),(6,.box 2 0),(7,.el (p.rules.flatMap cRu) (r*18)),(11,iv p.rules[r].send[k]),(69,Zc p.rules[r].send),(70,iv (p.rules[r].send.length:Nat)),(71,iv k),(72,bT),(81,bT)] (Zd (Zm rfl (Za (pM (mT 11 (iv p.rules[r].send[k])) (oA (fb 9 4 U78 3) I0 (oC (Z4 (off':=9+p.rules[r].send[k].toNat*1) (.tmp 83) (.tmp 82) rfl U76 (by kernel_rfl) (by omega) (by omega) rfl) I0 I0 (oB (lB (.box 78 (En.cfV sx (Ap.mid (n-f) c p.rules[r] i kp k))) (iv ((Ap.seA (n-f) c p.rules[r] i k).getD p.rules[r].send[k].toNat 0)) (.tmp 84) rfl U3 rfl (Ap.cfV_se (c:=(Ap.mid (n-f) c p.rules[r] i kp k)) (by omega))) I0 rfl (oC (Yo (c:=((Ap.seA (n-f) c p.rules[r] i k).getD p.rules[r].send[k].toNat 0)+1) rfl (w64 (by omega) (by omega) (by omega))) I0 I0 (oA (fb 9 4 U78 3) I0 (oC (Z4 (off':=9+p.rules[r].send[k].toNat*1) (.tmp 87) (.tmp 82) rfl U76 (by kernel_rfl) (by omega) (by omega) rfl) I0 I0 (ZF rfl (Zw (T0:=78) (X:=iv (((Ap.seA (n-f) c p.rules[r] i k).getD p.rules[r].send[k].toNat 0)+1)) (off:=9+p.rules[r].send[k].toNat*1) (cs:=En.cfV sx (Ap.mid (n-f) c p.rules[r] i kp k)) (ds:=En.cfV sx (Ap.mid (n-f) c p.rules[r] i kp (k+1))) (z:=1) (.tmp 88) (.tmp 86) rfl (by kernel_rfl) (by kernel_rfl) (by kernel_rfl) (by show _≤16;omega) (Ap.se_step hs5 hk1 (by omega) (by omega))) ⟨I0,I0,T0⟩ ⟨rfl,T0⟩ rfl (Ze (ZT (Zd (Za (oC (Yo (c:=((k+1:Nat):Int)) rfl (w64 (by omega) (by omega) (by omega))) I0 I0 (pM (mT 96 (iv (k+1:Nat))) (kN 108 [(1,.box 78 (En.cfV sx (Ap.mid (n-f) c p.rules[r] i kp (k+1)))),(2,.box 78 [iv 0,iv 0,iv 0,iv 0,iv 0,iv 0,iv 0,iv 0,iv 0,iv 0,iv 0,iv 0,iv 0,iv 0,iv 0,iv 0])] [(0,.el (En.sysP p n t f) 0),(4,.box 1 0),(5,.el ([iv r,iv i,iv kp]) 0),(6,.box 2 0),(7,.el (p.rules.flatMap cRu) (r*18)),(11,iv p.rules[r].send[k]),(69,Zc p.rules[r].send),(70,iv (p.rules[r].send.length:Nat)),(71,iv (k+1:Nat)),(72,bT),(81,bT)] (Zd ?_)))))))))))))))))))
 refine ZZ ⟨k+1,by omega⟩ (show p.rules[r].send.length-(k+1)<p.rules[r].send.length-k by omega) ?_
 show Wk _ _ (ofL [(1,.box 78 (En.cfV sx (Ap.mid (n-f) c p.rules[r] i kp (k+1)))),(2,.box 78 [iv 0,iv 0,iv 0,iv 0,iv 0,iv 0,iv 0,iv 0,iv 0,iv 0,iv 0,iv 0,iv 0,iv 0,iv 0,iv 0])]) (ofT 108 [(0,.el (En.sysP p n t f) 0),(4,.box 1 0),(5,.el ([iv r,iv i,iv kp]) 0),(6,.box 2 0),(7,.el (p.rules.flatMap cRu) (r*18)),(69,Zc p.rules[r].send),(70,iv (p.rules[r].send.length:Nat)),(71,iv ((k+1):Nat))])
 exact ZC _ _ rfl (by kernel_rfl) (by kernel_rfl)
 refine Zo (dA (fe 1 5 U35 1) I0 (dA (lE (iv i) 75 U3) I0 (dM (mT 0 (.el (En.sysP p n t f) 0)) (dA (Zl (off:=0) (.tmp 77) rfl) I0 (dA (fe 14 78 U111 1) I0 (dA (lE (iv (n-f)) 79 U3) I0 (dC (ZY rfl (dF hs5)) I0 I0 (dE ?_)))))))) (by kernel_rfl)
 show ETri J w0 _ _ _
 refine kW 108 [(1,.box 78 (En.cfV sx (Ap.mid (n-f) c p.rules[r] i kp k))),(2,.box 78 [iv 0,iv 0,iv 0,iv 0,iv 0,iv 0,iv 0,iv 0,iv 0,iv 0,iv 0,iv 0,iv 0,iv 0,iv 0,iv 0])] [(0,.el (En.sysP p n t f) 0),(4,.box 1 0),(5,.el ([iv r,iv i,iv kp]) 0),(6,.box 2 0),(7,.el (p.rules.flatMap cRu) (r*18)),(11,iv p.rules[r].send[k]),(69,Zc p.rules[r].send),(70,iv (p.rules[r].send.length:Nat)),(71,iv k),(72,bT),(81,bF)] (Zd (Zp rfl (Za (pM (mT 11 (iv p.rules[r].send[k])) (oA (fb 12 4 U78 3) I0 (oC (Z4 (off':=12+p.rules[r].send[k].toNat*1) (.tmp 90) (.tmp 89) rfl U76 (by kernel_rfl) (by omega) (by omega) rfl) I0 I0 (oB (lB (.box 78 (En.cfV sx (Ap.mid (n-f) c p.rules[r] i kp k))) (iv ((Ap.faA (n-f) c p.rules[r] i k).getD p.rules[r].send[k].toNat 0)) (.tmp 91) rfl U3 rfl (En.cfV_fa (c:=(Ap.mid (n-f) c p.rules[r] i kp k)) (by omega))) I0 rfl (oC (Yo (c:=((Ap.faA (n-f) c p.rules[r] i k).getD p.rules[r].send[k].toNat 0)+1) rfl (w64 (by omega) (by omega) (by omega))) I0 I0 (oA (fb 12 4 U78 3) I0 (oC (Z4 (off':=12+p.rules[r].send[k].toNat*1) (.tmp 94) (.tmp 89) rfl U76 (by kernel_rfl) (by omega) (by omega) rfl) I0 I0 (ZF rfl (Zw (T0:=78) (X:=iv (((Ap.faA (n-f) c p.rules[r] i k).getD p.rules[r].send[k].toNat 0)+1)) (off:=12+p.rules[r].send[k].toNat*1) (cs:=En.cfV sx (Ap.mid (n-f) c p.rules[r] i kp k)) (ds:=En.cfV sx (Ap.mid (n-f) c p.rules[r] i kp (k+1))) (z:=1) (.tmp 95) (.tmp 93) rfl (by kernel_rfl) (by kernel_rfl) (by kernel_rfl) (by show _≤16;omega) (Ap.fa_step hs5 hk1 (by omega) (by omega))) ⟨I0,I0,T0⟩ ⟨rfl,T0⟩ rfl (Ze (ZT (Zd (Za (oC (Yo (c:=((k+1:Nat):Int)) rfl (w64 (by omega) (by omega) (by omega))) I0 I0 (pM (mT 96 (iv (k+1:Nat))) (kN 108 [(1,.box 78 (En.cfV sx (Ap.mid (n-f) c p.rules[r] i kp (k+1)))),(2,.box 78 [iv 0,iv 0,iv 0,iv 0,iv 0,iv 0,iv 0,iv 0,iv 0,iv 0,iv 0,iv 0,iv 0,iv 0,iv 0,iv 0])] [(0,.el (En.sysP p n t f) 0),(4,.box 1 0),(5,.el ([iv r,iv i,iv kp]) 0),(6,.box 2 0),(7,.el (p.rules.flatMap cRu) (r*18)),(11,iv p.rules[r].send[k]),(69,Zc p.rules[r].send),(70,iv (p.rules[r].send.length:Nat)),(71,iv (k+1:Nat)),(72,bT),(81,bF)] (Zd ?_)))))))))))))))))))
 refine ZZ ⟨k+1,by omega⟩ (show p.rules[r].send.length-(k+1)<p.rules[r].send.length-k by omega) ?_
 show Wk _ _ (ofL [(1,.box 78 (En.cfV sx (Ap.mid (n-f) c p.rules[r] i kp (k+1)))),(2,.box 78 [iv 0,iv 0,iv 0,iv 0,iv 0,iv 0,iv 0,iv 0,iv 0,iv 0,iv 0,iv 0,iv 0,iv 0,iv 0,iv 0])]) (ofT 108 [(0,.el (En.sysP p n t f) 0),(4,.box 1 0),(5,.el ([iv r,iv i,iv kp]) 0),(6,.box 2 0),(7,.el (p.rules.flatMap cRu) (r*18)),(69,Zc p.rules[r].send),(70,iv (p.rules[r].send.length:Nat)),(71,iv ((k+1):Nat))])
 exact ZC _ _ rfl (by kernel_rfl) (by kernel_rfl)
 refine Za (oC (ZY rfl (dF hs4)) I0 I0 (Ze (Zd (Zb (Zp rfl (Yq (Zz (Zz (t_hit (Zd (Zb (Zb ?_))))))))))))
 by_cases hs6:0≤p.rules[r].wr
 refine Za (pM (mT 7 (.el (p.rules.flatMap cRu) (r*18))) (oA (Zl (off:=r*18) (.tmp 97) rfl) I0 (oA (fe (r*18+11) 98 U65 1) I0 (oA (lE (iv p.rules[r].wr) 99 U3 ((Zu lenRu p.rules r 11 (by omega) (by decide)).trans rfl)) I0 (oC (Y0 rfl (dT hs6)) I0 I0 (Ze (Zd (Zm rfl (Za (pM (mT 7 (.el (p.rules.flatMap cRu) (r*18))) (oA (Zl (off:=r*18) (.tmp 102) rfl) I0 (oA (fe (r*18+11) 103 U65 1) I0 (oA (lE (iv p.rules[r].wr) 104 U3 ((Zu lenRu p.rules r 11 (by omega) (by decide)).trans rfl)) I0 (oA (fb 15 4 U78 1) I0 (ZF rfl (sB 1 106 (.tmp 105) (iv p.rules[r].wr)) ⟨I0,I0,T0⟩ ⟨rfl,T0⟩ rfl (Ze (Zd (Zb (Za (oB (lS ([iv sx,iv ((Ap.mid (n-f) c p.rules[r] i kp k).st.getD 0 0),iv ((Ap.mid (n-f) c p.rules[r] i kp k).st.getD 1 0),iv ((Ap.mid (n-f) c p.rules[r] i kp k).st.getD 2 0),iv ((Ap.mid (n-f) c p.rules[r] i kp k).st.getD 3 0),iv ((Ap.mid (n-f) c p.rules[r] i kp k).st.getD 4 0),iv ((Ap.mid (n-f) c p.rules[r] i kp k).st.getD 5 0),iv ((Ap.mid (n-f) c p.rules[r] i kp k).st.getD 6 0),iv ((Ap.mid (n-f) c p.rules[r] i kp k).st.getD 7 0),iv ((Ap.mid (n-f) c p.rules[r] i kp k).se.getD 0 0),iv ((Ap.mid (n-f) c p.rules[r] i kp k).se.getD 1 0),iv ((Ap.mid (n-f) c p.rules[r] i kp k).se.getD 2 0),iv ((Ap.mid (n-f) c p.rules[r] i kp k).fa.getD 0 0),iv ((Ap.mid (n-f) c p.rules[r] i kp k).fa.getD 1 0),iv ((Ap.mid (n-f) c p.rules[r] i kp k).fa.getD 2 0),iv p.rules[r].wr]) 16 4 U78) I0 rfl (ZF rfl (sB 16 6 (.tmp 107) (.agg [iv sx,iv ((Ap.mid (n-f) c p.rules[r] i kp k).st.getD 0 0),iv ((Ap.mid (n-f) c p.rules[r] i kp k).st.getD 1 0),iv ((Ap.mid (n-f) c p.rules[r] i kp k).st.getD 2 0),iv ((Ap.mid (n-f) c p.rules[r] i kp k).st.getD 3 0),iv ((Ap.mid (n-f) c p.rules[r] i kp k).st.getD 4 0),iv ((Ap.mid (n-f) c p.rules[r] i kp k).st.getD 5 0),iv ((Ap.mid (n-f) c p.rules[r] i kp k).st.getD 6 0),iv ((Ap.mid (n-f) c p.rules[r] i kp k).st.getD 7 0),iv ((Ap.mid (n-f) c p.rules[r] i kp k).se.getD 0 0),iv ((Ap.mid (n-f) c p.rules[r] i kp k).se.getD 1 0),iv ((Ap.mid (n-f) c p.rules[r] i kp k).se.getD 2 0),iv ((Ap.mid (n-f) c p.rules[r] i kp k).fa.getD 0 0),iv ((Ap.mid (n-f) c p.rules[r] i kp k).fa.getD 1 0),iv ((Ap.mid (n-f) c p.rules[r] i kp k).fa.getD 2 0),iv p.rules[r].wr])) ⟨I0,I0,T0⟩ ⟨rfl,T0⟩ rfl (Ze (Zd ?_)))))))))))))))))))))))
 refine Zk ?_
 refine Zs Try.results44 (.cellS rfl rfl U78 rfl (z:=16) (by kernel_rfl) rfl (by decide)) ?_
 obtain rfl:k=p.rules[r].send.length:=by omega
 unfold Ap.af;rw [if_pos hs6]
 exact rfl
 refine Za (pM (mT 7 (.el (p.rules.flatMap cRu) (r*18))) (oA (Zl (off:=r*18) (.tmp 97) rfl) I0 (oA (fe (r*18+11) 98 U65 1) I0 (oA (lE (iv p.rules[r].wr) 99 U3 ((Zu lenRu p.rules r 11 (by omega) (by decide)).trans rfl)) I0 (oC (Y0 rfl (dF hs6)) I0 I0 (Ze (Zd (Zp rfl (Zn (Zd (Zb (Za (oB (lS (En.cfV sx (Ap.mid (n-f) c p.rules[r] i kp k)) 16 4 U78) I0 rfl (ZF rfl (sB 16 6 (.tmp 107) (.agg (En.cfV sx (Ap.mid (n-f) c p.rules[r] i kp k)))) ⟨I0,I0,T0⟩ ⟨rfl,T0⟩ rfl (Ze (Zd (Zk ?_)))))))))))))))))
 refine Zs Try.results44 (.cellS rfl rfl U78 rfl (z:=16) (by kernel_rfl) rfl (by decide)) ?_
 obtain rfl:k=p.rules[r].send.length:=by omega
 unfold Ap.af;rw [if_neg hs6]
 exact rfl
theorem ownIc {F:Nat→Prop} {lo:Nat} {w:World} {v:Value} {xs:List Int} (h:OwnV lo w v xs):Pu F w (nw w lo) (Zc xs) v:=by
  rcases h with ⟨rfl,rfl⟩ | ⟨g,cap,rfl,hl,hm,h1,h2,h3,cur,t,hg,hc⟩
  · exact .sl0 (by simp [maxLen]) (by simp)
  refine .sl (b:=g) (off:=0) (f:=fun j => .int .i64 (xs.getD j 0)) (by simp) hl hm ⟨h1,_,_,hg⟩ (Array.getElem?_eq_some_iff.1 hg).1 (fun j hj => ?_) fun j hj => ?_
  · have hj':j<xs.length:=by simpa using hj
    rw [Nat.zero_add,ZU hg j (v := .int .i64 (xs.getD j 0)) (hc j hj')]
  have hj':j<xs.length:=by simpa using hj
  simp only [List.getElem_map,List.getD_eq_getElem?_getD,List.getElem?_eq_getElem hj',Option.getD_some]
  exact .v _
theorem Clone_p {xs:List Int} (hx:InOk xs) (hn:xs.length≤1000):Ctr Try.prog J 38 [Zc xs] (Zc xs):=ctr1 fun w v _ h =>
  (Clone_any (YN hx (fun _ _=>Nat.zero_le _) h) hn).mono fun _ _ ⟨v',he,ho,hb⟩=>⟨v',he,ownIc ho,hb⟩
end Go.Proofs.Ytengacodacejiaa
