import Derived.Test.YtengacodacejiaaGrpaigjopcg
import Derived.Test.YtengacodacejiaaGrpigjeemdo
import Derived.Test.YtengacodacejiaaGrppafemefo
import Derived.Test.YtengacodacejiaaGrpnnnjeeba
set_option linter.all false
namespace Go.Proofs.Ytengacodacejiaa
open Go.RowKit Go.Deep
set_option maxRecDepth 100000
set_option maxHeartbeats 6400000
variable {J:World→Prop}
def Rd.rdW (p:Fm) (n t f:Int) (c:Cf):Bool:=decide (Ns.sysE p n t f=0)&&Rd.rdX p n f c
theorem open_err {p:Fm} (HP:FmOk p) {n t f:Int} {c:Cf} (HC:Rd.CgOk c) (hs:¬ Ns.sysE p n t f=0):Ctr Try.prog J 23 [.agg (cFm p),.agg (cSz n t f),.agg (Rd.cCg c)] (.tup [.any,.agg (Rd.cfZ (Rd.rdW p n t f c) (Rd.shI p.top (Ns.shT p.top (Ns.cntE p n f)) c.sh) c),iv (Rd.vcE p n t f c)]):=by
 refine Zy Try.func23 rfl (by intro X hX;simp only [List.mem_cons,List.not_mem_nil,or_false] at hX;rcases hX with rfl | rfl | rfl;exact Zi (YC p);exact Zi (YT n t f);exact Zi (Rd.plain_cg c)) (n:=34) rfl (by simp) (fun w0 => ?_)
 refine kW 34 [] [(0,.agg (cFm p)),(1,.agg (cSz n t f)),(2,.agg (Rd.cCg c))] (Zb (Za (ZF rfl (Yi (X := .agg (cFm p)) (k:=1) (.tmp 0) rfl rfl) ⟨I0,T0⟩ T0 rfl (ZF rfl (Yi (X := .agg (cSz n t f)) (k:=2) (.tmp 1) rfl rfl) ⟨I0,T0⟩ T0 rfl (ZF rfl (Yi (X := .agg (Rd.cCg c)) (k:=3) (.tmp 2) rfl rfl) ⟨I0,T0⟩ T0 rfl (pM (Yb (.const (.pointer none)) (.v (.pointer none)) rfl) (ZF rfl (ZJ (z := .agg #[.int .i64 0,.int .i64 0,.int .i64 0,.int .i64 0,.int .i64 0,.int .i64 0,.int .i64 0,.int .i64 0,.int .i64 0,.int .i64 0,.int .i64 0,.int .i64 0,.int .i64 0,.int .i64 0,.int .i64 0,.int .i64 0]) (k:=4) rfl (by kernel_rfl)) T0 T0 rfl (pM (aC (.int .i64 0)) (Ze (Zd (Zb (Za (oB (lS (cFm p) 10 3 U27) I0 rfl (oB (lS (cSz n t f) 3 4 U29) I0 rfl (oD (Kx (c := .func 40) (xs := #[.tmp 14,.tmp 15]) (newSystem_err HP hs) rfl (by kernel_rfl) rfl (Xs:=[.agg (cFm p),.agg (cSz n t f)]) rfl rfl) I0 I0 I0 (pM (mT 16 (.tup [.v (.pointer none),iv (Ns.sysE p n t f)])) (oA (Zt (X := .v (.pointer none)) (.tmp 13) rfl rfl) I0 (oA (Zt (X:=iv (Ns.sysE p n t f)) (.tmp 13) rfl rfl) I0 (pM (aT 17 (.v (.pointer none))) (pM (aT 18 (iv (Ns.sysE p n t f))) (Ze (Zd (Zb ?_)))))))))))))))))))))))
 refine Zb (Za (pM (mT 10 (iv (Ns.sysE p n t f))) (oC (Z0 rfl (dF' hs)) I0 I0 (Ze (Zd (Zm rfl (Zb (Za (ZF rfl (YW [] #[.int .i64 0,.int .i64 0,.int .i64 0,.int .i64 0,.int .i64 0,.int .i64 0,.int .i64 0,.int .i64 0,.int .i64 0,.int .i64 0,.int .i64 0,.int .i64 0,.int .i64 0,.int .i64 0,.int .i64 0,.int .i64 0] rfl rfl (by kernel_rfl) rfl) T0 T0 T0 (pM (mT 10 (iv (Ns.sysE p n t f))) (pM (Yb (.const (.pointer none)) (.v (.pointer none)) rfl) (ZF rfl (sB 16 7 (.tmp 21) (.agg [iv 0,iv 0,iv 0,iv 0,iv 0,iv 0,iv 0,iv 0,iv 0,iv 0,iv 0,iv 0,iv 0,iv 0,iv 0,iv 0])) ⟨I0,I0,T0⟩ ⟨rfl,T0⟩ rfl (pM (aT 22 (iv (Ns.sysE p n t f))) (Ze (Zd (Zk (Zj (kW 34 [(3,.box 31 (Rd.cCg c)),(4,.box 78 [iv 0,iv 0,iv 0,iv 0,iv 0,iv 0,iv 0,iv 0,iv 0,iv 0,iv 0,iv 0,iv 0,iv 0,iv 0,iv 0])] [(5,.box 3 0),(7,.box 4 0),(8,iv (Ns.sysE p n t f)),(9,.v (.pointer none))] ?_))))))))))))))))))
 refine tri_end3 Try.results23 (.tmp rfl) (.cellS rfl rfl U78 rfl (z:=16) (by kernel_rfl) rfl (by decide)) (.tmp rfl) ?_
 have hw:(Rd.rdW p n t f c)=false:=by unfold Rd.rdW;rw [decide_eq_false hs];rfl
 have hr:Rd.vcE p n t f c=Ns.sysE p n t f:=by unfold Rd.vcE;rw [if_neg hs]
 rw [hw,hr]
 exact rfl
theorem open_ok {p:Fm} (HP:FmOk p) {n t f:Int} {c:Cf} (HC:Rd.CgOk c) (hs:Ns.sysE p n t f=0):Ctr Try.prog J 23 [.agg (cFm p),.agg (cSz n t f),.agg (Rd.cCg c)] (.tup [.any,.agg (Rd.cfZ (Rd.rdW p n t f c) (Rd.shI p.top (Ns.shT p.top (Ns.cntE p n f)) c.sh) c),iv (Rd.vcE p n t f c)]):=by
 refine Zy Try.func23 rfl (by intro X hX;simp only [List.mem_cons,List.not_mem_nil,or_false] at hX;rcases hX with rfl | rfl | rfl;exact Zi (YC p);exact Zi (YT n t f);exact Zi (Rd.plain_cg c)) (n:=34) rfl (by simp) (fun w0 => ?_)
 refine kW 34 [] [(0,.agg (cFm p)),(1,.agg (cSz n t f)),(2,.agg (Rd.cCg c))] (Zb (Za (ZF rfl (Yi (X := .agg (cFm p)) (k:=1) (.tmp 0) rfl rfl) ⟨I0,T0⟩ T0 rfl (ZF rfl (Yi (X := .agg (cSz n t f)) (k:=2) (.tmp 1) rfl rfl) ⟨I0,T0⟩ T0 rfl (ZF rfl (Yi (X := .agg (Rd.cCg c)) (k:=3) (.tmp 2) rfl rfl) ⟨I0,T0⟩ T0 rfl (pM (Yb (.const (.pointer none)) (.v (.pointer none)) rfl) (ZF rfl (ZJ (z := .agg #[.int .i64 0,.int .i64 0,.int .i64 0,.int .i64 0,.int .i64 0,.int .i64 0,.int .i64 0,.int .i64 0,.int .i64 0,.int .i64 0,.int .i64 0,.int .i64 0,.int .i64 0,.int .i64 0,.int .i64 0,.int .i64 0]) (k:=4) rfl (by kernel_rfl)) T0 T0 rfl (pM (aC (.int .i64 0)) (Ze (Zd (Zb (Za (oB (lS (cFm p) 10 3 U27) I0 rfl (oB (lS (cSz n t f) 3 4 U29) I0 rfl (oD (Kx (c := .func 40) (xs := #[.tmp 14,.tmp 15]) (newSystem_ok HP hs) rfl (by kernel_rfl) rfl (Xs:=[.agg (cFm p),.agg (cSz n t f)]) rfl rfl) I0 I0 I0 (pM (mT 16 (.tup [.el (Ns.sysC p n t f) 0,iv 0])) (oA (Zt (X := .el (Ns.sysC p n t f) 0) (.tmp 13) rfl rfl) I0 (oA (Zt (X:=iv 0) (.tmp 13) rfl rfl) I0 (pM (aT 17 (.el (Ns.sysC p n t f) 0)) (pM (aT 18 (iv 0)) (Ze (Zd (Zb ?_)))))))))))))))))))))))
 refine Zb (Za (pM (mT 10 (iv 0)) (oC (Z0 (r:=false) rfl (by decide)) I0 I0 (Ze (Zd (Zp rfl (Zn (Zd (Zb (Za (pM (mT 9 (.el (Ns.sysC p n t f) 0)) (oB (lS (Rd.cCg c) 6 5 U31) I0 rfl (oD (sc #[.tmp 24,.tmp 25] [] (read_c HC) [.el (Ns.sysC p n t f) 0,.agg (Rd.cCg c)] rfl rfl rfl) I0 I0 I0 (pM (mT 26 (.tup [.fr (.agg (Rd.cfZ (Rd.rdY p n f c) (Rd.shI p.top (Ns.shT p.top (Ns.cntE p n f)) c.sh) c)),bv (Rd.rdX p n f c)])) (oA (Zt (X := .fr (.agg (Rd.cfZ (Rd.rdY p n f c) (Rd.shI p.top (Ns.shT p.top (Ns.cntE p n f)) c.sh) c))) (.tmp 23) rfl rfl) I0 (oA (Zt (X:=bv (Rd.rdX p n f c)) (.tmp 23) rfl rfl) I0 (ZF rfl (ZJ (z := .agg #[.int .i64 0,.int .i64 0,.int .i64 0,.int .i64 0,.int .i64 0,.int .i64 0,.int .i64 0,.int .i64 0,.int .i64 0,.int .i64 0,.int .i64 0,.int .i64 0,.int .i64 0,.int .i64 0,.int .i64 0,.int .i64 0]) (k:=5) rfl (by kernel_rfl)) T0 T0 rfl (ZF rfl (sB 16 11 (.tmp 27) (.agg [iv (Rd.zz (Rd.rdY p n f c) (Rd.shI p.top (Ns.shT p.top (Ns.cntE p n f)) c.sh)),iv (Rd.zz (Rd.rdY p n f c) (c.st.getD 0 0)),iv (Rd.zz (Rd.rdY p n f c) (c.st.getD 1 0)),iv (Rd.zz (Rd.rdY p n f c) (c.st.getD 2 0)),iv (Rd.zz (Rd.rdY p n f c) (c.st.getD 3 0)),iv (Rd.zz (Rd.rdY p n f c) (c.st.getD 4 0)),iv (Rd.zz (Rd.rdY p n f c) (c.st.getD 5 0)),iv (Rd.zz (Rd.rdY p n f c) (c.st.getD 6 0)),iv (Rd.zz (Rd.rdY p n f c) (c.st.getD 7 0)),iv (Rd.zz (Rd.rdY p n f c) (c.se.getD 0 0)),iv (Rd.zz (Rd.rdY p n f c) (c.se.getD 1 0)),iv (Rd.zz (Rd.rdY p n f c) (c.se.getD 2 0)),iv (Rd.zz (Rd.rdY p n f c) (c.fa.getD 0 0)),iv (Rd.zz (Rd.rdY p n f c) (c.fa.getD 1 0)),iv (Rd.zz (Rd.rdY p n f c) (c.fa.getD 2 0)),iv (Rd.zz (Rd.rdY p n f c) c.val)])) ⟨I0,.inr (.inr (.inl ⟨_,rfl,rfl⟩)),T0⟩ ⟨rfl,T0⟩ rfl (pM (aT 28 (bv (Rd.rdX p n f c))) (Ze (Zd (Zb (Zb ?_)))))))))))))))))))))))
 by_cases hs1:(Rd.rdX p n f c)=true
 rw [hs1]
 refine kW 34 [(4,.box 78 [iv 0,iv 0,iv 0,iv 0,iv 0,iv 0,iv 0,iv 0,iv 0,iv 0,iv 0,iv 0,iv 0,iv 0,iv 0,iv 0]),(5,.box 78 [iv (Rd.zz (Rd.rdY p n f c) (Rd.shI p.top (Ns.shT p.top (Ns.cntE p n f)) c.sh)),iv (Rd.zz (Rd.rdY p n f c) (c.st.getD 0 0)),iv (Rd.zz (Rd.rdY p n f c) (c.st.getD 1 0)),iv (Rd.zz (Rd.rdY p n f c) (c.st.getD 2 0)),iv (Rd.zz (Rd.rdY p n f c) (c.st.getD 3 0)),iv (Rd.zz (Rd.rdY p n f c) (c.st.getD 4 0)),iv (Rd.zz (Rd.rdY p n f c) (c.st.getD 5 0)),iv (Rd.zz (Rd.rdY p n f c) (c.st.getD 6 0)),iv (Rd.zz (Rd.rdY p n f c) (c.st.getD 7 0)),iv (Rd.zz (Rd.rdY p n f c) (c.se.getD 0 0)),iv (Rd.zz (Rd.rdY p n f c) (c.se.getD 1 0)),iv (Rd.zz (Rd.rdY p n f c) (c.se.getD 2 0)),iv (Rd.zz (Rd.rdY p n f c) (c.fa.getD 0 0)),iv (Rd.zz (Rd.rdY p n f c) (c.fa.getD 1 0)),iv (Rd.zz (Rd.rdY p n f c) (c.fa.getD 2 0)),iv (Rd.zz (Rd.rdY p n f c) c.val)])] [(6,.v (.pointer none)),(7,.box 4 0),(8,iv 0),(9,.el (Ns.sysC p n t f) 0),(11,.box 5 0),(12,bT)] (Za (pM (mT 12 bT) (oA (Ya rfl rfl) I0 (Ze (Zd (Zp rfl (Zn (Zd (Zb ?_)))))))))
 refine Zo (dM (mT 9 (.el (Ns.sysC p n t f) 0)) (dB (lS ([iv (Rd.zz (Rd.rdY p n f c) (Rd.shI p.top (Ns.shT p.top (Ns.cntE p n f)) c.sh)),iv (Rd.zz (Rd.rdY p n f c) (c.st.getD 0 0)),iv (Rd.zz (Rd.rdY p n f c) (c.st.getD 1 0)),iv (Rd.zz (Rd.rdY p n f c) (c.st.getD 2 0)),iv (Rd.zz (Rd.rdY p n f c) (c.st.getD 3 0)),iv (Rd.zz (Rd.rdY p n f c) (c.st.getD 4 0)),iv (Rd.zz (Rd.rdY p n f c) (c.st.getD 5 0)),iv (Rd.zz (Rd.rdY p n f c) (c.st.getD 6 0)),iv (Rd.zz (Rd.rdY p n f c) (c.st.getD 7 0)),iv (Rd.zz (Rd.rdY p n f c) (c.se.getD 0 0)),iv (Rd.zz (Rd.rdY p n f c) (c.se.getD 1 0)),iv (Rd.zz (Rd.rdY p n f c) (c.se.getD 2 0)),iv (Rd.zz (Rd.rdY p n f c) (c.fa.getD 0 0)),iv (Rd.zz (Rd.rdY p n f c) (c.fa.getD 1 0)),iv (Rd.zz (Rd.rdY p n f c) (c.fa.getD 2 0)),iv (Rd.zz (Rd.rdY p n f c) c.val)]) 16 11 U78) I0 rfl (dM (aT 32 (.el (Ns.sysC p n t f) 0)) (dR (sB 16 7 (.tmp 33) (.agg [iv (Rd.zz (Rd.rdY p n f c) (Rd.shI p.top (Ns.shT p.top (Ns.cntE p n f)) c.sh)),iv (Rd.zz (Rd.rdY p n f c) (c.st.getD 0 0)),iv (Rd.zz (Rd.rdY p n f c) (c.st.getD 1 0)),iv (Rd.zz (Rd.rdY p n f c) (c.st.getD 2 0)),iv (Rd.zz (Rd.rdY p n f c) (c.st.getD 3 0)),iv (Rd.zz (Rd.rdY p n f c) (c.st.getD 4 0)),iv (Rd.zz (Rd.rdY p n f c) (c.st.getD 5 0)),iv (Rd.zz (Rd.rdY p n f c) (c.st.getD 6 0)),iv (Rd.zz (Rd.rdY p n f c) (c.st.getD 7 0)),iv (Rd.zz (Rd.rdY p n f c) (c.se.getD 0 0)),iv (Rd.zz (Rd.rdY p n f c) (c.se.getD 1 0)),iv (Rd.zz (Rd.rdY p n f c) (c.se.getD 2 0)),iv (Rd.zz (Rd.rdY p n f c) (c.fa.getD 0 0)),iv (Rd.zz (Rd.rdY p n f c) (c.fa.getD 1 0)),iv (Rd.zz (Rd.rdY p n f c) (c.fa.getD 2 0)),iv (Rd.zz (Rd.rdY p n f c) c.val)])) ⟨I0,I0,T0⟩ ⟨rfl,T0⟩ rfl (dM (aC (.int .i64 0)) (dE ?_)))))) (by kernel_rfl)
 show ETri J w0 _ _ _
 refine Zd (Zk (kW 34 [(4,.box 78 [iv (Rd.zz (Rd.rdY p n f c) (Rd.shI p.top (Ns.shT p.top (Ns.cntE p n f)) c.sh)),iv (Rd.zz (Rd.rdY p n f c) (c.st.getD 0 0)),iv (Rd.zz (Rd.rdY p n f c) (c.st.getD 1 0)),iv (Rd.zz (Rd.rdY p n f c) (c.st.getD 2 0)),iv (Rd.zz (Rd.rdY p n f c) (c.st.getD 3 0)),iv (Rd.zz (Rd.rdY p n f c) (c.st.getD 4 0)),iv (Rd.zz (Rd.rdY p n f c) (c.st.getD 5 0)),iv (Rd.zz (Rd.rdY p n f c) (c.st.getD 6 0)),iv (Rd.zz (Rd.rdY p n f c) (c.st.getD 7 0)),iv (Rd.zz (Rd.rdY p n f c) (c.se.getD 0 0)),iv (Rd.zz (Rd.rdY p n f c) (c.se.getD 1 0)),iv (Rd.zz (Rd.rdY p n f c) (c.se.getD 2 0)),iv (Rd.zz (Rd.rdY p n f c) (c.fa.getD 0 0)),iv (Rd.zz (Rd.rdY p n f c) (c.fa.getD 1 0)),iv (Rd.zz (Rd.rdY p n f c) (c.fa.getD 2 0)),iv (Rd.zz (Rd.rdY p n f c) c.val)])] [(7,.box 4 0),(8,iv 0)] ?_))
 refine tri_end3 Try.results23 (.tmp rfl) (.cellS rfl rfl U78 rfl (z:=16) (by kernel_rfl) rfl (by decide)) (.tmp rfl) ?_
 have hx:Rd.rdX p n f c=true:=by simpa using hs1
 have hw:(Rd.rdW p n t f c)=true:=by unfold Rd.rdW;rw [decide_eq_true hs,hx];rfl
 have hr:Rd.vcE p n t f c=0:=by unfold Rd.vcE;rw [if_pos hs,hx];rfl
 rw [hw,hr]
 rw [show Rd.rdY p n f c=true from hx]
 exact rfl
 have hs1f:(Rd.rdX p n f c)=false:=by simpa using hs1
 rw [hs1f]
 refine kW 34 [(4,.box 78 [iv 0,iv 0,iv 0,iv 0,iv 0,iv 0,iv 0,iv 0,iv 0,iv 0,iv 0,iv 0,iv 0,iv 0,iv 0,iv 0]),(5,.box 78 [iv (Rd.zz (Rd.rdY p n f c) (Rd.shI p.top (Ns.shT p.top (Ns.cntE p n f)) c.sh)),iv (Rd.zz (Rd.rdY p n f c) (c.st.getD 0 0)),iv (Rd.zz (Rd.rdY p n f c) (c.st.getD 1 0)),iv (Rd.zz (Rd.rdY p n f c) (c.st.getD 2 0)),iv (Rd.zz (Rd.rdY p n f c) (c.st.getD 3 0)),iv (Rd.zz (Rd.rdY p n f c) (c.st.getD 4 0)),iv (Rd.zz (Rd.rdY p n f c) (c.st.getD 5 0)),iv (Rd.zz (Rd.rdY p n f c) (c.st.getD 6 0)),iv (Rd.zz (Rd.rdY p n f c) (c.st.getD 7 0)),iv (Rd.zz (Rd.rdY p n f c) (c.se.getD 0 0)),iv (Rd.zz (Rd.rdY p n f c) (c.se.getD 1 0)),iv (Rd.zz (Rd.rdY p n f c) (c.se.getD 2 0)),iv (Rd.zz (Rd.rdY p n f c) (c.fa.getD 0 0)),iv (Rd.zz (Rd.rdY p n f c) (c.fa.getD 1 0)),iv (Rd.zz (Rd.rdY p n f c) (c.fa.getD 2 0)),iv (Rd.zz (Rd.rdY p n f c) c.val)])] [(6,.v (.pointer none)),(7,.box 4 0),(8,iv 0),(9,.el (Ns.sysC p n t f) 0),(11,.box 5 0),(12,bF)] (Za (pM (mT 12 bF) (oA (Ya rfl rfl) I0 (Ze (Zd (Zm rfl (Zb (Za (ZF rfl (YW [] #[.int .i64 0,.int .i64 0,.int .i64 0,.int .i64 0,.int .i64 0,.int .i64 0,.int .i64 0,.int .i64 0,.int .i64 0,.int .i64 0,.int .i64 0,.int .i64 0,.int .i64 0,.int .i64 0,.int .i64 0,.int .i64 0] rfl rfl (by kernel_rfl) rfl) T0 T0 T0 (pM (Yb (.const (.pointer none)) (.v (.pointer none)) rfl) (ZF rfl (sB 16 7 (.tmp 31) (.agg [iv 0,iv 0,iv 0,iv 0,iv 0,iv 0,iv 0,iv 0,iv 0,iv 0,iv 0,iv 0,iv 0,iv 0,iv 0,iv 0])) ⟨I0,I0,T0⟩ ⟨rfl,T0⟩ rfl (pM (aC (.int .i64 1)) (Ze (Zd (Zk (Zj (kW 34 [(4,.box 78 [iv 0,iv 0,iv 0,iv 0,iv 0,iv 0,iv 0,iv 0,iv 0,iv 0,iv 0,iv 0,iv 0,iv 0,iv 0,iv 0]),(5,.box 78 [iv (Rd.zz (Rd.rdY p n f c) (Rd.shI p.top (Ns.shT p.top (Ns.cntE p n f)) c.sh)),iv (Rd.zz (Rd.rdY p n f c) (c.st.getD 0 0)),iv (Rd.zz (Rd.rdY p n f c) (c.st.getD 1 0)),iv (Rd.zz (Rd.rdY p n f c) (c.st.getD 2 0)),iv (Rd.zz (Rd.rdY p n f c) (c.st.getD 3 0)),iv (Rd.zz (Rd.rdY p n f c) (c.st.getD 4 0)),iv (Rd.zz (Rd.rdY p n f c) (c.st.getD 5 0)),iv (Rd.zz (Rd.rdY p n f c) (c.st.getD 6 0)),iv (Rd.zz (Rd.rdY p n f c) (c.st.getD 7 0)),iv (Rd.zz (Rd.rdY p n f c) (c.se.getD 0 0)),iv (Rd.zz (Rd.rdY p n f c) (c.se.getD 1 0)),iv (Rd.zz (Rd.rdY p n f c) (c.se.getD 2 0)),iv (Rd.zz (Rd.rdY p n f c) (c.fa.getD 0 0)),iv (Rd.zz (Rd.rdY p n f c) (c.fa.getD 1 0)),iv (Rd.zz (Rd.rdY p n f c) (c.fa.getD 2 0)),iv (Rd.zz (Rd.rdY p n f c) c.val)])] [(7,.box 4 0),(8,iv 1),(9,.el (Ns.sysC p n t f) 0),(11,.box 5 0)] ?_)))))))))))))))))
 refine tri_end3 Try.results23 (.tmp rfl) (.cellS rfl rfl U78 rfl (z:=16) (by kernel_rfl) rfl (by decide)) (.tmp rfl) ?_
 have hx:Rd.rdX p n f c=false:=by simpa using hs1f
 have hw:(Rd.rdW p n t f c)=false:=by unfold Rd.rdW;rw [decide_eq_true hs,hx];rfl
 have hr:Rd.vcE p n t f c=1:=by unfold Rd.vcE;rw [if_pos hs,hx];rfl
 rw [hw,hr]
 exact rfl
theorem open_c {p:Fm} (HP:FmOk p) {n t f:Int} {c:Cf} (HC:Rd.CgOk c):Ctr Try.prog J 23 [.agg (cFm p),.agg (cSz n t f),.agg (Rd.cCg c)] (.tup [.any,.agg (Rd.cfZ (Rd.rdW p n t f c) (Rd.shI p.top (Ns.shT p.top (Ns.cntE p n f)) c.sh) c),iv (Rd.vcE p n t f c)]):=by
  by_cases hs:Ns.sysE p n t f=0
  · exact open_ok HP HC hs
  exact open_err HP HC hs
theorem ValidConfig_c {p:Fm} (HP:FmOk p) {n t f:Int} {c:Cf} (HC:Rd.CgOk c):Ctr Try.prog J 11 [.agg (cFm p),.agg (cSz n t f),.agg (Rd.cCg c)] (iv (Rd.vcE p n t f c)):=by
 refine Zy Try.func11 rfl (by intro X hX;simp only [List.mem_cons,List.not_mem_nil,or_false] at hX;rcases hX with rfl | rfl | rfl;exact Zi (YC p);exact Zi (YT n t f);exact Zi (Rd.plain_cg c)) (n:=19) rfl (by simp) (fun w0 => ?_)
 refine kW 19 [] [(0,.agg (cFm p)),(1,.agg (cSz n t f)),(2,.agg (Rd.cCg c))] (Zb (Za (ZF rfl (Yi (X := .agg (cFm p)) (k:=1) (.tmp 0) rfl rfl) ⟨I0,T0⟩ T0 rfl (ZF rfl (Yi (X := .agg (cSz n t f)) (k:=2) (.tmp 1) rfl rfl) ⟨I0,T0⟩ T0 rfl (ZF rfl (Yi (X := .agg (Rd.cCg c)) (k:=3) (.tmp 2) rfl rfl) ⟨I0,T0⟩ T0 rfl (pM (aC (.int .i64 0)) (Ze (Zd (Zb (Za (oB (lS (cFm p) 10 3 U27) I0 rfl (oB (lS (cSz n t f) 3 4 U29) I0 rfl (oB (lS (Rd.cCg c) 6 5 U31) I0 rfl (ZF rfl (sc #[.tmp 11,.tmp 12,.tmp 13] [] (open_c HP HC) [.agg (cFm p),.agg (cSz n t f),.agg (Rd.cCg c)] rfl rfl rfl) ⟨I0,I0,I0,I0,T0⟩ T0 T0 (pM (mT 14 (.tup [.fr (.any),.fr (.agg (Rd.cfZ (Rd.rdW p n t f c) (Rd.shI p.top (Ns.shT p.top (Ns.cntE p n f)) c.sh) c)),iv (Rd.vcE p n t f c)])) (oA (Zt (X := .fr (.any)) (.tmp 10) rfl rfl) I0 (oA (Zt (X := .fr (.agg (Rd.cfZ (Rd.rdW p n t f c) (Rd.shI p.top (Ns.shT p.top (Ns.cntE p n f)) c.sh) c))) (.tmp 10) rfl rfl) I0 (oA (Zt (X:=iv (Rd.vcE p n t f c)) (.tmp 10) rfl rfl) I0 (ZF rfl (ZJ (z := .agg #[.int .i64 0,.int .i64 0,.int .i64 0,.int .i64 0,.int .i64 0,.int .i64 0,.int .i64 0,.int .i64 0,.int .i64 0,.int .i64 0,.int .i64 0,.int .i64 0,.int .i64 0,.int .i64 0,.int .i64 0,.int .i64 0]) (k:=4) rfl (by kernel_rfl)) T0 T0 rfl (pM (aT 15 (.fr (.any))) (ZF rfl (sB 16 8 (.tmp 16) (.agg [iv (Rd.zz (Rd.rdW p n t f c) (Rd.shI p.top (Ns.shT p.top (Ns.cntE p n f)) c.sh)),iv (Rd.zz (Rd.rdW p n t f c) (c.st.getD 0 0)),iv (Rd.zz (Rd.rdW p n t f c) (c.st.getD 1 0)),iv (Rd.zz (Rd.rdW p n t f c) (c.st.getD 2 0)),iv (Rd.zz (Rd.rdW p n t f c) (c.st.getD 3 0)),iv (Rd.zz (Rd.rdW p n t f c) (c.st.getD 4 0)),iv (Rd.zz (Rd.rdW p n t f c) (c.st.getD 5 0)),iv (Rd.zz (Rd.rdW p n t f c) (c.st.getD 6 0)),iv (Rd.zz (Rd.rdW p n t f c) (c.st.getD 7 0)),iv (Rd.zz (Rd.rdW p n t f c) (c.se.getD 0 0)),iv (Rd.zz (Rd.rdW p n t f c) (c.se.getD 1 0)),iv (Rd.zz (Rd.rdW p n t f c) (c.se.getD 2 0)),iv (Rd.zz (Rd.rdW p n t f c) (c.fa.getD 0 0)),iv (Rd.zz (Rd.rdW p n t f c) (c.fa.getD 1 0)),iv (Rd.zz (Rd.rdW p n t f c) (c.fa.getD 2 0)),iv (Rd.zz (Rd.rdW p n t f c) c.val)])) ⟨I0,.inr (.inr (.inl ⟨_,rfl,rfl⟩)),T0⟩ ⟨rfl,T0⟩ rfl (pM (aT 17 (iv (Rd.vcE p n t f c))) (Ze ?_)))))))))))))))))))))))
 refine Zd (Zb (Za (pM (mT 9 (iv (Rd.vcE p n t f c))) (pM (aT 18 (iv (Rd.vcE p n t f c))) (Ze (Zd (Zk ?_)))))))
 refine Zs Try.results11 (.tmp rfl) ?_
 exact rfl
theorem En.read_t {p:Fm} {n t f:Int} {c:Cf} (HC:Rd.CgOk c) (hx:Rd.rdX p n f c=true):Ctr Try.prog J 41 [.el (Ns.sysC p n t f) 0,.agg (Rd.cCg c)] (.tup [.agg (En.cfV (Rd.shI p.top (Ns.shT p.top (Ns.cntE p n f)) c.sh) c),bT]):=by
  have h:=read_c (J:=J) (p:=p) (n:=n) (t:=t) (f:=f) HC
  rw [show Rd.rdY p n f c=true from hx,hx] at h
  exact h
theorem pu_part {F ok:Nat→Prop} {w:World} {cs ds:List AV} {o:Nat} {v:Value} (hl:cs.length=ds.length) (h:∀ (j:Nat) (h1:j<cs.length) (h2:j<ds.length),ds[j]=cs[j]∨ds[j] = .any) (hp:Pu F w ok (.el cs o) v):Pu F w ok (.el ds o) v:=by
  cases hp with
  | el hb hw hf hh =>
    refine .el hb hw (fun j hj=>hf j (by omega)) fun j hj => ?_
    rcases h j (by omega) hj with e | e
    · rw [e];exact hh j (by omega)
    rw [e];exact .any _
theorem En.sys_part {p:Fm} {n t f:Int}:(En.sysP p n t f).length=(Ns.sysC p n t f).length∧∀ (j:Nat) (h1:j<(En.sysP p n t f).length) (h2:j<(Ns.sysC p n t f).length),(Ns.sysC p n t f)[j]=(En.sysP p n t f)[j]∨(Ns.sysC p n t f)[j] = .any:=by
  refine ⟨by unfold En.sysP;rw [En.sysB_len];rfl,fun j h1 h2 => ?_⟩
  have h3:j<33:=h2
  obtain rfl | rfl | rfl | rfl | rfl | rfl | rfl | rfl | rfl | rfl | rfl | rfl | rfl | rfl | rfl | rfl | rfl | rfl | rfl | rfl | rfl | rfl | rfl | rfl | rfl | rfl | rfl | rfl | rfl | rfl | rfl | rfl | rfl:j=0∨j=1∨j=2∨j=3∨j=4∨j=5∨j=6∨j=7∨j=8∨j=9∨j=10∨j=11∨j=12∨j=13∨j=14∨j=15∨j=16∨j=17∨j=18∨j=19∨j=20∨j=21∨j=22∨j=23∨j=24∨j=25∨j=26∨j=27∨j=28∨j=29∨j=30∨j=31∨j=32:=by omega
  · exact .inl (by kernel_rfl)
  · exact .inl (by kernel_rfl)
  · exact .inl (by kernel_rfl)
  · exact .inl (by kernel_rfl)
  · exact .inl (by kernel_rfl)
  · exact .inl (by kernel_rfl)
  · exact .inl (by kernel_rfl)
  · exact .inl (by kernel_rfl)
  · exact .inl (by kernel_rfl)
  · exact .inl (by kernel_rfl)
  · exact .inl (by kernel_rfl)
  · exact .inl (by kernel_rfl)
  · exact .inl (by kernel_rfl)
  · exact .inl (by kernel_rfl)
  · exact .inl (by kernel_rfl)
  · exact .inr rfl
  · exact .inr rfl
  · exact .inr rfl
  · exact .inr rfl
  · exact .inr rfl
  · exact .inr rfl
  · exact .inr rfl
  · exact .inr rfl
  · exact .inr rfl
  · exact .inr rfl
  · exact .inr rfl
  · exact .inr rfl
  · exact .inr rfl
  · exact .inr rfl
  · exact .inr rfl
  · exact .inr rfl
  · exact .inl (by kernel_rfl)
  exact .inr rfl
theorem En.read_p {p:Fm} {n t f:Int} {c:Cf} (HC:Rd.CgOk c) (hx:Rd.rdX p n f c=true):Ctr Try.prog J 41 [.el (En.sysP p n t f) 0,.agg (Rd.cCg c)] (.tup [.agg (En.cfV (Rd.shI p.top (Ns.shT p.top (Ns.cntE p n f)) c.sh) c),bT]):=by
  intro w vs hJ hl hv
  refine En.read_t (J:=J) (p:=p) (n:=n) (t:=t) (f:=f) HC hx w vs hJ hl fun j hj => ?_
  match j,hj with
  | 0,_=>exact pu_part En.sys_part.1 En.sys_part.2 (hv 0 (by simp))
  | 1,_=>exact hv 1 (by simp)
theorem En.read_q {p:Fm} {n t f:Int} {c:Cf} (HC:Rd.CgOk c) (hx:Rd.rdX p n f c=false):Ctr Try.prog J 41 [.el (En.sysP p n t f) 0,.agg (Rd.cCg c)] (.tup [.agg (Rd.cfZ false (Rd.shI p.top (Ns.shT p.top (Ns.cntE p n f)) c.sh) c),bF]):=by
  intro w vs hJ hl hv
  have h:=read_c (J:=J) (p:=p) (n:=n) (t:=t) (f:=f) HC w vs hJ hl fun j hj => ?_
  · rw [show Rd.rdY p n f c=false from hx,hx] at h
    exact h
  match j,hj with
  | 0,_=>exact pu_part En.sys_part.1 En.sys_part.2 (hv 0 (by simp))
  | 1,_=>exact hv 1 (by simp)
theorem open_V {p:Fm} (HP:FmOk p) {n t f:Int} {c:Cf} (HC:Rd.CgOk c) (hs:Ns.sysE p n t f=0) (hx:Rd.rdX p n f c=true):CtrA Try.prog J 23 [.agg (cFm p),.agg (cSz n t f),.agg (Rd.cCg c)] (.tup [.el (En.sysP p n t f) 0,.agg (En.cfV (Rd.shI p.top (Ns.shT p.top (Ns.cntE p n f)) c.sh) c),iv 0]):=by
 refine Kt Try.func23 rfl (by intro X hX;simp only [List.mem_cons,List.not_mem_nil,or_false] at hX;rcases hX with rfl | rfl | rfl;exact Zi (YC p);exact Zi (YT n t f);exact Zi (Rd.plain_cg c)) (n:=34) rfl (by simp) (fun w0 => ?_)
 refine kW 34 [] [(0,.agg (cFm p)),(1,.agg (cSz n t f)),(2,.agg (Rd.cCg c))] (Zb (Za (ZF rfl (Yi (X := .agg (cFm p)) (k:=1) (.tmp 0) rfl rfl) ⟨I0,T0⟩ T0 rfl (ZF rfl (Yi (X := .agg (cSz n t f)) (k:=2) (.tmp 1) rfl rfl) ⟨I0,T0⟩ T0 rfl (ZF rfl (Yi (X := .agg (Rd.cCg c)) (k:=3) (.tmp 2) rfl rfl) ⟨I0,T0⟩ T0 rfl (pM (Yb (.const (.pointer none)) (.v (.pointer none)) rfl) (ZF rfl (ZJ (z := .agg #[.int .i64 0,.int .i64 0,.int .i64 0,.int .i64 0,.int .i64 0,.int .i64 0,.int .i64 0,.int .i64 0,.int .i64 0,.int .i64 0,.int .i64 0,.int .i64 0,.int .i64 0,.int .i64 0,.int .i64 0,.int .i64 0]) (k:=4) rfl (by kernel_rfl)) T0 T0 rfl (pM (aC (.int .i64 0)) (Ze (Zd (Zb (Za (oB (lS (cFm p) 10 3 U27) I0 rfl (oB (lS (cSz n t f) 3 4 U29) I0 rfl (oD (Kx (c := .func 40) (xs := #[.tmp 14,.tmp 15]) (newSystem_P HP hs) rfl (by kernel_rfl) rfl (Xs:=[.agg (cFm p),.agg (cSz n t f)]) rfl rfl) I0 I0 I0 (pM (mT 16 (.tup [.el (En.sysP p n t f) 0,iv 0])) (oA (Zt (X := .el (En.sysP p n t f) 0) (.tmp 13) rfl rfl) I0 (oA (Zt (X:=iv 0) (.tmp 13) rfl rfl) I0 (pM (aT 17 (.el (En.sysP p n t f) 0)) (pM (aT 18 (iv 0)) (Ze (Zd (Zb ?_)))))))))))))))))))))))
 refine Zb (Za (pM (mT 10 (iv 0)) (oC (Z0 (r:=false) rfl (by decide)) I0 I0 (Ze (Zd (Zp rfl (Zn (Zd (Zb (Za (pM (mT 9 (.el (En.sysP p n t f) 0)) (oB (lS (Rd.cCg c) 6 5 U31) I0 rfl (oD (sc #[.tmp 24,.tmp 25] [] (En.read_p HC hx) [.el (En.sysP p n t f) 0,.agg (Rd.cCg c)] rfl rfl rfl) I0 I0 I0 (pM (mT 26 (.tup [.fr (.agg (En.cfV (Rd.shI p.top (Ns.shT p.top (Ns.cntE p n f)) c.sh) c)),bT])) (oA (Zt (X := .fr (.agg (En.cfV (Rd.shI p.top (Ns.shT p.top (Ns.cntE p n f)) c.sh) c))) (.tmp 23) rfl rfl) I0 (oA (Zt (X:=bT) (.tmp 23) rfl rfl) I0 (ZF rfl (ZJ (z := .agg #[.int .i64 0,.int .i64 0,.int .i64 0,.int .i64 0,.int .i64 0,.int .i64 0,.int .i64 0,.int .i64 0,.int .i64 0,.int .i64 0,.int .i64 0,.int .i64 0,.int .i64 0,.int .i64 0,.int .i64 0,.int .i64 0]) (k:=5) rfl (by kernel_rfl)) T0 T0 rfl (ZF rfl (sB 16 11 (.tmp 27) (.agg [iv (Rd.shI p.top (Ns.shT p.top (Ns.cntE p n f)) c.sh),iv (c.st.getD 0 0),iv (c.st.getD 1 0),iv (c.st.getD 2 0),iv (c.st.getD 3 0),iv (c.st.getD 4 0),iv (c.st.getD 5 0),iv (c.st.getD 6 0),iv (c.st.getD 7 0),iv (c.se.getD 0 0),iv (c.se.getD 1 0),iv (c.se.getD 2 0),iv (c.fa.getD 0 0),iv (c.fa.getD 1 0),iv (c.fa.getD 2 0),iv c.val])) ⟨I0,.inr (.inr (.inl ⟨_,rfl,rfl⟩)),T0⟩ ⟨rfl,T0⟩ rfl (pM (aT 28 bT) (Ze (Zd (Zb (Zb ?_)))))))))))))))))))))))
 refine Za (pM (mT 12 bT) (oA (Ya rfl rfl) I0 (Ze (Zd (Zp rfl (Zn (Zd (Zb ?_))))))))
 refine Zo (dM (mT 9 (.el (En.sysP p n t f) 0)) (dB (lS ([iv (Rd.shI p.top (Ns.shT p.top (Ns.cntE p n f)) c.sh),iv (c.st.getD 0 0),iv (c.st.getD 1 0),iv (c.st.getD 2 0),iv (c.st.getD 3 0),iv (c.st.getD 4 0),iv (c.st.getD 5 0),iv (c.st.getD 6 0),iv (c.st.getD 7 0),iv (c.se.getD 0 0),iv (c.se.getD 1 0),iv (c.se.getD 2 0),iv (c.fa.getD 0 0),iv (c.fa.getD 1 0),iv (c.fa.getD 2 0),iv c.val]) 16 11 U78) I0 rfl (dM (aT 32 (.el (En.sysP p n t f) 0)) (dR (sB 16 7 (.tmp 33) (.agg [iv (Rd.shI p.top (Ns.shT p.top (Ns.cntE p n f)) c.sh),iv (c.st.getD 0 0),iv (c.st.getD 1 0),iv (c.st.getD 2 0),iv (c.st.getD 3 0),iv (c.st.getD 4 0),iv (c.st.getD 5 0),iv (c.st.getD 6 0),iv (c.st.getD 7 0),iv (c.se.getD 0 0),iv (c.se.getD 1 0),iv (c.se.getD 2 0),iv (c.fa.getD 0 0),iv (c.fa.getD 1 0),iv (c.fa.getD 2 0),iv c.val])) ⟨I0,I0,T0⟩ ⟨rfl,T0⟩ rfl (dM (aC (.int .i64 0)) (dE ?_)))))) (by kernel_rfl)
 show ETri J w0 _ _ _
 refine Zd (Zk ?_)
 refine tri_endA3 [(4,.box 78 [iv (Rd.shI p.top (Ns.shT p.top (Ns.cntE p n f)) c.sh),iv (c.st.getD 0 0),iv (c.st.getD 1 0),iv (c.st.getD 2 0),iv (c.st.getD 3 0),iv (c.st.getD 4 0),iv (c.st.getD 5 0),iv (c.st.getD 6 0),iv (c.st.getD 7 0),iv (c.se.getD 0 0),iv (c.se.getD 1 0),iv (c.se.getD 2 0),iv (c.fa.getD 0 0),iv (c.fa.getD 1 0),iv (c.fa.getD 2 0),iv c.val])] Try.results23 (.tmp rfl) (.cellS rfl rfl U78 rfl (z:=16) (by kernel_rfl) rfl (by decide)) (.tmp rfl) (by kernel_rfl) rfl rfl rfl rfl ?_ ?_ ?_ ?_
 · exact (show Plain (.el (En.sysP p n t f) 0) from .el (ZQ (En.plain_sysP p n t f)))
 · exact Zi (En.plain_cfV _ c)
 · exact .v _
 kernel_rfl
theorem open_bad {p:Fm} (HP:FmOk p) {n t f:Int} {c:Cf} (HC:Rd.CgOk c) (hs:Ns.sysE p n t f=0) (hx:Rd.rdX p n f c=false):Ctr Try.prog J 23 [.agg (cFm p),.agg (cSz n t f),.agg (Rd.cCg c)] (.tup [.any,.agg (Rd.cfZ false (Rd.shI p.top (Ns.shT p.top (Ns.cntE p n f)) c.sh) c),iv 1]):=by
 refine Zy Try.func23 rfl (by intro X hX;simp only [List.mem_cons,List.not_mem_nil,or_false] at hX;rcases hX with rfl | rfl | rfl;exact Zi (YC p);exact Zi (YT n t f);exact Zi (Rd.plain_cg c)) (n:=34) rfl (by simp) (fun w0 => ?_)
 refine kW 34 [] [(0,.agg (cFm p)),(1,.agg (cSz n t f)),(2,.agg (Rd.cCg c))] (Zb (Za (ZF rfl (Yi (X := .agg (cFm p)) (k:=1) (.tmp 0) rfl rfl) ⟨I0,T0⟩ T0 rfl (ZF rfl (Yi (X := .agg (cSz n t f)) (k:=2) (.tmp 1) rfl rfl) ⟨I0,T0⟩ T0 rfl (ZF rfl (Yi (X := .agg (Rd.cCg c)) (k:=3) (.tmp 2) rfl rfl) ⟨I0,T0⟩ T0 rfl (pM (Yb (.const (.pointer none)) (.v (.pointer none)) rfl) (ZF rfl (ZJ (z := .agg #[.int .i64 0,.int .i64 0,.int .i64 0,.int .i64 0,.int .i64 0,.int .i64 0,.int .i64 0,.int .i64 0,.int .i64 0,.int .i64 0,.int .i64 0,.int .i64 0,.int .i64 0,.int .i64 0,.int .i64 0,.int .i64 0]) (k:=4) rfl (by kernel_rfl)) T0 T0 rfl (pM (aC (.int .i64 0)) (Ze (Zd (Zb (Za (oB (lS (cFm p) 10 3 U27) I0 rfl (oB (lS (cSz n t f) 3 4 U29) I0 rfl (oD (Kx (c := .func 40) (xs := #[.tmp 14,.tmp 15]) (newSystem_P HP hs) rfl (by kernel_rfl) rfl (Xs:=[.agg (cFm p),.agg (cSz n t f)]) rfl rfl) I0 I0 I0 (pM (mT 16 (.tup [.el (En.sysP p n t f) 0,iv 0])) (oA (Zt (X := .el (En.sysP p n t f) 0) (.tmp 13) rfl rfl) I0 (oA (Zt (X:=iv 0) (.tmp 13) rfl rfl) I0 (pM (aT 17 (.el (En.sysP p n t f) 0)) (pM (aT 18 (iv 0)) (Ze (Zd (Zb ?_)))))))))))))))))))))))
 refine Zb (Za (pM (mT 10 (iv 0)) (oC (Z0 (r:=false) rfl (by decide)) I0 I0 (Ze (Zd (Zp rfl (Zn (Zd (Zb (Za (pM (mT 9 (.el (En.sysP p n t f) 0)) (oB (lS (Rd.cCg c) 6 5 U31) I0 rfl (oD (sc #[.tmp 24,.tmp 25] [] (En.read_q HC hx) [.el (En.sysP p n t f) 0,.agg (Rd.cCg c)] rfl rfl rfl) I0 I0 I0 (pM (mT 26 (.tup [.fr (.agg (Rd.cfZ false (Rd.shI p.top (Ns.shT p.top (Ns.cntE p n f)) c.sh) c)),bF])) (oA (Zt (X := .fr (.agg (Rd.cfZ false (Rd.shI p.top (Ns.shT p.top (Ns.cntE p n f)) c.sh) c))) (.tmp 23) rfl rfl) I0 (oA (Zt (X:=bF) (.tmp 23) rfl rfl) I0 (ZF rfl (ZJ (z := .agg #[.int .i64 0,.int .i64 0,.int .i64 0,.int .i64 0,.int .i64 0,.int .i64 0,.int .i64 0,.int .i64 0,.int .i64 0,.int .i64 0,.int .i64 0,.int .i64 0,.int .i64 0,.int .i64 0,.int .i64 0,.int .i64 0]) (k:=5) rfl (by kernel_rfl)) T0 T0 rfl (ZF rfl (sB 16 11 (.tmp 27) (.agg [iv (Rd.zz false (Rd.shI p.top (Ns.shT p.top (Ns.cntE p n f)) c.sh)),iv (Rd.zz false (c.st.getD 0 0)),iv (Rd.zz false (c.st.getD 1 0)),iv (Rd.zz false (c.st.getD 2 0)),iv (Rd.zz false (c.st.getD 3 0)),iv (Rd.zz false (c.st.getD 4 0)),iv (Rd.zz false (c.st.getD 5 0)),iv (Rd.zz false (c.st.getD 6 0)),iv (Rd.zz false (c.st.getD 7 0)),iv (Rd.zz false (c.se.getD 0 0)),iv (Rd.zz false (c.se.getD 1 0)),iv (Rd.zz false (c.se.getD 2 0)),iv (Rd.zz false (c.fa.getD 0 0)),iv (Rd.zz false (c.fa.getD 1 0)),iv (Rd.zz false (c.fa.getD 2 0)),iv (Rd.zz false c.val)])) ⟨I0,.inr (.inr (.inl ⟨_,rfl,rfl⟩)),T0⟩ ⟨rfl,T0⟩ rfl (pM (aT 28 bF) (Ze (Zd (Zb (Zb ?_)))))))))))))))))))))))
 refine Za (pM (mT 12 bF) (oA (Ya rfl rfl) I0 (Ze (Zd (Zm rfl (Zb (Za (ZF rfl (YW [] #[.int .i64 0,.int .i64 0,.int .i64 0,.int .i64 0,.int .i64 0,.int .i64 0,.int .i64 0,.int .i64 0,.int .i64 0,.int .i64 0,.int .i64 0,.int .i64 0,.int .i64 0,.int .i64 0,.int .i64 0,.int .i64 0] rfl rfl (by kernel_rfl) rfl) T0 T0 T0 (pM (Yb (.const (.pointer none)) (.v (.pointer none)) rfl) (ZF rfl (sB 16 7 (.tmp 31) (.agg [iv 0,iv 0,iv 0,iv 0,iv 0,iv 0,iv 0,iv 0,iv 0,iv 0,iv 0,iv 0,iv 0,iv 0,iv 0,iv 0])) ⟨I0,I0,T0⟩ ⟨rfl,T0⟩ rfl (pM (aC (.int .i64 1)) (Ze (Zd (Zk (Zj (kW 34 [(4,.box 78 [iv 0,iv 0,iv 0,iv 0,iv 0,iv 0,iv 0,iv 0,iv 0,iv 0,iv 0,iv 0,iv 0,iv 0,iv 0,iv 0]),(5,.box 78 [iv (Rd.zz false (Rd.shI p.top (Ns.shT p.top (Ns.cntE p n f)) c.sh)),iv (Rd.zz false (c.st.getD 0 0)),iv (Rd.zz false (c.st.getD 1 0)),iv (Rd.zz false (c.st.getD 2 0)),iv (Rd.zz false (c.st.getD 3 0)),iv (Rd.zz false (c.st.getD 4 0)),iv (Rd.zz false (c.st.getD 5 0)),iv (Rd.zz false (c.st.getD 6 0)),iv (Rd.zz false (c.st.getD 7 0)),iv (Rd.zz false (c.se.getD 0 0)),iv (Rd.zz false (c.se.getD 1 0)),iv (Rd.zz false (c.se.getD 2 0)),iv (Rd.zz false (c.fa.getD 0 0)),iv (Rd.zz false (c.fa.getD 1 0)),iv (Rd.zz false (c.fa.getD 2 0)),iv (Rd.zz false c.val)])] [(7,.box 4 0),(8,iv 1),(9,.el (En.sysP p n t f) 0),(11,.box 5 0)] ?_))))))))))))))))
 refine tri_end3 Try.results23 (.tmp rfl) (.cellS rfl rfl U78 rfl (z:=16) (by kernel_rfl) rfl (by decide)) (.tmp rfl) ?_
 exact rfl
theorem open_no {p:Fm} (HP:FmOk p) {n t f:Int} {c:Cf} (HC:Rd.CgOk c) (hz:¬ Rd.vcE p n t f c=0):Ctr Try.prog J 23 [.agg (cFm p),.agg (cSz n t f),.agg (Rd.cCg c)] (.tup [.any,.agg (Rd.cfZ false (Rd.shI p.top (Ns.shT p.top (Ns.cntE p n f)) c.sh) c),iv (Rd.vcE p n t f c)]):=by
  by_cases hs:Ns.sysE p n t f=0
  · have hx:Rd.rdX p n f c=false:=by
      cases e:Rd.rdX p n f c with
      | false=>rfl
      | true=>exact absurd (by unfold Rd.vcE;rw [if_pos hs,if_pos e]) hz
    have e:Rd.vcE p n t f c=1:=by unfold Rd.vcE;rw [if_pos hs,hx];rfl
    rw [e]
    exact open_bad HP HC hs hx
  have h:=open_err (J:=J) HP HC hs
  rw [show Rd.rdW p n t f c=false by unfold Rd.rdW;rw [decide_eq_false hs];rfl] at h
  exact h
theorem isProc_c {p:Fm} {n t f:Int} {m:Nat} (hn:(Ns.cntE p n f)=((m:Nat):Int)) {x:Int}:Ctr Try.prog J 46 [.el (En.sysP p n t f) 0,iv x] (bv (En.isP m x)):=by
 refine Zy Try.func46 rfl (by intro X hX;simp only [List.mem_cons,List.not_mem_nil,or_false] at hX;rcases hX with rfl | rfl;exact (show Plain (.el (En.sysP p n t f) 0) from .el (ZQ (En.plain_sysP p n t f)));exact .v _) (n:=15) rfl (by simp) (fun w0 => ?_)
 refine kW 15 [] [(0,.el (En.sysP p n t f) 0),(1,iv x)] (Zb (Za (pM (aC (.bool false)) (Ze (Zd (Zb ?_))))))
 by_cases hs1:0≤x
 refine Za (pM (mT 1 (iv x)) (oC (Y0 rfl (dT hs1)) I0 I0 (pM (mT 6 bT) (qM (mT 1 (iv x)) (qM (mT 0 (.el (En.sysP p n t f) 0)) (gA (Zl (off:=0) (.tmp 9) rfl) I0 (gA (fe 13 10 U111 1) I0 (gA (lE (iv (Ns.cntE p n f)) 11 U3) I0 (gC (ZY rfl rfl) I0 I0 (pP (pk true (bv (decide (x<(Ns.cntE p n f)))) bF rfl) (pM (aT 14 (bv (decide (x<(Ns.cntE p n f))))) (Ze (Zd (Zk ?_))))))))))))))
 refine Zs Try.results46 (.tmp rfl) ?_
 exact congrArg (fun x:Bool=>AV.v (.bool x)) ((by unfold En.isP;rw [← hn];simp only [hs1,decide_true,decide_false,Bool.and_true,Bool.true_and,Bool.false_and,Bool.and_false,Bool.true_or,Bool.false_or,Bool.or_true,Bool.or_false,Bool.not_true,Bool.not_false]))
 refine Za (pM (mT 1 (iv x)) (oC (Y0 rfl (dF hs1)) I0 I0 (pM (mT 6 bF) (qK (qK (qK (qK (qK (qK (pP (pk false (.v (.tuple #[])) bF rfl) (pM (aT 14 bF) (Ze (Zd (Zk ?_))))))))))))))
 refine Zs Try.results46 (.tmp rfl) ?_
 exact congrArg (fun x:Bool=>AV.v (.bool x)) ((by unfold En.isP;rw [← hn];simp only [hs1,decide_true,decide_false,Bool.and_true,Bool.true_and,Bool.false_and,Bool.and_false,Bool.true_or,Bool.false_or,Bool.or_true,Bool.or_false,Bool.not_true,Bool.not_false]))
theorem hasPart_c {p:Fm} {r:Nat} (hr:r<p.rules.length):Ctr Try.prog J 64 [.el (p.rules.flatMap cRu) (r*18)] (bv (decide (p.rules[r].kind=2)||decide (p.rules[r].kind=5))):=by
 refine Zy Try.func64 rfl (by intro X hX;simp only [List.mem_cons,List.not_mem_nil,or_false] at hX;rcases hX with rfl;exact (.el (ZQ fun X hX=>by obtain ⟨x,_,hx⟩:=List.mem_flatMap.1 hX;exact Y3 x X hx))) (n:=15) rfl (by simp) (fun w0 => ?_)
 refine kW 15 [] [(0,.el (p.rules.flatMap cRu) (r*18))] (Zb (Za (pM (aC (.bool false)) (Ze (Zd (Zb ?_))))))
 by_cases hs1:p.rules[r].kind=2
 refine Za (pM (mT 0 (.el (p.rules.flatMap cRu) (r*18))) (oA (Zl (off:=r*18) (.tmp 3) rfl) I0 (oA (fe (r*18+1) 4 U65 1) I0 (oA (lE (iv p.rules[r].kind) 5 U3 ((Zu lenRu p.rules r 1 (by omega) (by decide)).trans rfl)) I0 (oC (ZA rfl (dT hs1)) I0 I0 (pM (mT 7 bT) (qK (qK (qK (qK (qK (pP (pk true bT (.v (.tuple #[])) rfl) (pM (aT 14 bT) (Ze (Zd (Zk ?_))))))))))))))))
 refine Zs Try.results64 (.tmp rfl) ?_
 exact congrArg (fun x:Bool=>AV.v (.bool x)) ((by simp only [hs1,decide_true,decide_false,Bool.and_true,Bool.true_and,Bool.false_and,Bool.and_false,Bool.true_or,Bool.false_or,Bool.or_true,Bool.or_false,Bool.not_true,Bool.not_false]))
 refine Za (pM (mT 0 (.el (p.rules.flatMap cRu) (r*18))) (oA (Zl (off:=r*18) (.tmp 3) rfl) I0 (oA (fe (r*18+1) 4 U65 1) I0 (oA (lE (iv p.rules[r].kind) 5 U3 ((Zu lenRu p.rules r 1 (by omega) (by decide)).trans rfl)) I0 (oC (ZA rfl (dF hs1)) I0 I0 (pM (mT 7 bF) (qM (mT 0 (.el (p.rules.flatMap cRu) (r*18))) (gA (Zl (off:=r*18) (.tmp 9) rfl) I0 (gA (fe (r*18+1) 10 U65 1) I0 (gA (lE (iv p.rules[r].kind) 11 U3 ((Zu lenRu p.rules r 1 (by omega) (by decide)).trans rfl)) I0 (gC (ZA rfl rfl) I0 I0 (pP (pk false bT (bv (decide (p.rules[r].kind=5))) rfl) (pM (aT 14 (bv (decide (p.rules[r].kind=5)))) (Ze (Zd (Zk ?_))))))))))))))))
 refine Zs Try.results64 (.tmp rfl) ?_
 exact congrArg (fun x:Bool=>AV.v (.bool x)) ((by simp only [hs1,decide_true,decide_false,Bool.and_true,Bool.true_and,Bool.false_and,Bool.and_false,Bool.true_or,Bool.false_or,Bool.or_true,Bool.or_false,Bool.not_true,Bool.not_false]))
theorem heard_c {p:Fm} {n t f:Int} {c:Cf} (hc:En.CfV p n f c) (hf:0≤f∧f≤1048576) (h3:p.msgs.length≤3) {sx:Int}:Ctr Try.prog J 29 [.el (En.sysP p n t f) 0,.agg (En.cfV sx c)] (.agg (En.msA (En.hdJ p f c p.msgs.length))):=by
 refine Zy Try.func29 rfl (by intro X hX;simp only [List.mem_cons,List.not_mem_nil,or_false] at hX;rcases hX with rfl | rfl;exact (show Plain (.el (En.sysP p n t f) 0) from .el (ZQ (En.plain_sysP p n t f)));exact Zi (En.plain_cfV _ c)) (n:=49) rfl (by simp) (fun w0 => ?_)
 refine kW 49 [] [(0,.el (En.sysP p n t f) 0),(1,.agg (En.cfV sx c))] (Zb (Za (oA (ZV (X := .agg (En.cfV sx c)) (.tmp 1) rfl rfl rfl) I0 (ZF rfl (ZJ (z := .agg #[.int .i64 0,.int .i64 0,.int .i64 0]) (k:=1) rfl (by kernel_rfl)) T0 T0 rfl (Ze (Zd (Zb (Za (oA (fe 9 3 U78 3) I0 (oA (Zq (z:=3) (ds:=[iv (c.se.getD 0 0),iv (c.se.getD 1 0),iv (c.se.getD 2 0)]) (.tmp 7) rfl U76 rfl (by kernel_rfl) (by kernel_rfl) rfl) I0 (ZF rfl (ZJ (z := .agg #[.int .i64 0,.int .i64 0,.int .i64 0]) (k:=2) rfl (by kernel_rfl)) T0 T0 rfl (ZF rfl (sB 3 5 (.tmp 8) (.agg [iv (c.se.getD 0 0),iv (c.se.getD 1 0),iv (c.se.getD 2 0)])) ⟨I0,I0,T0⟩ ⟨rfl,T0⟩ rfl (Ze (Zd (Zb (Zb (Za (pM (mT 0 (.el (En.sysP p n t f) 0)) (oA (Zl (off:=0) (.tmp 9) rfl) I0 (oA (fe 0 10 U111 10) I0 (oA (fe 3 11 U27 1) I0 (oA (lE (Zr p.msgs) 12 U22) I0 (oA (nS 13 U22) I0 ?_)))))))))))))))))))))))
 refine pM (YL (.const (.int .i64 0)) (iv 0) rfl) (kN 49 [(1,.box 76 [iv 0,iv 0,iv 0]),(2,.box 76 [iv (c.se.getD 0 0),iv (c.se.getD 1 0),iv (c.se.getD 2 0)])] [(0,.el (En.sysP p n t f) 0),(3,.el (En.cfV sx c) 0),(4,.box 1 0),(5,.box 2 0),(14,iv p.msgs.length),(15,iv 0)] (Zd (ZD ?_)))
 refine Yy (σ:={j:Nat // j≤p.msgs.length}) (fun s=>(ofL [(1,.box 76 [iv 0,iv 0,iv 0]),(2,.box 76 (En.msA (En.hdJ p f c s.1)))],ofT 49 [(0,.el (En.sysP p n t f) 0),(3,.el (En.cfV sx c) 0),(4,.box 1 0),(5,.box 2 0),(14,iv p.msgs.length),(15,iv s.1)])) (fun s=>p.msgs.length-s.1) ⟨0,Nat.zero_le _⟩ (ZC _ _ rfl (by kernel_rfl) (by kernel_rfl)) (fun s => ?_)
 obtain ⟨j,hj0⟩:=s
 show ETri J w0 (ofL [(1,.box 76 [iv 0,iv 0,iv 0]),(2,.box 76 (En.msA (En.hdJ p f c j)))]) (ofT 49 [(0,.el (En.sysP p n t f) 0),(3,.el (En.cfV sx c) 0),(4,.box 1 0),(5,.box 2 0),(14,iv p.msgs.length),(15,iv j)]) _
 refine Zb ?_
 by_cases hs1:((j:Nat):Int)<((p.msgs.length:Nat):Int)
 have hj1:j<3:=by omega
 have hb1:=En.hdJ_in hc hf j j
 have hb2:=hc.fa_at j
 refine Za (oC (ZY rfl (dT hs1)) I0 I0 (Ze (Zd (Zb (Zm rfl (Zn (Zd (Zb (ZD (Zb (Za (pM (mT 15 (iv j)) (pM (aT 17 (iv j)) (Ze (Zd (Zb (Za (pM (mT 0 (.el (En.sysP p n t f) 0)) (oA (Zl (off:=0) (.tmp 18) rfl) I0 (oA (fe 0 19 U111 10) I0 (oA (fe 5 20 U27 1) I0 (oA (lE (iv p.fault) 21 U3) I0 (Ze ?_)))))))))))))))))))))))
 refine Zd (ZD (Zb (Zb ?_)))
 by_cases hs2:p.fault=1
 refine Za (oC (ZA rfl (dT hs2)) I0 I0 (pM (aT 24 bT) (Ze (Zd (Zm rfl (Zn (Zd (Zm rfl ?_))))))))
 refine Zo (dM (mT 6 (iv j)) (dC (Z4 (off':=0+j*1) (.tmp 5) (.tmp 26) rfl U76 (by kernel_rfl) (by omega) (by omega) rfl) I0 I0 (dB (lB (.box 76 (En.msA (En.hdJ p f c j))) (iv (En.hdJ p f c j j)) (.tmp 27) rfl U3 rfl (En.msA_get (by omega))) I0 rfl (dM (mT 6 (iv j)) (dA (fe 12 3 U78 3) I0 (dC (Z5 (off':=12+j*1) (.tmp 30) (.tmp 29) rfl U76 (by kernel_rfl) (by omega) (by omega) rfl) I0 I0 (dA (lE (iv (c.fa.getD j 0)) 31 U3 (En.cfV_fa (by omega))) I0 (dC (Yo (c:=(En.hdJ p f c j j)+(c.fa.getD j 0)) rfl (w64 (by omega) (by omega) (by omega))) I0 I0 (dC (Z4 (off':=0+j*1) (.tmp 5) (.tmp 26) rfl U76 (by kernel_rfl) (by omega) (by omega) rfl) I0 I0 (dR (Zw (T0:=76) (X:=iv ((En.hdJ p f c j j)+(c.fa.getD j 0))) (off:=0+j*1) (cs:=En.msA (En.hdJ p f c j)) (ds:=En.msA (En.hdJ p f c (j+1))) (z:=1) (.tmp 34) (.tmp 33) rfl (by kernel_rfl) (by kernel_rfl) (by kernel_rfl) (by show _≤3;omega) (En.msA_step (by omega) (En.hd_12 (.inl hs2)))) ⟨I0,I0,T0⟩ ⟨rfl,T0⟩ rfl (dE ?_))))))))))) (by kernel_rfl)
 show ETri J w0 _ _ _
 refine kW 49 [(1,.box 76 [iv 0,iv 0,iv 0]),(2,.box 76 (En.msA (En.hdJ p f c (j+1))))] [(0,.el (En.sysP p n t f) 0),(3,.el (En.cfV sx c) 0),(4,.box 1 0),(5,.box 2 0),(6,iv j),(14,iv p.msgs.length),(15,iv j),(16,bT),(22,iv p.fault),(23,bT)] (ZT (ZT (Zd (Za (oC (Yo (c:=((j+1:Nat):Int)) rfl (w64 (by omega) (by omega) (by omega))) I0 I0 (pM (mT 47 (iv (j+1:Nat))) (kN 49 [(1,.box 76 [iv 0,iv 0,iv 0]),(2,.box 76 (En.msA (En.hdJ p f c (j+1))))] [(0,.el (En.sysP p n t f) 0),(3,.el (En.cfV sx c) 0),(4,.box 1 0),(5,.box 2 0),(6,iv j),(14,iv p.msgs.length),(15,iv (j+1:Nat)),(16,bT),(22,iv p.fault),(23,bT)] (Zd ?_))))))))
 refine ZZ ⟨j+1,by omega⟩ (show p.msgs.length-(j+1)<p.msgs.length-j by omega) ?_
 show Wk _ _ (ofL [(1,.box 76 [iv 0,iv 0,iv 0]),(2,.box 76 (En.msA (En.hdJ p f c (j+1))))]) (ofT 49 [(0,.el (En.sysP p n t f) 0),(3,.el (En.cfV sx c) 0),(4,.box 1 0),(5,.box 2 0),(14,iv p.msgs.length),(15,iv ((j+1):Nat))])
 exact ZC _ _ rfl (by kernel_rfl) (by kernel_rfl)
 refine Za (oC (ZA rfl (dF hs2)) I0 I0 (pM (aT 24 bF) (Ze (Zd (Zp rfl ?_)))))
 by_cases hs3:p.fault=2
 refine Za (oC (ZA rfl (dT hs3)) I0 I0 (pM (aT 25 bT) (Ze (Zd (Zm rfl ?_)))))
 refine Zo (dM (mT 6 (iv j)) (dC (Z4 (off':=0+j*1) (.tmp 5) (.tmp 26) rfl U76 (by kernel_rfl) (by omega) (by omega) rfl) I0 I0 (dB (lB (.box 76 (En.msA (En.hdJ p f c j))) (iv (En.hdJ p f c j j)) (.tmp 27) rfl U3 rfl (En.msA_get (by omega))) I0 rfl (dM (mT 6 (iv j)) (dA (fe 12 3 U78 3) I0 (dC (Z5 (off':=12+j*1) (.tmp 30) (.tmp 29) rfl U76 (by kernel_rfl) (by omega) (by omega) rfl) I0 I0 (dA (lE (iv (c.fa.getD j 0)) 31 U3 (En.cfV_fa (by omega))) I0 (dC (Yo (c:=(En.hdJ p f c j j)+(c.fa.getD j 0)) rfl (w64 (by omega) (by omega) (by omega))) I0 I0 (dC (Z4 (off':=0+j*1) (.tmp 5) (.tmp 26) rfl U76 (by kernel_rfl) (by omega) (by omega) rfl) I0 I0 (dR (Zw (T0:=76) (X:=iv ((En.hdJ p f c j j)+(c.fa.getD j 0))) (off:=0+j*1) (cs:=En.msA (En.hdJ p f c j)) (ds:=En.msA (En.hdJ p f c (j+1))) (z:=1) (.tmp 34) (.tmp 33) rfl (by kernel_rfl) (by kernel_rfl) (by kernel_rfl) (by show _≤3;omega) (En.msA_step (by omega) (En.hd_12 (.inr hs3)))) ⟨I0,I0,T0⟩ ⟨rfl,T0⟩ rfl (dE ?_))))))))))) (by kernel_rfl)
 show ETri J w0 _ _ _
 refine kW 49 [(1,.box 76 [iv 0,iv 0,iv 0]),(2,.box 76 (En.msA (En.hdJ p f c (j+1))))] [(0,.el (En.sysP p n t f) 0),(3,.el (En.cfV sx c) 0),(4,.box 1 0),(5,.box 2 0),(6,iv j),(14,iv p.msgs.length),(15,iv j),(16,bT),(22,iv p.fault),(23,bT)] (ZT (ZT (Zd (Za (oC (Yo (c:=((j+1:Nat):Int)) rfl (w64 (by omega) (by omega) (by omega))) I0 I0 (pM (mT 47 (iv (j+1:Nat))) (kN 49 [(1,.box 76 [iv 0,iv 0,iv 0]),(2,.box 76 (En.msA (En.hdJ p f c (j+1))))] [(0,.el (En.sysP p n t f) 0),(3,.el (En.cfV sx c) 0),(4,.box 1 0),(5,.box 2 0),(6,iv j),(14,iv p.msgs.length),(15,iv (j+1:Nat)),(16,bT),(22,iv p.fault),(23,bT)] (Zd ?_))))))))
 refine ZZ ⟨j+1,by omega⟩ (show p.msgs.length-(j+1)<p.msgs.length-j by omega) ?_
 show Wk _ _ (ofL [(1,.box 76 [iv 0,iv 0,iv 0]),(2,.box 76 (En.msA (En.hdJ p f c (j+1))))]) (ofT 49 [(0,.el (En.sysP p n t f) 0),(3,.el (En.cfV sx c) 0),(4,.box 1 0),(5,.box 2 0),(14,iv p.msgs.length),(15,iv ((j+1):Nat))])
 exact ZC _ _ rfl (by kernel_rfl) (by kernel_rfl)
 refine Za (oC (ZA rfl (dF hs3)) I0 I0 (pM (aT 25 bF) (Ze (Zd (Zp rfl (Zb ?_))))))
 by_cases hs4:p.fault=3
 refine Za (oC (ZA rfl (dT hs4)) I0 I0 (pM (aT 36 bT) (Ze (Zd (Zm rfl ?_)))))
 refine Zo (dM (mT 6 (iv j)) (dC (Z4 (off':=0+j*1) (.tmp 5) (.tmp 37) rfl U76 (by kernel_rfl) (by omega) (by omega) rfl) I0 I0 (dB (lB (.box 76 (En.msA (En.hdJ p f c j))) (iv (En.hdJ p f c j j)) (.tmp 38) rfl U3 rfl (En.msA_get (by omega))) I0 rfl (dM (mT 0 (.el (En.sysP p n t f) 0)) (dA (Zl (off:=0) (.tmp 40) rfl) I0 (dA (fe 10 41 U111 3) I0 (dA (fe 12 42 U29 1) I0 (dA (lE (iv f) 43 U3) I0 (dC (Yo (c:=(En.hdJ p f c j j)+f) rfl (w64 (by omega) (by omega) (by omega))) I0 I0 (dC (Z4 (off':=0+j*1) (.tmp 5) (.tmp 37) rfl U76 (by kernel_rfl) (by omega) (by omega) rfl) I0 I0 (dR (Zw (T0:=76) (X:=iv ((En.hdJ p f c j j)+f)) (off:=0+j*1) (cs:=En.msA (En.hdJ p f c j)) (ds:=En.msA (En.hdJ p f c (j+1))) (z:=1) (.tmp 46) (.tmp 45) rfl (by kernel_rfl) (by kernel_rfl) (by kernel_rfl) (by show _≤3;omega) (En.msA_step (by omega) (En.hd_3 hs2 hs3 hs4))) ⟨I0,I0,T0⟩ ⟨rfl,T0⟩ rfl (dE ?_)))))))))))) (by kernel_rfl)
 show ETri J w0 _ _ _
 refine kW 49 [(1,.box 76 [iv 0,iv 0,iv 0]),(2,.box 76 (En.msA (En.hdJ p f c (j+1))))] [(0,.el (En.sysP p n t f) 0),(3,.el (En.cfV sx c) 0),(4,.box 1 0),(5,.box 2 0),(6,iv j),(14,iv p.msgs.length),(15,iv j),(16,bT),(22,iv p.fault),(23,bF),(35,bT)] (ZT (ZT (Zd (Za (oC (Yo (c:=((j+1:Nat):Int)) rfl (w64 (by omega) (by omega) (by omega))) I0 I0 (pM (mT 47 (iv (j+1:Nat))) (kN 49 [(1,.box 76 [iv 0,iv 0,iv 0]),(2,.box 76 (En.msA (En.hdJ p f c (j+1))))] [(0,.el (En.sysP p n t f) 0),(3,.el (En.cfV sx c) 0),(4,.box 1 0),(5,.box 2 0),(6,iv j),(14,iv p.msgs.length),(15,iv (j+1:Nat)),(16,bT),(22,iv p.fault),(23,bF),(35,bT)] (Zd ?_))))))))
 refine ZZ ⟨j+1,by omega⟩ (show p.msgs.length-(j+1)<p.msgs.length-j by omega) ?_
 show Wk _ _ (ofL [(1,.box 76 [iv 0,iv 0,iv 0]),(2,.box 76 (En.msA (En.hdJ p f c (j+1))))]) (ofT 49 [(0,.el (En.sysP p n t f) 0),(3,.el (En.cfV sx c) 0),(4,.box 1 0),(5,.box 2 0),(14,iv p.msgs.length),(15,iv ((j+1):Nat))])
 exact ZC _ _ rfl (by kernel_rfl) (by kernel_rfl)
 refine Za (oC (ZA rfl (dF hs4)) I0 I0 (pM (aT 36 bF) (Ze (Zd (Zp rfl (Zn (ZT (ZT (Zd (Za (oC (Yo (c:=((j+1:Nat):Int)) rfl (w64 (by omega) (by omega) (by omega))) I0 I0 (pM (mT 47 (iv (j+1:Nat))) (kN 49 [(1,.box 76 [iv 0,iv 0,iv 0]),(2,.box 76 (En.msA (En.hdJ p f c j)))] [(0,.el (En.sysP p n t f) 0),(3,.el (En.cfV sx c) 0),(4,.box 1 0),(5,.box 2 0),(6,iv j),(14,iv p.msgs.length),(15,iv (j+1:Nat)),(16,bT),(22,iv p.fault),(23,bF),(35,bF)] (Zd ?_))))))))))))))
 refine ZZ ⟨j+1,by omega⟩ (show p.msgs.length-(j+1)<p.msgs.length-j by omega) ?_
 show Wk _ _ (ofL [(1,.box 76 [iv 0,iv 0,iv 0]),(2,.box 76 (En.msA (En.hdJ p f c (j+1))))]) (ofT 49 [(0,.el (En.sysP p n t f) 0),(3,.el (En.cfV sx c) 0),(4,.box 1 0),(5,.box 2 0),(14,iv p.msgs.length),(15,iv ((j+1):Nat))])
 rw [En.hdJ_skip hs2 hs3 hs4]
 exact ZC _ _ rfl (by kernel_rfl) (by kernel_rfl)
 refine Za (oC (ZY rfl (dF hs1)) I0 I0 (Ze (Zd (Zb (Zp rfl (Yq (Zz (Zz (t_hit (Zd (Zb (Za (oB (lS (En.msA (En.hdJ p f c j)) 3 5 U76) I0 rfl (ZF rfl (sB 3 4 (.tmp 48) (.agg (En.msA (En.hdJ p f c j)))) ⟨I0,I0,T0⟩ ⟨rfl,T0⟩ rfl (Ze (Zd (Zk ?_)))))))))))))))))
 refine Zs Try.results29 (.cellS rfl rfl U76 rfl (z:=3) (by kernel_rfl) rfl (by decide)) ?_
 obtain hje:j=p.msgs.length:=by omega
 rw [hje]
 exact rfl
theorem index_c (xs:List Int) (x:Int) (hx:xs.length≤9223372036854775807):Ctr Try.prog J 92 [Zc xs,iv x] (iv (idxI xs x)):=by
 refine Zy Try.func92 rfl (by intro X hX;simp only [List.mem_cons,List.not_mem_nil,or_false] at hX;rcases hX with rfl | rfl;exact Z7 _;exact .v _) (n:=19) rfl (by simp) (fun w0 => ?_)
 refine kW 19 [] [(0,Zc xs),(1,iv x)] (Zb (Za (pM (aC (.int .i64 0)) (kN 19 [] [(0,Zc xs),(1,iv x),(4,iv 0)] (Zd (Zb (Zb (Za (pM (mT 0 (Zc xs)) (oA (nS 6 U24) I0 (pM (YL (.const (.int .i64 0)) (iv 0) rfl) (kN 19 [] [(0,Zc xs),(1,iv x),(4,iv 0),(7,iv xs.length),(8,iv 0)] (Zd (ZD ?_))))))))))))))
 refine Yy (σ:={k:Nat // k≤xs.length∧noI xs x k}) (fun s=>(ofL [],ofT 19 [(0,Zc xs),(1,iv x),(7,iv xs.length),(8,iv s.1)])) (fun s=>xs.length-s.1) ⟨0,Nat.zero_le _,noI_zero _ _⟩ (ZC [] _ rfl (by kernel_rfl) (by kernel_rfl)) (fun s => ?_)
 obtain ⟨k,hk0,hs0⟩:=s
 show ETri J w0 (ofL []) (ofT 19 [(0,Zc xs),(1,iv x),(7,iv xs.length),(8,iv k)]) _
 refine Zb ?_
 by_cases hs1:((k:Nat):Int)<((xs.length:Nat):Int)
 refine Za (oC (ZY rfl (dT hs1)) I0 I0 (Ze (Zd (Zb (Zm rfl (Zn (Zd (Zb (ZD (Zb (Za (pM (mT 8 (iv k)) (pM (aT 10 (iv k)) (Ze (Zd (Zb ?_))))))))))))))))
 by_cases hs2:x=xs[k]
 refine Za (pM (mT 1 (iv x)) (pM (mT 0 (Zc xs)) (pM (mT 5 (iv k)) (oC (xS (k*1) 12 13 U24) I0 I0 (oA (lE (iv xs[k]) 14 U3 (map_at1 xs (by omega))) I0 (oC (ZA rfl (dT hs2)) I0 I0 (Ze (Zd (Zm rfl (Zb (Za (pM (mT 5 (iv k)) (pM (aT 17 (iv k)) (Ze (Zd (Zk (ZS (Zj (Zj (ZS (Zj ?_)))))))))))))))))))))
 refine Zs Try.results92 (.tmp rfl) ?_
 exact congrArg (fun x:Int=>AV.v (.int .i64 x)) (idx_yes (by omega) hs0 hs2)
 refine Za (pM (mT 1 (iv x)) (pM (mT 0 (Zc xs)) (pM (mT 5 (iv k)) (oC (xS (k*1) 12 13 U24) I0 I0 (oA (lE (iv xs[k]) 14 U3 (map_at1 xs (by omega))) I0 (oC (ZA rfl (dF hs2)) I0 I0 (Ze (Zd (Zp rfl (Zn (ZT (Zd (Za (oC (Yo (c:=((k+1:Nat):Int)) rfl (w64 (by omega) (by omega) (by omega))) I0 I0 (pM (mT 18 (iv (k+1:Nat))) (kN 19 [] [(0,Zc xs),(1,iv x),(5,iv k),(7,iv xs.length),(8,iv (k+1:Nat)),(9,bT),(16,bF)] (Zd ?_)))))))))))))))))
 refine ZZ ⟨k+1,by omega,noI_succ (by omega) hs0 hs2⟩ (show xs.length-(k+1)<xs.length-k by omega) ?_
 exact ZC [] _ rfl (by kernel_rfl) (by kernel_rfl)
 refine Za (oC (ZY rfl (dF hs1)) I0 I0 (Ze (Zd (Zb (Zp rfl (Yq (Zz (Zz (t_hit (Zd (Zb (Za (pM (aC (.int .i64 (-1))) (Ze (Zd (Zk ?_))))))))))))))))
 refine Zs Try.results92 (.tmp rfl) ?_
 exact congrArg (fun x:Int=>AV.v (.int .i64 x)) (idx_no (k:=k) (by omega) hs0)
theorem KK (xs:List Int) (x:Int) (hx:xs.length≤9223372036854775807):Ctr Try.prog J 67 [Zc xs,iv x] (bv (decide (x∈xs))):=by
 refine Zy Try.func67 rfl (by intro X hX;simp only [List.mem_cons,List.not_mem_nil,or_false] at hX;rcases hX with rfl | rfl;exact Z7 _;exact .v _) (n:=9) rfl (by simp) (fun w0 => ?_)
 refine kW 9 [] [(0,Zc xs),(1,iv x)] (Zb (Za (pM (aC (.bool false)) (Ze (Zd (Zb (Za (pM (mT 0 (Zc xs)) (pM (mT 1 (iv x)) (oD (sc #[.tmp 5,.tmp 6] [] (index_c xs x hx) [Zc xs,iv x] rfl rfl rfl) I0 I0 I0 (oC (Y0 rfl rfl) I0 I0 (pM (aT 8 (bv (decide (0≤idxI xs x)))) (Ze (Zd (Zk ?_)))))))))))))))
 refine Zs Try.results67 (.tmp rfl) ?_
 exact congrArg (fun b:Bool=>AV.v (.bool b)) (idx_has xs x)
theorem En.or_t {a b:Prop} [Decidable a] [Decidable b] (h:(decide a||decide b)=true):a∨b:=by simpa using h
theorem En.or_f {a b:Prop} [Decidable a] [Decidable b] (h:(decide a||decide b)=false):¬ (a∨b):=by simpa using h
theorem En.isP_in {m:Nat} {x:Int} (h:En.isP m x=true):0≤x∧x<((m:Nat):Int):=by
  unfold En.isP at h
  simpa using h
set_option maxRecDepth 100000 in
set_option maxHeartbeats 6400000 in
theorem partFits_c {p:Fm} {n t f:Int} {c:Cf} (hn:(Ns.cntE p n f)=((c.st.length:Nat):Int)) (l8:c.st.length≤8) {sx:Int} {r:Nat} (hr:r<p.rules.length) {i:Nat} (hi:i<c.st.length) {kp:Int}:Ctr Try.prog J 47 [.el (En.sysP p n t f) 0,.agg (En.cfV sx c),.el (p.rules.flatMap cRu) (r*18),.agg [iv r,iv i,iv kp]] (bv (En.ptB c p.rules[r] i kp)):=by
 refine Zy Try.func47 rfl (by intro X hX;simp only [List.mem_cons,List.not_mem_nil,or_false] at hX;rcases hX with rfl | rfl | rfl | rfl;exact (show Plain (.el (En.sysP p n t f) 0) from .el (ZQ (En.plain_sysP p n t f)));exact Zi (En.plain_cfV _ c);exact (.el (ZQ fun X hX=>by obtain ⟨x,_,hx⟩:=List.mem_flatMap.1 hX;exact Y3 x X hx));exact Zi (fun X hX=>by simp only [List.mem_cons,List.not_mem_nil,or_false] at hX;rcases hX with rfl | rfl | rfl<;>exact .v _)) (n:=38) rfl (by simp) (fun w0 => ?_)
 refine kW 38 [] [(0,.el (En.sysP p n t f) 0),(1,.agg (En.cfV sx c)),(2,.el (p.rules.flatMap cRu) (r*18)),(3,.agg [iv r,iv i,iv kp])] (Zb (Za (oA (ZV (X := .agg (En.cfV sx c)) (.tmp 1) rfl rfl rfl) I0 (oA (ZV (X := .agg [iv r,iv i,iv kp]) (.tmp 3) rfl rfl rfl) I0 (pM (aC (.bool false)) (Ze (Zd (Zb (Zb ?_)))))))))
 by_cases hs1:(decide (p.rules[r].kind=2)||decide (p.rules[r].kind=5))=true
 refine Za (pM (mT 2 (.el (p.rules.flatMap cRu) (r*18))) (oC (sc #[.tmp 9] [] (Yd (hasPart_c hr) hs1) [.el (p.rules.flatMap cRu) (r*18)] rfl rfl rfl) I0 I0 (oA (Ya rfl rfl) I0 (Ze (Zd (Zp rfl (Zn (Zd (Zb ?_)))))))))
 by_cases hs2:(En.isP c.st.length kp)=true
 have hk0:=En.isP_in hs2
 by_cases hs3:kp=((i:Nat):Int)
 refine Zo (dM (mT 0 (.el (En.sysP p n t f) 0)) (dA (fe 2 7 U35 1) I0 (dA (lE (iv kp) 16 U3) I0 (dD (sc #[.tmp 15,.tmp 17] [] (Yd (isProc_c hn) hs2) [.el (En.sysP p n t f) 0,iv kp] rfl rfl rfl) I0 I0 I0 (dM (mT 18 bT) (dA (fe 2 7 U35 1) I0 (dA (lE (iv kp) 20 U3) I0 (dA (fe 1 7 U35 1) I0 (dA (lE (iv i) 22 U3) I0 (dC (Z0 rfl (dT' hs3)) I0 I0 (dP (pk true bF bF rfl) (dM (mT 25 bF) (dK (dK (dK (dK (dK (dK (dK (dK (dK (dK (dP (pk false (.v (.tuple #[])) bF rfl) (dM (aT 37 bF) (dE ?_))))))))))))))))))))))))) (by kernel_rfl)
 show ETri J w0 _ _ _
 refine Zd (Zk ?_)
 refine Zs Try.results47 (.tmp rfl) ?_
 rw [show En.ptB c p.rules[r] i kp=_ from if_pos (En.or_t hs1)]
 exact congrArg (fun x:Bool=>AV.v (.bool x)) ((by simp only [hs2,hs3,decide_true,decide_false,Bool.and_true,Bool.true_and,Bool.false_and,Bool.and_false,Bool.true_or,Bool.false_or,Bool.or_true,Bool.or_false,Bool.not_true,Bool.not_false]))
 refine Zo (dM (mT 0 (.el (En.sysP p n t f) 0)) (dA (fe 2 7 U35 1) I0 (dA (lE (iv kp) 16 U3) I0 (dD (sc #[.tmp 15,.tmp 17] [] (Yd (isProc_c hn) hs2) [.el (En.sysP p n t f) 0,iv kp] rfl rfl rfl) I0 I0 I0 (dM (mT 18 bT) (dA (fe 2 7 U35 1) I0 (dA (lE (iv kp) 20 U3) I0 (dA (fe 1 7 U35 1) I0 (dA (lE (iv i) 22 U3) I0 (dC (Z0 rfl (dF' hs3)) I0 I0 (dP (pk true bT bF rfl) (dM (mT 25 bT) (dA (fe 2 7 U35 1) I0 (dA (lE (iv kp) 27 U3) I0 (dA (fe 1 5 U78 8) I0 (dC (Z5 (off':=1+kp.toNat*1) (.tmp 29) (.tmp 28) rfl U74 (by kernel_rfl) (by omega) (by omega) rfl) I0 I0 (dA (lE (iv (c.st.getD kp.toNat 0)) 30 U3 (En.cfV_st (by omega))) I0 (dM (mT 2 (.el (p.rules.flatMap cRu) (r*18))) (dA (Zl (off:=r*18) (.tmp 32) rfl) I0 (dA (fe (r*18+4) 33 U65 1) I0 (dA (lE (iv p.rules[r].pf) 34 U3 ((Zu lenRu p.rules r 4 (by omega) (by decide)).trans rfl)) I0 (dC (ZA rfl rfl) I0 I0 (dP (pk true (bv (decide ((c.st.getD kp.toNat 0)=p.rules[r].pf))) bF rfl) (dM (aT 37 (bv (decide ((c.st.getD kp.toNat 0)=p.rules[r].pf)))) (dE ?_))))))))))))))))))))))))) (by kernel_rfl)
 show ETri J w0 _ _ _
 refine Zd (Zk ?_)
 refine Zs Try.results47 (.tmp rfl) ?_
 rw [show En.ptB c p.rules[r] i kp=_ from if_pos (En.or_t hs1)]
 exact congrArg (fun x:Bool=>AV.v (.bool x)) ((by simp only [hs2,hs3,decide_true,decide_false,Bool.and_true,Bool.true_and,Bool.false_and,Bool.and_false,Bool.true_or,Bool.false_or,Bool.or_true,Bool.or_false,Bool.not_true,Bool.not_false]))
 have hs2f:(En.isP c.st.length kp)=false:=by simpa using hs2
 refine Zo (dM (mT 0 (.el (En.sysP p n t f) 0)) (dA (fe 2 7 U35 1) I0 (dA (lE (iv kp) 16 U3) I0 (dD (sc #[.tmp 15,.tmp 17] [] (Yd (isProc_c hn) hs2f) [.el (En.sysP p n t f) 0,iv kp] rfl rfl rfl) I0 I0 I0 (dM (mT 18 bF) (dK (dK (dK (dK (dK (dP (pk false (.v (.tuple #[])) bF rfl) (dM (mT 25 bF) (dK (dK (dK (dK (dK (dK (dK (dK (dK (dK (dP (pk false (.v (.tuple #[])) bF rfl) (dM (aT 37 bF) (dE ?_))))))))))))))))))))))))) (by kernel_rfl)
 show ETri J w0 _ _ _
 refine Zd (Zk ?_)
 refine Zs Try.results47 (.tmp rfl) ?_
 rw [show En.ptB c p.rules[r] i kp=_ from if_pos (En.or_t hs1)]
 exact congrArg (fun x:Bool=>AV.v (.bool x)) ((by simp only [hs2f,decide_true,decide_false,Bool.and_true,Bool.true_and,Bool.false_and,Bool.and_false,Bool.true_or,Bool.false_or,Bool.or_true,Bool.or_false,Bool.not_true,Bool.not_false]))
 have hs1f:(decide (p.rules[r].kind=2)||decide (p.rules[r].kind=5))=false:=by simpa using hs1
 refine Za (pM (mT 2 (.el (p.rules.flatMap cRu) (r*18))) (oC (sc #[.tmp 9] [] (Yd (hasPart_c hr) hs1f) [.el (p.rules.flatMap cRu) (r*18)] rfl rfl rfl) I0 I0 (oA (Ya rfl rfl) I0 (Ze (Zd (Zm rfl (Zb (Za (oA (fe 2 7 U35 1) I0 (oA (lE (iv kp) 12 U3) I0 (oC (ZA rfl rfl) I0 I0 (pM (aT 14 (bv (decide (kp=(-1))))) (Ze (Zd (Zk (Zj ?_))))))))))))))))
 refine Zs Try.results47 (.tmp rfl) ?_
 rw [show En.ptB c p.rules[r] i kp=_ from if_neg (En.or_f hs1f)]
 exact rfl
set_option maxRecDepth 100000 in
set_option maxHeartbeats 6400000 in
theorem localH_c {p:Fm} {n t f:Int} {c:Cf} (hn:(Ns.cntE p n f)=((c.st.length:Nat):Int)) (l8:c.st.length≤8) {sx:Int} {r:Nat} (hr:r<p.rules.length) {i:Nat} (hi:i<c.st.length) {kp:Int} {g:Nat→Int} (hg:∀ m,0≤g m∧g m≤3000000) (h8:p.rules.length≤8) (h3:p.msgs.length≤3) (hg2:p.rules[r].guards.length≤2) (hgd:∀ q∈p.rules[r].guards,0≤q.msg∧q.msg<p.msgs.length∧1≤q.coef∧q.coef≤100) (le:p.rules[r].ex.length≤9223372036854775807) (lf:p.rules[r].fa.length≤9223372036854775807):Ctr Try.prog J 48 [.el (En.sysP p n t f) 0,.agg (En.cfV sx c),.agg [iv r,iv i,iv kp],.agg (En.msA g)] (bv (En.loB n t f c p.rules[r] g i)):=by
 refine Zy Try.func48 rfl (by intro X hX;simp only [List.mem_cons,List.not_mem_nil,or_false] at hX;rcases hX with rfl | rfl | rfl | rfl;exact (show Plain (.el (En.sysP p n t f) 0) from .el (ZQ (En.plain_sysP p n t f)));exact Zi (En.plain_cfV _ c);exact Zi (fun X hX=>by simp only [List.mem_cons,List.not_mem_nil,or_false] at hX;rcases hX with rfl | rfl | rfl<;>exact .v _);exact Zi (En.plain_msA _)) (n:=113) rfl (by simp) (fun w0 => ?_)
 refine kW 113 [] [(0,.el (En.sysP p n t f) 0),(1,.agg (En.cfV sx c)),(2,.agg [iv r,iv i,iv kp]),(3,.agg (En.msA g))] (Zb (Za (oA (ZV (X := .agg (En.cfV sx c)) (.tmp 1) rfl rfl rfl) I0 (oA (ZV (X := .agg [iv r,iv i,iv kp]) (.tmp 2) rfl rfl rfl) I0 (oA (ZV (X := .agg (En.msA g)) (.tmp 3) rfl rfl rfl) I0 (pM (aC (.bool false)) (Ze (Zd (Zb ?_)))))))))
 refine Zo (dM (mT 0 (.el (En.sysP p n t f) 0)) (dA (Zl (off:=0) (.tmp 15) rfl) I0 (dA (fe 0 16 U111 10) I0 (dA (fe 9 17 U27 1) I0 (dA (lE (slA 18 cRu p.rules) 18 U25) I0 (dA (fe 0 6 U35 1) I0 (dA (lE (iv r) 20 U3) I0 (dC (xS (r*18) 19 21 U25) I0 I0 (dM (aT 22 (.el (p.rules.flatMap cRu) (r*18))) (dE ?_)))))))))) (by kernel_rfl)
 show ETri J w0 _ _ _
 refine kW 113 [] [(0,.el (En.sysP p n t f) 0),(5,.el (En.cfV sx c) 0),(6,.el ([iv r,iv i,iv kp]) 0),(7,.el (En.msA g) 0),(8,bF),(9,.el (p.rules.flatMap cRu) (r*18))] (Zd (Zb (Zb ?_)))
 refine t_cut (True) (ofL []) (ofT 113 [(0,.el (En.sysP p n t f) 0),(5,.el (En.cfV sx c) 0),(6,.el ([iv r,iv i,iv kp]) 0),(7,.el (En.msA g) 0),(8,bF),(9,.el (p.rules.flatMap cRu) (r*18)),(36,bv (En.rdN c p.rules[r]))]) ?_ (fun _ => ?_)
 by_cases hs1:0≤p.rules[r].rd
 by_cases hs2:c.val=p.rules[r].rd
 refine Zo (dM (mT 9 (.el (p.rules.flatMap cRu) (r*18))) (dA (Zl (off:=r*18) (.tmp 23) rfl) I0 (dA (fe (r*18+10) 24 U65 1) I0 (dA (lE (iv p.rules[r].rd) 25 U3 ((Zu lenRu p.rules r 10 (by omega) (by decide)).trans rfl)) I0 (dC (Y0 rfl (dT hs1)) I0 I0 (dM (mT 27 bT) (dA (fe 15 5 U78 1) I0 (dA (lE (iv c.val) 29 U3) I0 (dM (mT 9 (.el (p.rules.flatMap cRu) (r*18))) (dA (Zl (off:=r*18) (.tmp 31) rfl) I0 (dA (fe (r*18+10) 32 U65 1) I0 (dA (lE (iv p.rules[r].rd) 33 U3 ((Zu lenRu p.rules r 10 (by omega) (by decide)).trans rfl)) I0 (dC (Z0 rfl (dT' hs2)) I0 I0 (dP (pk true bF bF rfl) (dE ?_))))))))))))))) (by kernel_rfl)
 show ETri J w0 _ _ _
 refine kW 113 [] [(0,.el (En.sysP p n t f) 0),(5,.el (En.cfV sx c) 0),(6,.el ([iv r,iv i,iv kp]) 0),(7,.el (En.msA g) 0),(8,bF),(9,.el (p.rules.flatMap cRu) (r*18)),(36,bF)] ?_
 rw [show (En.rdN c p.rules[r])=false by unfold En.rdN;simp only [dT hs1,dT hs2,decide_true,decide_false,Bool.and_true,Bool.true_and,Bool.false_and,Bool.and_false,Bool.true_or,Bool.false_or,Bool.or_true,Bool.or_false,Bool.not_true,Bool.not_false]]
 exact YV T0 (ZC [] _ rfl (by kernel_rfl) (by kernel_rfl))
 refine Zo (dM (mT 9 (.el (p.rules.flatMap cRu) (r*18))) (dA (Zl (off:=r*18) (.tmp 23) rfl) I0 (dA (fe (r*18+10) 24 U65 1) I0 (dA (lE (iv p.rules[r].rd) 25 U3 ((Zu lenRu p.rules r 10 (by omega) (by decide)).trans rfl)) I0 (dC (Y0 rfl (dT hs1)) I0 I0 (dM (mT 27 bT) (dA (fe 15 5 U78 1) I0 (dA (lE (iv c.val) 29 U3) I0 (dM (mT 9 (.el (p.rules.flatMap cRu) (r*18))) (dA (Zl (off:=r*18) (.tmp 31) rfl) I0 (dA (fe (r*18+10) 32 U65 1) I0 (dA (lE (iv p.rules[r].rd) 33 U3 ((Zu lenRu p.rules r 10 (by omega) (by decide)).trans rfl)) I0 (dC (Z0 rfl (dF' hs2)) I0 I0 (dP (pk true bT bF rfl) (dE ?_))))))))))))))) (by kernel_rfl)
 show ETri J w0 _ _ _
 refine kW 113 [] [(0,.el (En.sysP p n t f) 0),(5,.el (En.cfV sx c) 0),(6,.el ([iv r,iv i,iv kp]) 0),(7,.el (En.msA g) 0),(8,bF),(9,.el (p.rules.flatMap cRu) (r*18)),(36,bT)] ?_
 rw [show (En.rdN c p.rules[r])=true by unfold En.rdN;simp only [dT hs1,dF hs2,decide_true,decide_false,Bool.and_true,Bool.true_and,Bool.false_and,Bool.and_false,Bool.true_or,Bool.false_or,Bool.or_true,Bool.or_false,Bool.not_true,Bool.not_false]]
 exact YV T0 (ZC [] _ rfl (by kernel_rfl) (by kernel_rfl))
 refine Zo (dM (mT 9 (.el (p.rules.flatMap cRu) (r*18))) (dA (Zl (off:=r*18) (.tmp 23) rfl) I0 (dA (fe (r*18+10) 24 U65 1) I0 (dA (lE (iv p.rules[r].rd) 25 U3 ((Zu lenRu p.rules r 10 (by omega) (by decide)).trans rfl)) I0 (dC (Y0 rfl (dF hs1)) I0 I0 (dM (mT 27 bF) (dK (dK (dK (dK (dK (dK (dK (dP (pk false (.v (.tuple #[])) bF rfl) (dE ?_))))))))))))))) (by kernel_rfl)
 show ETri J w0 _ _ _
 refine kW 113 [] [(0,.el (En.sysP p n t f) 0),(5,.el (En.cfV sx c) 0),(6,.el ([iv r,iv i,iv kp]) 0),(7,.el (En.msA g) 0),(8,bF),(9,.el (p.rules.flatMap cRu) (r*18)),(36,bF)] ?_
 rw [show (En.rdN c p.rules[r])=false by unfold En.rdN;simp only [dF hs1,decide_true,decide_false,Bool.and_true,Bool.true_and,Bool.false_and,Bool.and_false,Bool.true_or,Bool.false_or,Bool.or_true,Bool.or_false,Bool.not_true,Bool.not_false]]
 exact YV T0 (ZC [] _ rfl (by kernel_rfl) (by kernel_rfl))
 refine Zd ?_
 by_cases hs3:(En.rdN c p.rules[r])=true
 rw [hs3]
 refine kW 113 [] [(0,.el (En.sysP p n t f) 0),(5,.el (En.cfV sx c) 0),(6,.el ([iv r,iv i,iv kp]) 0),(7,.el (En.msA g) 0),(8,bF),(9,.el (p.rules.flatMap cRu) (r*18)),(36,bT)] (Zm rfl (Zb (Za (pM (aC (.bool false)) (Ze (Zd (Zk (Zj ?_))))))))
 refine Zs Try.results48 (.tmp rfl) ?_
 exact congrArg (fun x:Bool=>AV.v (.bool x)) ((En.lo_rd hs3).symm)
 have hs3f:(En.rdN c p.rules[r])=false:=by simpa using hs3
 rw [hs3f]
 refine kW 113 [] [(0,.el (En.sysP p n t f) 0),(5,.el (En.cfV sx c) 0),(6,.el ([iv r,iv i,iv kp]) 0),(7,.el (En.msA g) 0),(8,bF),(9,.el (p.rules.flatMap cRu) (r*18)),(36,bF)] (Zp rfl (Zn (Zd (Zb (Zb (Za (pM (mT 9 (.el (p.rules.flatMap cRu) (r*18))) (oA (Zl (off:=r*18) (.tmp 37) rfl) I0 (oA (fe (r*18+7) 38 U65 1) I0 (oA (lE (slA 6 cTh p.rules[r].guards) 39 U63 ((Zu lenRu p.rules r 7 (by omega) (by decide)).trans rfl)) I0 (oA (nS 40 U63) I0 (pM (YL (.const (.int .i64 0)) (iv 0) rfl) (kN 113 [] [(0,.el (En.sysP p n t f) 0),(5,.el (En.cfV sx c) 0),(6,.el ([iv r,iv i,iv kp]) 0),(7,.el (En.msA g) 0),(8,bF),(9,.el (p.rules.flatMap cRu) (r*18)),(40,slA 6 cTh p.rules[r].guards),(41,iv (p.rules[r].guards.length:Nat)),(42,iv 0)] (Zd (ZD ?_)))))))))))))))
 refine Yy (σ:={k:Nat // k≤p.rules[r].guards.length∧Rd.noP p.rules[r].guards (En.gdN n t f g) k}) (fun s=>(ofL [],ofT 113 [(0,.el (En.sysP p n t f) 0),(5,.el (En.cfV sx c) 0),(6,.el ([iv r,iv i,iv kp]) 0),(7,.el (En.msA g) 0),(9,.el (p.rules.flatMap cRu) (r*18)),(40,slA 6 cTh p.rules[r].guards),(41,iv (p.rules[r].guards.length:Nat)),(42,iv s.1)])) (fun s=>p.rules[r].guards.length-s.1) ⟨0,Nat.zero_le _,Rd.noP_zero _ _⟩ (ZC [] _ rfl (by kernel_rfl) (by kernel_rfl)) (fun s => ?_)
 obtain ⟨k,hk0,hs0⟩:=s
 show ETri J w0 (ofL []) (ofT 113 [(0,.el (En.sysP p n t f) 0),(5,.el (En.cfV sx c) 0),(6,.el ([iv r,iv i,iv kp]) 0),(7,.el (En.msA g) 0),(9,.el (p.rules.flatMap cRu) (r*18)),(40,slA 6 cTh p.rules[r].guards),(41,iv (p.rules[r].guards.length:Nat)),(42,iv k)]) _
 refine Zb ?_
 by_cases hs4:((k:Nat):Int)<((p.rules[r].guards.length:Nat):Int)
 have hk1:k<p.rules[r].guards.length:=by omega
 have hgk:=hgd _ (List.getElem_mem hk1)
 have hgb:=hg p.rules[r].guards[k].msg.toNat
 refine Za (oC (ZY rfl (dT hs4)) I0 I0 (Ze (Zd (Zb (Zm rfl (Zn (Zd (Zb (ZD (Zb (Za (pM (mT 42 (iv k)) (oC (xS (k*6) 40 42 U63) I0 I0 (oA (Zq (z:=6) (.tmp 45) rfl U128 rfl (by kernel_rfl) (flat_take lenTh p.rules[r].guards k (by omega)) rfl) I0 (ZF rfl (ZJ (z := .agg #[.int .i64 0,.int .i64 0,.int .i64 0,.int .i64 0,.int .i64 0,.int .i64 0]) (k:=1) rfl (by kernel_rfl)) T0 T0 rfl (pM (aT 44 (iv k)) (ZF rfl (sB 6 11 (.tmp 46) (.agg (cTh p.rules[r].guards[k]))) ⟨I0,I0,T0⟩ ⟨rfl,T0⟩ rfl (Ze (Zd (Zb ?_))))))))))))))))))))
 by_cases hs5:p.rules[r].guards[k].coef*(g p.rules[r].guards[k].msg.toNat)<(En.gbV p.rules[r] n t f k)
 refine Zo (dA (fb 1 11 U128 1) I0 (dB (lb (iv p.rules[r].guards[k].coef) 47 U3) I0 rfl (dA (fb 0 11 U128 1) I0 (dB (lb (iv p.rules[r].guards[k].msg) 49 U3) I0 rfl (dC (Z5 (off':=0+p.rules[r].guards[k].msg.toNat*1) (.tmp 7) (.tmp 50) rfl U76 (by kernel_rfl) (by omega) (by omega) rfl) I0 I0 (dA (lE (iv (g p.rules[r].guards[k].msg.toNat)) 51 U3 (En.msA_get (by omega))) I0 (dC (sp_mul (c:=p.rules[r].guards[k].coef*(g p.rules[r].guards[k].msg.toNat)) rfl (En.mulW hgk.2.2.1 hgk.2.2.2 hgb.1 hgb.2)) I0 I0 (dM (mT 0 (.el (En.sysP p n t f) 0)) (dA (fe 0 6 U35 1) I0 (dA (lE (iv r) 55 U3) I0 (dM (mT 10 (iv k)) (dA (Zl (off:=0) (.tmp 54) rfl) I0 (dA (fe 15 58 U111 16) I0 (dC (Z5 (off':=15+r*2) (.tmp 59) (.tmp 56) rfl U108 (by kernel_rfl) (by omega) (by omega) rfl) I0 I0 (dC (Z5 (off':=15+r*2+k*1) (.tmp 60) (.tmp 57) rfl U107 (by kernel_rfl) (by omega) (by omega) rfl) I0 I0 (dA (lE (iv (En.gbV p.rules[r] n t f k)) 61 U3 (En.sysP_bd hr h8 hk1 hg2)) I0 (dC (ZY rfl (dT hs5)) I0 I0 (dE ?_)))))))))))))))))) (by kernel_rfl)
 show ETri J w0 _ _ _
 refine kW 113 [(1,.box 128 (cTh p.rules[r].guards[k]))] [(0,.el (En.sysP p n t f) 0),(5,.el (En.cfV sx c) 0),(6,.el ([iv r,iv i,iv kp]) 0),(7,.el (En.msA g) 0),(9,.el (p.rules.flatMap cRu) (r*18)),(10,iv k),(11,.box 1 0),(40,slA 6 cTh p.rules[r].guards),(41,iv (p.rules[r].guards.length:Nat)),(42,iv k),(43,bT),(63,bT)] (Zd (Zm rfl (Zb (Za (pM (aC (.bool false)) (Ze (Zd (Zk (ZS (Zj (Zj (ZS (Zj ?_)))))))))))))
 refine Zs Try.results48 (.tmp rfl) ?_
 exact congrArg (fun x:Bool=>AV.v (.bool x)) ((En.lo_gd hk1 hs5).symm)
 refine Zo (dA (fb 1 11 U128 1) I0 (dB (lb (iv p.rules[r].guards[k].coef) 47 U3) I0 rfl (dA (fb 0 11 U128 1) I0 (dB (lb (iv p.rules[r].guards[k].msg) 49 U3) I0 rfl (dC (Z5 (off':=0+p.rules[r].guards[k].msg.toNat*1) (.tmp 7) (.tmp 50) rfl U76 (by kernel_rfl) (by omega) (by omega) rfl) I0 I0 (dA (lE (iv (g p.rules[r].guards[k].msg.toNat)) 51 U3 (En.msA_get (by omega))) I0 (dC (sp_mul (c:=p.rules[r].guards[k].coef*(g p.rules[r].guards[k].msg.toNat)) rfl (En.mulW hgk.2.2.1 hgk.2.2.2 hgb.1 hgb.2)) I0 I0 (dM (mT 0 (.el (En.sysP p n t f) 0)) (dA (fe 0 6 U35 1) I0 (dA (lE (iv r) 55 U3) I0 (dM (mT 10 (iv k)) (dA (Zl (off:=0) (.tmp 54) rfl) I0 (dA (fe 15 58 U111 16) I0 (dC (Z5 (off':=15+r*2) (.tmp 59) (.tmp 56) rfl U108 (by kernel_rfl) (by omega) (by omega) rfl) I0 I0 (dC (Z5 (off':=15+r*2+k*1) (.tmp 60) (.tmp 57) rfl U107 (by kernel_rfl) (by omega) (by omega) rfl) I0 I0 (dA (lE (iv (En.gbV p.rules[r] n t f k)) 61 U3 (En.sysP_bd hr h8 hk1 hg2)) I0 (dC (ZY rfl (dF hs5)) I0 I0 (dE ?_)))))))))))))))))) (by kernel_rfl)
 show ETri J w0 _ _ _
 refine kW 113 [(1,.box 128 (cTh p.rules[r].guards[k]))] [(0,.el (En.sysP p n t f) 0),(5,.el (En.cfV sx c) 0),(6,.el ([iv r,iv i,iv kp]) 0),(7,.el (En.msA g) 0),(9,.el (p.rules.flatMap cRu) (r*18)),(10,iv k),(11,.box 1 0),(40,slA 6 cTh p.rules[r].guards),(41,iv (p.rules[r].guards.length:Nat)),(42,iv k),(43,bT),(63,bF)] (Zd (Zp rfl (Zn (ZT (Zd (Za (oC (Yo (c:=((k+1:Nat):Int)) rfl (w64 (by omega) (by omega) (by omega))) I0 I0 (pM (mT 64 (iv (k+1:Nat))) (kN 113 [(1,.box 128 (cTh p.rules[r].guards[k]))] [(0,.el (En.sysP p n t f) 0),(5,.el (En.cfV sx c) 0),(6,.el ([iv r,iv i,iv kp]) 0),(7,.el (En.msA g) 0),(9,.el (p.rules.flatMap cRu) (r*18)),(10,iv k),(11,.box 1 0),(40,slA 6 cTh p.rules[r].guards),(41,iv (p.rules[r].guards.length:Nat)),(42,iv (k+1:Nat)),(43,bT),(63,bF)] (Zd ?_))))))))))
 refine ZZ ⟨k+1,by omega,Rd.noP_succ hk1 hs0 (En.gd_no hk1 hs5)⟩ (show p.rules[r].guards.length-(k+1)<p.rules[r].guards.length-k by omega) ?_
 exact ZC [] _ rfl (by kernel_rfl) (by kernel_rfl)
 refine Za (oC (ZY rfl (dF hs4)) I0 I0 (Ze (Zd (Zb (Zp rfl (Yq (Zz (Zz (t_hit (Zd (Zb (Za (pM (mT 9 (.el (p.rules.flatMap cRu) (r*18))) (oA (Zl (off:=r*18) (.tmp 65) rfl) I0 (oA (fe (r*18+8) 66 U65 1) I0 (oA (lE (Zc p.rules[r].ex) 67 U24 ((Zu lenRu p.rules r 8 (by omega) (by decide)).trans rfl)) I0 (oA (nS 68 U24) I0 (oC (ZA rfl rfl) I0 I0 (pM (aT 70 (bv (decide (((p.rules[r].ex.length:Nat):Int)=0)))) (Ze (Zd (Zb (Zb ?_)))))))))))))))))))))))
 refine Za (oA (fe 1 5 U78 8) I0 (pM (mT 0 (.el (En.sysP p n t f) 0)) (oA (Zl (off:=0) (.tmp 72) rfl) I0 (oA (fe 13 73 U111 1) I0 (oA (lE (iv (Ns.cntE p n f)) 74 U3) I0 (oC (Kf (n:=c.st.length) (off:=1) (ds:=(c.st.map iv)) (.tmp 71) (.tmp 75) rfl U74 (by kernel_rfl) (by omega) (by kernel_rfl) (by unfold maxLen;omega) (by show _≤16;omega) (En.cfV_row l8) hn) I0 I0 (oA (nS 76 U24) I0 (pM (YL (.const (.int .i64 0)) (iv 0) rfl) (kN 113 [] [(6,.el ([iv r,iv i,iv kp]) 0),(9,.el (p.rules.flatMap cRu) (r*18)),(12,bv (decide (((p.rules[r].ex.length:Nat):Int)=0))),(76,Zc c.st),(77,iv c.st.length),(78,iv 0)] (Zd (ZD ?_)))))))))))
 rw [← En.exU_zero (c:=c) (i:=i)]
 refine Yy (σ:={j:Nat // j≤c.st.length∧En.noF c p.rules[r] i j}) (fun s=>(ofL [],ofT 113 [(6,.el ([iv r,iv i,iv kp]) 0),(9,.el (p.rules.flatMap cRu) (r*18)),(12,bv (En.exU c p.rules[r] i s.1)),(76,Zc c.st),(77,iv c.st.length),(78,iv s.1)])) (fun s=>c.st.length-s.1) ⟨0,Nat.zero_le _,En.noF_zero⟩ (ZC [] _ rfl (by kernel_rfl) (by kernel_rfl)) (fun s => ?_)
 obtain ⟨j,hj0,hnf⟩:=s
 show ETri J w0 (ofL []) (ofT 113 [(6,.el ([iv r,iv i,iv kp]) 0),(9,.el (p.rules.flatMap cRu) (r*18)),(12,bv (En.exU c p.rules[r] i j)),(76,Zc c.st),(77,iv c.st.length),(78,iv j)]) _
 refine Zb ?_
 by_cases hs6:((j:Nat):Int)<((c.st.length:Nat):Int)
 have hj1:j<c.st.length:=by omega
 refine Za (oC (ZY rfl (dT hs6)) I0 I0 (Ze (Zd (Zb (Zm rfl (Zn (Zd (Zb (ZD (Zb (Za (pM (mT 78 (iv j)) (oC (xS (j*1) 76 78 U24) I0 I0 (oA (lE (iv c.st[j]) 81 U3 (map_at1 c.st (by omega))) I0 (pM (aT 80 (iv j)) (pM (aT 82 (iv c.st[j])) (Ze (Zd (Zb (Zb ?_))))))))))))))))))))
 by_cases hs7:((j:Nat):Int)=((i:Nat):Int)
 refine Za (pM (mT 13 (iv j)) (oA (fe 1 6 U35 1) I0 (oA (lE (iv i) 84 U3) I0 (oC (ZA rfl (dT hs7)) I0 I0 (Ze (Zd (Zm rfl (Yq (Zz (t_hit (Zd (Za (oC (Yo (c:=((j+1:Nat):Int)) rfl (w64 (by omega) (by omega) (by omega))) I0 I0 (pM (mT 111 (iv (j+1:Nat))) (kN 113 [] [(6,.el ([iv r,iv i,iv kp]) 0),(9,.el (p.rules.flatMap cRu) (r*18)),(12,bv (En.exU c p.rules[r] i j)),(13,iv j),(14,iv c.st[j]),(76,Zc c.st),(77,iv c.st.length),(78,iv (j+1:Nat)),(79,bT),(86,bT)] (Zd ?_))))))))))))))))
 refine ZZ ⟨j+1,by omega,En.noF_succ hnf (En.fa_same (by omega))⟩ (show c.st.length-(j+1)<c.st.length-j by omega) ?_
 show Wk _ _ (ofL []) (ofT 113 [(6,.el ([iv r,iv i,iv kp]) 0),(9,.el (p.rules.flatMap cRu) (r*18)),(12,bv (En.exU c p.rules[r] i (j+1))),(76,Zc c.st),(77,iv c.st.length),(78,iv ((j+1):Nat))])
 rw [En.exU_same (by omega)]
 exact ZC [] _ rfl (by kernel_rfl) (by kernel_rfl)
 refine Za (pM (mT 13 (iv j)) (oA (fe 1 6 U35 1) I0 (oA (lE (iv i) 84 U3) I0 (oC (ZA rfl (dF hs7)) I0 I0 (Ze (Zd (Zp rfl (Zn (Zd (Zb (Zb ?_)))))))))))
 by_cases hs8:0<((p.rules[r].fa.length:Nat):Int)
 by_cases hs9:(decide (c.st[j]∈p.rules[r].fa))=true
 refine Za (pM (mT 9 (.el (p.rules.flatMap cRu) (r*18))) (oA (Zl (off:=r*18) (.tmp 87) rfl) I0 (oA (fe (r*18+9) 88 U65 1) I0 (oA (lE (Zc p.rules[r].fa) 89 U24 ((Zu lenRu p.rules r 9 (by omega) (by decide)).trans rfl)) I0 (oA (nS 90 U24) I0 (oC (sp_gtr rfl (dT hs8)) I0 I0 (pM (mT 92 bT) (qM (mT 9 (.el (p.rules.flatMap cRu) (r*18))) (gA (Zl (off:=r*18) (.tmp 94) rfl) I0 (gA (fe (r*18+9) 95 U65 1) I0 (gA (lE (Zc p.rules[r].fa) 96 U24 ((Zu lenRu p.rules r 9 (by omega) (by decide)).trans rfl)) I0 (qM (mT 14 (iv c.st[j])) (gD (sc #[.tmp 97,.tmp 98] [] (Yd (KK p.rules[r].fa c.st[j] lf) hs9) [Zc p.rules[r].fa,iv c.st[j]] rfl rfl rfl) I0 I0 I0 (gA (Ya rfl rfl) I0 (pP (pk true bF bF rfl) (Ze (Zd (Zp rfl (Zn (Zd ?_))))))))))))))))))))
 by_cases hs10:(En.exU c p.rules[r] i j)=true
 rw [hs10]
 refine kW 113 [] [(6,.el ([iv r,iv i,iv kp]) 0),(9,.el (p.rules.flatMap cRu) (r*18)),(12,bT),(13,iv j),(14,iv c.st[j]),(76,Zc c.st),(77,iv c.st.length),(78,iv j),(79,bT),(86,bF),(101,bF)] (Za (pM (mT 12 bT) (pM (mT 102 bT) (qK (qK (qK (qK (qK (qK (pP (pk true bT (.v (.tuple #[])) rfl) (pM (aT 110 bT) (Ze (ZT (Zd (Za (oC (Yo (c:=((j+1:Nat):Int)) rfl (w64 (by omega) (by omega) (by omega))) I0 I0 (pM (mT 111 (iv (j+1:Nat))) (kN 113 [] [(6,.el ([iv r,iv i,iv kp]) 0),(9,.el (p.rules.flatMap cRu) (r*18)),(12,bT),(13,iv j),(14,iv c.st[j]),(76,Zc c.st),(77,iv c.st.length),(78,iv (j+1:Nat)),(79,bT),(86,bF),(101,bF)] (Zd ?_)))))))))))))))))))
 refine ZZ ⟨j+1,by omega,En.noF_succ hnf (En.fa_in hj1 hs9)⟩ (show c.st.length-(j+1)<c.st.length-j by omega) ?_
 show Wk _ _ (ofL []) (ofT 113 [(6,.el ([iv r,iv i,iv kp]) 0),(9,.el (p.rules.flatMap cRu) (r*18)),(12,bv (En.exU c p.rules[r] i (j+1))),(76,Zc c.st),(77,iv c.st.length),(78,iv ((j+1):Nat))])
 rw [En.exU_t hs10]
 exact ZC [] _ rfl (by kernel_rfl) (by kernel_rfl)
 have hs10f:(En.exU c p.rules[r] i j)=false:=by simpa using hs10
 rw [hs10f]
 refine kW 113 [] [(6,.el ([iv r,iv i,iv kp]) 0),(9,.el (p.rules.flatMap cRu) (r*18)),(12,bF),(13,iv j),(14,iv c.st[j]),(76,Zc c.st),(77,iv c.st.length),(78,iv j),(79,bT),(86,bF),(101,bF)] (Za (pM (mT 12 bF) (pM (mT 102 bF) (qM (mT 9 (.el (p.rules.flatMap cRu) (r*18))) (gA (Zl (off:=r*18) (.tmp 104) rfl) I0 (gA (fe (r*18+8) 105 U65 1) I0 (gA (lE (Zc p.rules[r].ex) 106 U24 ((Zu lenRu p.rules r 8 (by omega) (by decide)).trans rfl)) I0 (qM (mT 14 (iv c.st[j])) (gD (sc #[.tmp 107,.tmp 108] [] (KK p.rules[r].ex c.st[j] le) [Zc p.rules[r].ex,iv c.st[j]] rfl rfl rfl) I0 I0 I0 (pP (pk false bT (bv (decide (c.st[j]∈p.rules[r].ex))) rfl) (pM (aT 110 (bv (decide (c.st[j]∈p.rules[r].ex)))) (Ze (ZT (Zd (Za (oC (Yo (c:=((j+1:Nat):Int)) rfl (w64 (by omega) (by omega) (by omega))) I0 I0 (pM (mT 111 (iv (j+1:Nat))) (kN 113 [] [(6,.el ([iv r,iv i,iv kp]) 0),(9,.el (p.rules.flatMap cRu) (r*18)),(12,bv (decide (c.st[j]∈p.rules[r].ex))),(13,iv j),(14,iv c.st[j]),(76,Zc c.st),(77,iv c.st.length),(78,iv (j+1:Nat)),(79,bT),(86,bF),(101,bF)] (Zd ?_)))))))))))))))))))
 refine ZZ ⟨j+1,by omega,En.noF_succ hnf (En.fa_in hj1 hs9)⟩ (show c.st.length-(j+1)<c.st.length-j by omega) ?_
 show Wk _ _ (ofL []) (ofT 113 [(6,.el ([iv r,iv i,iv kp]) 0),(9,.el (p.rules.flatMap cRu) (r*18)),(12,bv (En.exU c p.rules[r] i (j+1))),(76,Zc c.st),(77,iv c.st.length),(78,iv ((j+1):Nat))])
 rw [En.exU_f hj1 hs10f (by omega)]
 exact ZC [] _ rfl (by kernel_rfl) (by kernel_rfl)
 have hs9f:(decide (c.st[j]∈p.rules[r].fa))=false:=by simpa using hs9
 refine Za (pM (mT 9 (.el (p.rules.flatMap cRu) (r*18))) (oA (Zl (off:=r*18) (.tmp 87) rfl) I0 (oA (fe (r*18+9) 88 U65 1) I0 (oA (lE (Zc p.rules[r].fa) 89 U24 ((Zu lenRu p.rules r 9 (by omega) (by decide)).trans rfl)) I0 (oA (nS 90 U24) I0 (oC (sp_gtr rfl (dT hs8)) I0 I0 (pM (mT 92 bT) (qM (mT 9 (.el (p.rules.flatMap cRu) (r*18))) (gA (Zl (off:=r*18) (.tmp 94) rfl) I0 (gA (fe (r*18+9) 95 U65 1) I0 (gA (lE (Zc p.rules[r].fa) 96 U24 ((Zu lenRu p.rules r 9 (by omega) (by decide)).trans rfl)) I0 (qM (mT 14 (iv c.st[j])) (gD (sc #[.tmp 97,.tmp 98] [] (Yd (KK p.rules[r].fa c.st[j] lf) hs9f) [Zc p.rules[r].fa,iv c.st[j]] rfl rfl rfl) I0 I0 I0 (gA (Ya rfl rfl) I0 (pP (pk true bT bF rfl) (Ze (Zd (Zm rfl (Zb (Za (pM (aC (.bool false)) (Ze (Zd ?_)))))))))))))))))))))))
 refine Zk (Zj (ZS (Zj (Zj (ZS (Zj ?_))))))
 refine Zs Try.results48 (.tmp rfl) ?_
 exact congrArg (fun x:Bool=>AV.v (.bool x)) ((En.lo_fa hj1 (En.fa_out hj1 (by omega) hs8 hs9f)).symm)
 refine Za (pM (mT 9 (.el (p.rules.flatMap cRu) (r*18))) (oA (Zl (off:=r*18) (.tmp 87) rfl) I0 (oA (fe (r*18+9) 88 U65 1) I0 (oA (lE (Zc p.rules[r].fa) 89 U24 ((Zu lenRu p.rules r 9 (by omega) (by decide)).trans rfl)) I0 (oA (nS 90 U24) I0 (oC (sp_gtr rfl (dF hs8)) I0 I0 (pM (mT 92 bF) (qK (qK (qK (qK (qK (qK (qK (pP (pk false (.v (.tuple #[])) bF rfl) (Ze (Zd (Zp rfl (Zn (Zd ?_))))))))))))))))))))
 by_cases hs11:(En.exU c p.rules[r] i j)=true
 rw [hs11]
 refine kW 113 [] [(6,.el ([iv r,iv i,iv kp]) 0),(9,.el (p.rules.flatMap cRu) (r*18)),(12,bT),(13,iv j),(14,iv c.st[j]),(76,Zc c.st),(77,iv c.st.length),(78,iv j),(79,bT),(86,bF),(101,bF)] (Za (pM (mT 12 bT) (pM (mT 102 bT) (qK (qK (qK (qK (qK (qK (pP (pk true bT (.v (.tuple #[])) rfl) (pM (aT 110 bT) (Ze (ZT (Zd (Za (oC (Yo (c:=((j+1:Nat):Int)) rfl (w64 (by omega) (by omega) (by omega))) I0 I0 (pM (mT 111 (iv (j+1:Nat))) (kN 113 [] [(6,.el ([iv r,iv i,iv kp]) 0),(9,.el (p.rules.flatMap cRu) (r*18)),(12,bT),(13,iv j),(14,iv c.st[j]),(76,Zc c.st),(77,iv c.st.length),(78,iv (j+1:Nat)),(79,bT),(86,bF),(101,bF)] (Zd ?_)))))))))))))))))))
 refine ZZ ⟨j+1,by omega,En.noF_succ hnf (En.fa_none hs8)⟩ (show c.st.length-(j+1)<c.st.length-j by omega) ?_
 show Wk _ _ (ofL []) (ofT 113 [(6,.el ([iv r,iv i,iv kp]) 0),(9,.el (p.rules.flatMap cRu) (r*18)),(12,bv (En.exU c p.rules[r] i (j+1))),(76,Zc c.st),(77,iv c.st.length),(78,iv ((j+1):Nat))])
 rw [En.exU_t hs11]
 exact ZC [] _ rfl (by kernel_rfl) (by kernel_rfl)
 have hs11f:(En.exU c p.rules[r] i j)=false:=by simpa using hs11
 rw [hs11f]
 refine kW 113 [] [(6,.el ([iv r,iv i,iv kp]) 0),(9,.el (p.rules.flatMap cRu) (r*18)),(12,bF),(13,iv j),(14,iv c.st[j]),(76,Zc c.st),(77,iv c.st.length),(78,iv j),(79,bT),(86,bF),(101,bF)] (Za (pM (mT 12 bF) (pM (mT 102 bF) (qM (mT 9 (.el (p.rules.flatMap cRu) (r*18))) (gA (Zl (off:=r*18) (.tmp 104) rfl) I0 (gA (fe (r*18+8) 105 U65 1) I0 (gA (lE (Zc p.rules[r].ex) 106 U24 ((Zu lenRu p.rules r 8 (by omega) (by decide)).trans rfl)) I0 (qM (mT 14 (iv c.st[j])) (gD (sc #[.tmp 107,.tmp 108] [] (KK p.rules[r].ex c.st[j] le) [Zc p.rules[r].ex,iv c.st[j]] rfl rfl rfl) I0 I0 I0 (pP (pk false bT (bv (decide (c.st[j]∈p.rules[r].ex))) rfl) (pM (aT 110 (bv (decide (c.st[j]∈p.rules[r].ex)))) (Ze (ZT (Zd (Za (oC (Yo (c:=((j+1:Nat):Int)) rfl (w64 (by omega) (by omega) (by omega))) I0 I0 (pM (mT 111 (iv (j+1:Nat))) (kN 113 [] [(6,.el ([iv r,iv i,iv kp]) 0),(9,.el (p.rules.flatMap cRu) (r*18)),(12,bv (decide (c.st[j]∈p.rules[r].ex))),(13,iv j),(14,iv c.st[j]),(76,Zc c.st),(77,iv c.st.length),(78,iv (j+1:Nat)),(79,bT),(86,bF),(101,bF)] (Zd ?_)))))))))))))))))))
 refine ZZ ⟨j+1,by omega,En.noF_succ hnf (En.fa_none hs8)⟩ (show c.st.length-(j+1)<c.st.length-j by omega) ?_
 show Wk _ _ (ofL []) (ofT 113 [(6,.el ([iv r,iv i,iv kp]) 0),(9,.el (p.rules.flatMap cRu) (r*18)),(12,bv (En.exU c p.rules[r] i (j+1))),(76,Zc c.st),(77,iv c.st.length),(78,iv ((j+1):Nat))])
 rw [En.exU_f hj1 hs11f (by omega)]
 exact ZC [] _ rfl (by kernel_rfl) (by kernel_rfl)
 refine Za (oC (ZY rfl (dF hs6)) I0 I0 (Ze (Zd (Zb (Zp rfl (Yq (Zz (Zz (t_hit (Zd (Zb (Za (pM (mT 12 (bv (En.exU c p.rules[r] i j))) (pM (aT 112 (bv (En.exU c p.rules[r] i j))) (Ze (Zd (Zk ?_)))))))))))))))))
 refine Zs Try.results48 (.tmp rfl) ?_
 exact congrArg (fun x:Bool=>AV.v (.bool x)) ((En.lo_ex hs3f (by omega) hs0 (by omega) hj0 hnf).symm)
end Go.Proofs.Ytengacodacejiaa
