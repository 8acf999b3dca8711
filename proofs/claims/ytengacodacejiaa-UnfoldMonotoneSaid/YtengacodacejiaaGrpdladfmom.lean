import Derived.Test.YtengacodacejiaaGrppdihiibb
import Derived.Test.YtengacodacejiaaGrpflkjneac
import Derived.Test.YtengacodacejiaaGrpelngjmom
import Derived.Test.YtengacodacejiaaGrpjicnfjoo
import Derived.Test.YtengacodacejiaaGrpogdnddpc
set_option linter.all false
namespace Go.Proofs.Ytengacodacejiaa
open Go.RowKit Go.Deep
variable {J:World→Prop}
theorem Rd.mf_t {p:Fm} (h:Rd.looseB p=true):Rd.mfE p-1=1048576:=by
  unfold Rd.looseB at h
  rw [Bool.or_eq_true,decide_eq_true_iff,decide_eq_true_iff] at h
  unfold Rd.mfE;rw [if_pos h];rfl
theorem Rd.mf_in (p:Fm):1≤Rd.mfE p∧Rd.mfE p≤1048577:=by
  unfold Rd.mfE;split<;>omega
theorem Rd.mf_f {p:Fm} (h:Rd.looseB p=false):Rd.mfE p-1=0:=by
  unfold Rd.looseB at h
  rw [Bool.or_eq_false_iff,decide_eq_false_iff_not,decide_eq_false_iff_not] at h
  unfold Rd.mfE;rw [if_neg (not_or.2 h)];rfl
set_option maxRecDepth 100000 in
set_option maxHeartbeats 6400000 in
theorem read_c {p:Fm} {n t f:Int} {c:Cf} (HC:Rd.CgOk c):Ctr Try.prog J 41 [.el (Ns.sysC p n t f) 0,.agg (Rd.cCg c)] (.tup [.agg (Rd.cfZ (Rd.rdY p n f c) (Rd.shI p.top (Ns.shT p.top (Ns.cntE p n f)) c.sh) c),bv (Rd.rdX p n f c)]):=by
 have hmf:=Rd.mf_in p
 refine ZJ Try.func41 rfl (by intro X hX;simp only [List.mem_cons,List.not_mem_nil,or_false] at hX;rcases hX with rfl | rfl;exact (show Plain (.el (Ns.sysC p n t f) 0) from .el (Z6 (Ns.plain_sys p n t f)));exact Zt (Rd.plain_cg c)) (n:=124) rfl (by simp) (fun w0 => ?_)
 refine kW 124 [] [(0,.el (Ns.sysC p n t f) 0),(1,.agg (Rd.cCg c))] (Zb (Za (ZQ rfl (YC (X := .agg (Rd.cCg c)) (k:=1) (.tmp 1) rfl rfl) ⟨I0,T0⟩ T0 rfl (ZQ rfl (Z0 (z := .agg #[.int .i64 0,.int .i64 0,.int .i64 0,.int .i64 0,.int .i64 0,.int .i64 0,.int .i64 0,.int .i64 0,.int .i64 0,.int .i64 0,.int .i64 0,.int .i64 0,.int .i64 0,.int .i64 0,.int .i64 0,.int .i64 0]) (k:=2) rfl (by kernel_rfl)) T0 T0 rfl (pM (aC (.bool false)) (Ze (Zc (Zb (Za (pM (mT 0 (.el (Ns.sysC p n t f) 0)) (oA (Zx (off:=0) (.tmp 11) rfl) I0 (oA (fe 0 12 U111 10) I0 (oA (ZF (z:=10) (ds:=[sv p.nm,iv p.top,Zw p.states,Zw p.msgs,Zw p.vals,iv p.fault,slA 4 cLn p.res,Zd p.init,Zd p.leader,slA 18 cRu p.rules]) (.tmp 13) rfl U27 rfl (by kernel_rfl) (by kernel_rfl) rfl) I0 (ZQ rfl (Z0 (z := .agg #[.string (⟨#[]⟩),.int .i64 0,.slice none 0 0,.slice none 0 0,.slice none 0 0,.int .i64 0,.slice none 0 0,.slice none 0 0,.slice none 0 0,.slice none 0 0]) (k:=3) rfl (by kernel_rfl)) T0 T0 rfl (ZQ rfl (sB 10 6 (.tmp 14) (.agg [sv p.nm,iv p.top,Zw p.states,Zw p.msgs,Zw p.vals,iv p.fault,slA 4 cLn p.res,Zd p.init,Zd p.leader,slA 18 cRu p.rules])) ⟨I0,I0,T0⟩ ⟨rfl,T0⟩ rfl (Ze (Zc (Zb (Za (pM (mT 0 (.el (Ns.sysC p n t f) 0)) (oA (fb 0 3 U31 1) I0 (oB (lb (Zd c.sh) 17 U24) I0 rfl (oD (sc #[.tmp 16,.tmp 18] [] (readShape_c HC.sh HC.lsh) [.el (Ns.sysC p n t f) 0,Zd c.sh] rfl rfl rfl) I0 I0 I0 ?_)))))))))))))))))))))))
 refine pM (mT 19 (.tup [iv (Rd.shI p.top (Ns.shT p.top (Ns.cntE p n f)) c.sh),bv (Rd.shB p.top (Ns.shT p.top (Ns.cntE p n f)) c.sh)])) (oA (ZT (X:=iv (Rd.shI p.top (Ns.shT p.top (Ns.cntE p n f)) c.sh)) (.tmp 15) rfl rfl) I0 (oA (ZT (X:=bv (Rd.shB p.top (Ns.shT p.top (Ns.cntE p n f)) c.sh)) (.tmp 15) rfl rfl) I0 (pM (aT 20 (iv (Rd.shI p.top (Ns.shT p.top (Ns.cntE p n f)) c.sh))) (pM (aT 21 (bv (Rd.shB p.top (Ns.shT p.top (Ns.cntE p n f)) c.sh))) (Ze (Zc (Zb (Zb ?_))))))))
 by_cases hs1:(Rd.shB p.top (Ns.shT p.top (Ns.cntE p n f)) c.sh)=true
 rw [hs1]
 refine kW 124 [(1,.box 31 (Rd.cCg c)),(2,.box 78 [iv 0,iv 0,iv 0,iv 0,iv 0,iv 0,iv 0,iv 0,iv 0,iv 0,iv 0,iv 0,iv 0,iv 0,iv 0,iv 0]),(3,.box 27 [sv p.nm,iv p.top,Zw p.states,Zw p.msgs,Zw p.vals,iv p.fault,slA 4 cLn p.res,Zd p.init,Zd p.leader,slA 18 cRu p.rules])] [(0,.el (Ns.sysC p n t f) 0),(3,.box 1 0),(4,.box 2 0),(5,bF),(6,.box 3 0),(7,iv (Rd.shI p.top (Ns.shT p.top (Ns.cntE p n f)) c.sh)),(8,bT)] ?_
 by_cases hs2:((c.st.length:Nat):Int)=(Ns.cntE p n f)
 by_cases hs3:(Rd.belB c.st ((p.states.length:Nat):Int))=true
 by_cases hs4:c.cor=(n-f)
 refine Zu (dM (mT 8 bT) (dA (Zq rfl rfl) I0 (dM (mT 23 bF) (dA (fb 1 3 U31 1) I0 (dB (lb (Zd c.st) 25 U24) I0 rfl (dA (nS 26 U24) I0 (dM (mT 0 (.el (Ns.sysC p n t f) 0)) (dA (Zx (off:=0) (.tmp 28) rfl) I0 (dA (fe 13 29 U111 1) I0 (dA (lE (iv (Ns.cntE p n f)) 30 U3) I0 (dC (Zs rfl (dT' hs2)) I0 I0 (dP (pk false bT bF rfl) (dM (mT 33 bF) (dA (fb 1 3 U31 1) I0 (dB (lb (Zd c.st) 35 U24) I0 rfl (dA (fb 2 6 U27 1) I0 (dB (lb (Zw p.states) 37 U22) I0 rfl (dA (nS 38 U22) I0 (dD (sc #[.tmp 36,.tmp 39] [] (ZS (Ke c.st (Nat.le_trans HC.lst (by decide))) hs3) [Zd c.st,iv p.states.length] rfl rfl rfl) I0 I0 I0 (dA (Zq rfl rfl) I0 (dP (pk false bT bF rfl) (dM (mT 42 bF) (dA (fb 2 3 U31 1) I0 (dB (lb (iv c.cor) 44 U3) I0 rfl (dM (mT 0 (.el (Ns.sysC p n t f) 0)) (dA (Zx (off:=0) (.tmp 46) rfl) I0 (dA (fe 14 47 U111 1) I0 (dA (lE (iv (n-f)) 48 U3) I0 (dC (Zs rfl (dT' hs4)) I0 I0 (dP (pk false bT bF rfl) (dE ?_))))))))))))))))))))))))))))))) (by kernel_rfl)
 show ETri J w0 _ _ _
 refine kW 124 [(1,.box 31 (Rd.cCg c)),(2,.box 78 [iv 0,iv 0,iv 0,iv 0,iv 0,iv 0,iv 0,iv 0,iv 0,iv 0,iv 0,iv 0,iv 0,iv 0,iv 0,iv 0]),(3,.box 27 [sv p.nm,iv p.top,Zw p.states,Zw p.msgs,Zw p.vals,iv p.fault,slA 4 cLn p.res,Zd p.init,Zd p.leader,slA 18 cRu p.rules])] [(3,.box 1 0),(4,.box 2 0),(5,bF),(6,.box 3 0),(7,iv (Rd.shI p.top (Ns.shT p.top (Ns.cntE p n f)) c.sh)),(51,bF)] (Zc (Zo rfl (Zn (Zc (Zb (Zb ?_))))))
 by_cases hs5:((c.se.length:Nat):Int)=((p.msgs.length:Nat):Int)
 by_cases hs6:(Rd.belB c.se 1048577)=true
 refine Za (oA (fb 3 3 U31 1) I0 (oB (lb (Zd c.se) 53 U24) I0 rfl (oA (nS 54 U24) I0 (oA (fb 3 6 U27 1) I0 (oB (lb (Zw p.msgs) 56 U22) I0 rfl (oA (nS 57 U22) I0 (oC (Zs rfl (dT' hs5)) I0 I0 (pM (mT 59 bF) (gA (fb 3 3 U31 1) I0 (gB (lb (Zd c.se) 61 U24) I0 rfl (gD (sc #[.tmp 62,.const (.int .i64 1048577)] [] (ZS (Ke c.se (Nat.le_trans HC.lse (by decide))) hs6) [Zd c.se,iv 1048577] rfl rfl rfl) I0 I0 I0 (gA (Zq rfl rfl) I0 (pP (pk false bT bF rfl) (Ze (Zc (Zo rfl (Zn (Zc (Zb (Za (pM (aC (.int .i64 0)) (kN 124 [(1,.box 31 (Rd.cCg c)),(2,.box 78 [iv 0,iv 0,iv 0,iv 0,iv 0,iv 0,iv 0,iv 0,iv 0,iv 0,iv 0,iv 0,iv 0,iv 0,iv 0,iv 0]),(3,.box 27 [sv p.nm,iv p.top,Zw p.states,Zw p.msgs,Zw p.vals,iv p.fault,slA 4 cLn p.res,Zd p.init,Zd p.leader,slA 18 cRu p.rules])] [(3,.box 1 0),(4,.box 2 0),(5,bF),(6,.box 3 0),(7,iv (Rd.shI p.top (Ns.shT p.top (Ns.cntE p n f)) c.sh)),(9,iv 0)] (Zc ?_)))))))))))))))))))))))
 refine Zb (Zb ?_)
 refine Y6 (True) (ofL [(1,.box 31 (Rd.cCg c)),(2,.box 78 [iv 0,iv 0,iv 0,iv 0,iv 0,iv 0,iv 0,iv 0,iv 0,iv 0,iv 0,iv 0,iv 0,iv 0,iv 0,iv 0]),(3,.box 27 [sv p.nm,iv p.top,Zw p.states,Zw p.msgs,Zw p.vals,iv p.fault,slA 4 cLn p.res,Zd p.init,Zd p.leader,slA 18 cRu p.rules])]) (ofT 124 [(3,.box 1 0),(4,.box 2 0),(5,bF),(6,.box 3 0),(7,iv (Rd.shI p.top (Ns.shT p.top (Ns.cntE p n f)) c.sh)),(9,iv 0),(74,bv (Rd.looseB p))]) ?_ (fun _ => ?_)
 by_cases hs7:p.fault=1
 refine Za (oA (fb 5 6 U27 1) I0 (oB (lb (iv p.fault) 67 U3) I0 rfl (oC (Zp rfl (dT hs7)) I0 I0 (pM (mT 69 bT) (qK (qK (qK (pP (pk true bT (.v (.tuple #[])) rfl) (kN 124 [(1,.box 31 (Rd.cCg c)),(2,.box 78 [iv 0,iv 0,iv 0,iv 0,iv 0,iv 0,iv 0,iv 0,iv 0,iv 0,iv 0,iv 0,iv 0,iv 0,iv 0,iv 0]),(3,.box 27 [sv p.nm,iv p.top,Zw p.states,Zw p.msgs,Zw p.vals,iv p.fault,slA 4 cLn p.res,Zd p.init,Zd p.leader,slA 18 cRu p.rules])] [(3,.box 1 0),(4,.box 2 0),(5,bF),(6,.box 3 0),(7,iv (Rd.shI p.top (Ns.shT p.top (Ns.cntE p n f)) c.sh)),(9,iv 0),(74,bT)] ?_)))))))))
 rw [show (Rd.looseB p)=true by simp only [Rd.looseB,hs7,decide_true,decide_false,Bool.true_or,Bool.false_or]]
 exact Zr T0 (Zj _ _ rfl (by kernel_rfl) (by kernel_rfl))
 refine Za (oA (fb 5 6 U27 1) I0 (oB (lb (iv p.fault) 67 U3) I0 rfl (oC (Zp rfl (dF hs7)) I0 I0 (pM (mT 69 bF) (gA (fb 5 6 U27 1) I0 (gB (lb (iv p.fault) 71 U3) I0 rfl (gC (Zp rfl rfl) I0 I0 (pP (pk false bT (bv (decide (p.fault=2))) rfl) (kN 124 [(1,.box 31 (Rd.cCg c)),(2,.box 78 [iv 0,iv 0,iv 0,iv 0,iv 0,iv 0,iv 0,iv 0,iv 0,iv 0,iv 0,iv 0,iv 0,iv 0,iv 0,iv 0]),(3,.box 27 [sv p.nm,iv p.top,Zw p.states,Zw p.msgs,Zw p.vals,iv p.fault,slA 4 cLn p.res,Zd p.init,Zd p.leader,slA 18 cRu p.rules])] [(3,.box 1 0),(4,.box 2 0),(5,bF),(6,.box 3 0),(7,iv (Rd.shI p.top (Ns.shT p.top (Ns.cntE p n f)) c.sh)),(9,iv 0),(74,bv (decide (p.fault=2)))] ?_)))))))))
 rw [show (Rd.looseB p)=(decide (p.fault=2)) by simp only [Rd.looseB,hs7,decide_true,decide_false,Bool.true_or,Bool.false_or]]
 exact Zr T0 (Zj _ _ rfl (by kernel_rfl) (by kernel_rfl))
 refine Zc ?_
 refine Y6 (True) (ofL [(1,.box 31 (Rd.cCg c)),(2,.box 78 [iv 0,iv 0,iv 0,iv 0,iv 0,iv 0,iv 0,iv 0,iv 0,iv 0,iv 0,iv 0,iv 0,iv 0,iv 0,iv 0]),(3,.box 27 [sv p.nm,iv p.top,Zw p.states,Zw p.msgs,Zw p.vals,iv p.fault,slA 4 cLn p.res,Zd p.init,Zd p.leader,slA 18 cRu p.rules])]) (ofT 124 [(3,.box 1 0),(4,.box 2 0),(5,bF),(6,.box 3 0),(7,iv (Rd.shI p.top (Ns.shT p.top (Ns.cntE p n f)) c.sh)),(9,iv (Rd.mfE p-1))]) ?_ (fun _ => ?_)
 by_cases hs8:(Rd.looseB p)=true
 rw [hs8]
 refine kW 124 [(1,.box 31 (Rd.cCg c)),(2,.box 78 [iv 0,iv 0,iv 0,iv 0,iv 0,iv 0,iv 0,iv 0,iv 0,iv 0,iv 0,iv 0,iv 0,iv 0,iv 0,iv 0]),(3,.box 27 [sv p.nm,iv p.top,Zw p.states,Zw p.msgs,Zw p.vals,iv p.fault,slA 4 cLn p.res,Zd p.init,Zd p.leader,slA 18 cRu p.rules])] [(3,.box 1 0),(4,.box 2 0),(5,bF),(6,.box 3 0),(7,iv (Rd.shI p.top (Ns.shT p.top (Ns.cntE p n f)) c.sh)),(9,iv 0),(74,bT)] (Zm rfl (Za (pM (aC (.int .i64 1048576)) (kN 124 [(1,.box 31 (Rd.cCg c)),(2,.box 78 [iv 0,iv 0,iv 0,iv 0,iv 0,iv 0,iv 0,iv 0,iv 0,iv 0,iv 0,iv 0,iv 0,iv 0,iv 0,iv 0]),(3,.box 27 [sv p.nm,iv p.top,Zw p.states,Zw p.msgs,Zw p.vals,iv p.fault,slA 4 cLn p.res,Zd p.init,Zd p.leader,slA 18 cRu p.rules])] [(3,.box 1 0),(4,.box 2 0),(5,bF),(6,.box 3 0),(7,iv (Rd.shI p.top (Ns.shT p.top (Ns.cntE p n f)) c.sh)),(9,iv 1048576)] ?_))))
 rw [Rd.mf_t hs8]
 exact Zr T0 (Zj _ _ rfl (by kernel_rfl) (by kernel_rfl))
 have hs8f:(Rd.looseB p)=false:=by simpa using hs8
 rw [hs8f]
 refine kW 124 [(1,.box 31 (Rd.cCg c)),(2,.box 78 [iv 0,iv 0,iv 0,iv 0,iv 0,iv 0,iv 0,iv 0,iv 0,iv 0,iv 0,iv 0,iv 0,iv 0,iv 0,iv 0]),(3,.box 27 [sv p.nm,iv p.top,Zw p.states,Zw p.msgs,Zw p.vals,iv p.fault,slA 4 cLn p.res,Zd p.init,Zd p.leader,slA 18 cRu p.rules])] [(3,.box 1 0),(4,.box 2 0),(5,bF),(6,.box 3 0),(7,iv (Rd.shI p.top (Ns.shT p.top (Ns.cntE p n f)) c.sh)),(9,iv 0),(74,bF)] (Zo rfl (Zn ?_))
 rw [Rd.mf_f hs8f]
 exact Zr T0 (Zj _ _ rfl (by kernel_rfl) (by kernel_rfl))
 refine Zc (Zb (Zb ?_))
 by_cases hs9:((c.fa.length:Nat):Int)=((p.msgs.length:Nat):Int)
 by_cases hs10:(Rd.belB c.fa ((Rd.mfE p-1)+1))=true
 refine Za (oA (fb 4 3 U31 1) I0 (oB (lb (Zd c.fa) 75 U24) I0 rfl (oA (nS 76 U24) I0 (oA (fb 3 6 U27 1) I0 (oB (lb (Zw p.msgs) 78 U22) I0 rfl (oA (nS 79 U22) I0 (oC (Zs rfl (dT' hs9)) I0 I0 (pM (mT 81 bF) (gA (fb 4 3 U31 1) I0 (gB (lb (Zd c.fa) 83 U24) I0 rfl (qM (mT 9 (iv (Rd.mfE p-1))) (gC (Yj (c:=(Rd.mfE p-1)+1) rfl (w64 (by omega) (by omega) (by omega))) I0 I0 (gD (sc #[.tmp 84,.tmp 86] [] (ZS (Ke c.fa (Nat.le_trans HC.lfa (by decide))) hs10) [Zd c.fa,iv ((Rd.mfE p-1)+1)] rfl rfl rfl) I0 I0 I0 (gA (Zq rfl rfl) I0 (pP (pk false bT bF rfl) (Ze (Zc (Zo rfl (Zn (Zc (Zb (Zb ?_))))))))))))))))))))))
 by_cases hs11:c.val<0
 refine Za (oA (fb 5 3 U31 1) I0 (oB (lb (iv c.val) 91 U3) I0 rfl (oC (Z5 rfl (dT hs11)) I0 I0 (pM (mT 93 bT) (qK (qK (qK (qK (qK (qK (qK (pP (pk true bT (.v (.tuple #[])) rfl) (Ze (Zc (Zm rfl (Zb (Za (ZQ rfl (YM [] #[.int .i64 0,.int .i64 0,.int .i64 0,.int .i64 0,.int .i64 0,.int .i64 0,.int .i64 0,.int .i64 0,.int .i64 0,.int .i64 0,.int .i64 0,.int .i64 0,.int .i64 0,.int .i64 0,.int .i64 0,.int .i64 0] rfl rfl (by kernel_rfl) rfl) T0 T0 T0 (ZQ rfl (sB 16 4 (.tmp 103) (.agg [iv 0,iv 0,iv 0,iv 0,iv 0,iv 0,iv 0,iv 0,iv 0,iv 0,iv 0,iv 0,iv 0,iv 0,iv 0,iv 0])) ⟨I0,I0,T0⟩ ⟨rfl,T0⟩ rfl (pM (aC (.bool false)) (Ze (Zc (Zk ?_)))))))))))))))))))))))
 refine Zh ?_
 refine Yr Try.results41 (.cellS rfl rfl U78 rfl (z:=16) (by kernel_rfl) rfl (by decide)) (.tmp rfl) ?_
 rw [Int.sub_add_cancel] at hs10
 have hr:(Rd.rdX p n f c)=false:=by simp only [Rd.rdX,Rd.rdB,hs1,hs2,hs3,hs4,hs5,hs6,hs9,hs10,hs11,decide_true,decide_false,Bool.and_true,Bool.true_and,Bool.false_and,Bool.and_false,Bool.not_true,Bool.not_false,if_true,if_false,true_or,or_true,or_self,not_true_eq_false,not_false_eq_true,ite_true,ite_false,or_false,false_or]
 rw [show (Rd.rdY p n f c)=false from hr,hr]
 exact rfl
 by_cases hs12:(max ((p.vals.length:Nat):Int) 1)≤c.val
 refine Za (oA (fb 5 3 U31 1) I0 (oB (lb (iv c.val) 91 U3) I0 rfl (oC (Z5 rfl (dF hs11)) I0 I0 (pM (mT 93 bF) (gA (fb 5 3 U31 1) I0 (gB (lb (iv c.val) 95 U3) I0 rfl (gA (fb 4 6 U27 1) I0 (gB (lb (Zw p.vals) 97 U22) I0 rfl (gA (nS 98 U22) I0 (gC (sp_max (.tmp 99) (.const (.int .i64 1)) rfl) I0 I0 (gC (YL rfl (dT hs12)) I0 I0 (pP (pk false bT bT rfl) (Ze (Zc (Zm rfl (Zb (Za (ZQ rfl (YM [] #[.int .i64 0,.int .i64 0,.int .i64 0,.int .i64 0,.int .i64 0,.int .i64 0,.int .i64 0,.int .i64 0,.int .i64 0,.int .i64 0,.int .i64 0,.int .i64 0,.int .i64 0,.int .i64 0,.int .i64 0,.int .i64 0] rfl rfl (by kernel_rfl) rfl) T0 T0 T0 (ZQ rfl (sB 16 4 (.tmp 103) (.agg [iv 0,iv 0,iv 0,iv 0,iv 0,iv 0,iv 0,iv 0,iv 0,iv 0,iv 0,iv 0,iv 0,iv 0,iv 0,iv 0])) ⟨I0,I0,T0⟩ ⟨rfl,T0⟩ rfl (pM (aC (.bool false)) (Ze (Zc (Zk ?_)))))))))))))))))))))))
 refine Zh ?_
 refine Yr Try.results41 (.cellS rfl rfl U78 rfl (z:=16) (by kernel_rfl) rfl (by decide)) (.tmp rfl) ?_
 rw [Int.sub_add_cancel] at hs10
 have hr:(Rd.rdX p n f c)=false:=by simp only [Rd.rdX,Rd.rdB,hs1,hs2,hs3,hs4,hs5,hs6,hs9,hs10,hs11,hs12,decide_true,decide_false,Bool.and_true,Bool.true_and,Bool.false_and,Bool.and_false,Bool.not_true,Bool.not_false,if_true,if_false,true_or,or_true,or_self,not_true_eq_false,not_false_eq_true,ite_true,ite_false,or_false,false_or]
 rw [show (Rd.rdY p n f c)=false from hr,hr]
 exact rfl
 refine Za (oA (fb 5 3 U31 1) I0 (oB (lb (iv c.val) 91 U3) I0 rfl (oC (Z5 rfl (dF hs11)) I0 I0 (pM (mT 93 bF) (gA (fb 5 3 U31 1) I0 (gB (lb (iv c.val) 95 U3) I0 rfl (gA (fb 4 6 U27 1) I0 (gB (lb (Zw p.vals) 97 U22) I0 rfl (gA (nS 98 U22) I0 (gC (sp_max (.tmp 99) (.const (.int .i64 1)) rfl) I0 I0 (gC (YL rfl (dF hs12)) I0 I0 (pP (pk false bT bF rfl) (Ze (Zc (Zo rfl (Zn (Zc (Zb (Za (pM (mT 7 (iv (Rd.shI p.top (Ns.shT p.top (Ns.cntE p n f)) c.sh))) (oA (fb 5 3 U31 1) I0 (oB (lb (iv c.val) 105 U3) I0 rfl (oC (YM [(.tmp 104,.int .i64 (Rd.shI p.top (Ns.shT p.top (Ns.cntE p n f)) c.sh)),(.tmp 106,.int .i64 c.val)] #[.int .i64 (Rd.shI p.top (Ns.shT p.top (Ns.cntE p n f)) c.sh),.int .i64 0,.int .i64 0,.int .i64 0,.int .i64 0,.int .i64 0,.int .i64 0,.int .i64 0,.int .i64 0,.int .i64 0,.int .i64 0,.int .i64 0,.int .i64 0,.int .i64 0,.int .i64 0,.int .i64 c.val] rfl rfl (by kernel_rfl) rfl) I0 I0 ?_)))))))))))))))))))))))
 refine ZQ rfl (Z0 (z := .agg #[.int .i64 0,.int .i64 0,.int .i64 0,.int .i64 0,.int .i64 0,.int .i64 0,.int .i64 0,.int .i64 0,.int .i64 0,.int .i64 0,.int .i64 0,.int .i64 0,.int .i64 0,.int .i64 0,.int .i64 0,.int .i64 0]) (k:=4) rfl (by kernel_rfl)) T0 T0 rfl (ZQ rfl (sB 16 10 (.tmp 107) (.agg [iv (Rd.shI p.top (Ns.shT p.top (Ns.cntE p n f)) c.sh),iv 0,iv 0,iv 0,iv 0,iv 0,iv 0,iv 0,iv 0,iv 0,iv 0,iv 0,iv 0,iv 0,iv 0,iv c.val])) ⟨I0,I0,T0⟩ ⟨rfl,T0⟩ rfl (Ze (Zc (Zb ?_))))
 refine Zu (dA (fb 1 10 U78 8) I0 (dA (sp_sliceArr (z:=1) (.tmp 108) rfl U74 (by kernel_rfl)) I0 (dA (fb 1 3 U31 1) I0 (dB (lb (Zd c.st) 110 U24) I0 rfl (dR (sp_copyInts (old:=[iv (Rd.shI p.top (Ns.shT p.top (Ns.cntE p n f)) c.sh),iv 0,iv 0,iv 0,iv 0,iv 0,iv 0,iv 0,iv 0,iv 0,iv 0,iv 0,iv 0,iv 0,iv 0,iv c.val]) (new:=[iv (Rd.shI p.top (Ns.shT p.top (Ns.cntE p n f)) c.sh),iv (c.st.getD 0 0),iv (c.st.getD 1 0),iv (c.st.getD 2 0),iv (c.st.getD 3 0),iv (c.st.getD 4 0),iv (c.st.getD 5 0),iv (c.st.getD 6 0),iv (c.st.getD 7 0),iv 0,iv 0,iv 0,iv 0,iv 0,iv 0,iv c.val]) c.st (.tmp 109) (.tmp 111) rfl U24 (by kernel_rfl) (by kernel_rfl) (by kernel_rfl) (by kernel_rfl)) ⟨I0,I0,T0⟩ ⟨rfl,T0⟩ rfl (dE ?_)))))) (by kernel_rfl)
 show ETri J w0 _ _ _
 refine kW 124 [(1,.box 31 (Rd.cCg c)),(2,.box 78 [iv 0,iv 0,iv 0,iv 0,iv 0,iv 0,iv 0,iv 0,iv 0,iv 0,iv 0,iv 0,iv 0,iv 0,iv 0,iv 0]),(4,.box 78 [iv (Rd.shI p.top (Ns.shT p.top (Ns.cntE p n f)) c.sh),iv (c.st.getD 0 0),iv (c.st.getD 1 0),iv (c.st.getD 2 0),iv (c.st.getD 3 0),iv (c.st.getD 4 0),iv (c.st.getD 5 0),iv (c.st.getD 6 0),iv (c.st.getD 7 0),iv 0,iv 0,iv 0,iv 0,iv 0,iv 0,iv c.val])] [(3,.box 1 0),(4,.box 2 0),(5,bF),(10,.box 4 0)] (Zc (Zb ?_))
 refine Zu (dA (fb 9 10 U78 3) I0 (dA (sp_sliceArr (z:=1) (.tmp 113) rfl U76 (by kernel_rfl)) I0 (dA (fb 3 3 U31 1) I0 (dB (lb (Zd c.se) 115 U24) I0 rfl (dR (sp_copyInts (old:=[iv (Rd.shI p.top (Ns.shT p.top (Ns.cntE p n f)) c.sh),iv (c.st.getD 0 0),iv (c.st.getD 1 0),iv (c.st.getD 2 0),iv (c.st.getD 3 0),iv (c.st.getD 4 0),iv (c.st.getD 5 0),iv (c.st.getD 6 0),iv (c.st.getD 7 0),iv 0,iv 0,iv 0,iv 0,iv 0,iv 0,iv c.val]) (new:=[iv (Rd.shI p.top (Ns.shT p.top (Ns.cntE p n f)) c.sh),iv (c.st.getD 0 0),iv (c.st.getD 1 0),iv (c.st.getD 2 0),iv (c.st.getD 3 0),iv (c.st.getD 4 0),iv (c.st.getD 5 0),iv (c.st.getD 6 0),iv (c.st.getD 7 0),iv (c.se.getD 0 0),iv (c.se.getD 1 0),iv (c.se.getD 2 0),iv 0,iv 0,iv 0,iv c.val]) c.se (.tmp 114) (.tmp 116) rfl U24 (by kernel_rfl) (by kernel_rfl) (by kernel_rfl) (by kernel_rfl)) ⟨I0,I0,T0⟩ ⟨rfl,T0⟩ rfl (dE ?_)))))) (by kernel_rfl)
 show ETri J w0 _ _ _
 refine kW 124 [(1,.box 31 (Rd.cCg c)),(2,.box 78 [iv 0,iv 0,iv 0,iv 0,iv 0,iv 0,iv 0,iv 0,iv 0,iv 0,iv 0,iv 0,iv 0,iv 0,iv 0,iv 0]),(4,.box 78 [iv (Rd.shI p.top (Ns.shT p.top (Ns.cntE p n f)) c.sh),iv (c.st.getD 0 0),iv (c.st.getD 1 0),iv (c.st.getD 2 0),iv (c.st.getD 3 0),iv (c.st.getD 4 0),iv (c.st.getD 5 0),iv (c.st.getD 6 0),iv (c.st.getD 7 0),iv (c.se.getD 0 0),iv (c.se.getD 1 0),iv (c.se.getD 2 0),iv 0,iv 0,iv 0,iv c.val])] [(3,.box 1 0),(4,.box 2 0),(5,bF),(10,.box 4 0)] (Zc (Zb ?_))
 refine Zu (dA (fb 12 10 U78 3) I0 (dA (sp_sliceArr (z:=1) (.tmp 118) rfl U76 (by kernel_rfl)) I0 (dA (fb 4 3 U31 1) I0 (dB (lb (Zd c.fa) 120 U24) I0 rfl (dR (sp_copyInts (old:=[iv (Rd.shI p.top (Ns.shT p.top (Ns.cntE p n f)) c.sh),iv (c.st.getD 0 0),iv (c.st.getD 1 0),iv (c.st.getD 2 0),iv (c.st.getD 3 0),iv (c.st.getD 4 0),iv (c.st.getD 5 0),iv (c.st.getD 6 0),iv (c.st.getD 7 0),iv (c.se.getD 0 0),iv (c.se.getD 1 0),iv (c.se.getD 2 0),iv 0,iv 0,iv 0,iv c.val]) (new:=[iv (Rd.shI p.top (Ns.shT p.top (Ns.cntE p n f)) c.sh),iv (c.st.getD 0 0),iv (c.st.getD 1 0),iv (c.st.getD 2 0),iv (c.st.getD 3 0),iv (c.st.getD 4 0),iv (c.st.getD 5 0),iv (c.st.getD 6 0),iv (c.st.getD 7 0),iv (c.se.getD 0 0),iv (c.se.getD 1 0),iv (c.se.getD 2 0),iv (c.fa.getD 0 0),iv (c.fa.getD 1 0),iv (c.fa.getD 2 0),iv c.val]) c.fa (.tmp 119) (.tmp 121) rfl U24 (by kernel_rfl) (by kernel_rfl) (by kernel_rfl) (by kernel_rfl)) ⟨I0,I0,T0⟩ ⟨rfl,T0⟩ rfl (dE ?_)))))) (by kernel_rfl)
 show ETri J w0 _ _ _
 refine kW 124 [(2,.box 78 [iv 0,iv 0,iv 0,iv 0,iv 0,iv 0,iv 0,iv 0,iv 0,iv 0,iv 0,iv 0,iv 0,iv 0,iv 0,iv 0]),(4,.box 78 [iv (Rd.shI p.top (Ns.shT p.top (Ns.cntE p n f)) c.sh),iv (c.st.getD 0 0),iv (c.st.getD 1 0),iv (c.st.getD 2 0),iv (c.st.getD 3 0),iv (c.st.getD 4 0),iv (c.st.getD 5 0),iv (c.st.getD 6 0),iv (c.st.getD 7 0),iv (c.se.getD 0 0),iv (c.se.getD 1 0),iv (c.se.getD 2 0),iv (c.fa.getD 0 0),iv (c.fa.getD 1 0),iv (c.fa.getD 2 0),iv c.val])] [(4,.box 2 0),(5,bF),(10,.box 4 0)] (Zc (Zb (Za (oB (lS ([iv (Rd.shI p.top (Ns.shT p.top (Ns.cntE p n f)) c.sh),iv (c.st.getD 0 0),iv (c.st.getD 1 0),iv (c.st.getD 2 0),iv (c.st.getD 3 0),iv (c.st.getD 4 0),iv (c.st.getD 5 0),iv (c.st.getD 6 0),iv (c.st.getD 7 0),iv (c.se.getD 0 0),iv (c.se.getD 1 0),iv (c.se.getD 2 0),iv (c.fa.getD 0 0),iv (c.fa.getD 1 0),iv (c.fa.getD 2 0),iv c.val]) 16 10 U78) I0 rfl (ZQ rfl (sB 16 4 (.tmp 123) (.agg [iv (Rd.shI p.top (Ns.shT p.top (Ns.cntE p n f)) c.sh),iv (c.st.getD 0 0),iv (c.st.getD 1 0),iv (c.st.getD 2 0),iv (c.st.getD 3 0),iv (c.st.getD 4 0),iv (c.st.getD 5 0),iv (c.st.getD 6 0),iv (c.st.getD 7 0),iv (c.se.getD 0 0),iv (c.se.getD 1 0),iv (c.se.getD 2 0),iv (c.fa.getD 0 0),iv (c.fa.getD 1 0),iv (c.fa.getD 2 0),iv c.val])) ⟨I0,I0,T0⟩ ⟨rfl,T0⟩ rfl (pM (aC (.bool true)) (Ze (Zc (Zk ?_)))))))))
 refine Yr Try.results41 (.cellS rfl rfl U78 rfl (z:=16) (by kernel_rfl) rfl (by decide)) (.tmp rfl) ?_
 rw [Int.sub_add_cancel] at hs10
 have hr:(Rd.rdX p n f c)=true:=by simp only [Rd.rdX,Rd.rdB,hs1,hs2,hs3,hs4,hs5,hs6,hs9,hs10,hs11,hs12,decide_true,decide_false,Bool.and_true,Bool.true_and,Bool.false_and,Bool.and_false,Bool.not_true,Bool.not_false,if_true,if_false,true_or,or_true,or_self,not_true_eq_false,not_false_eq_true,ite_true,ite_false,or_false,false_or]
 rw [show (Rd.rdY p n f c)=true from hr,hr]
 exact rfl
 have hs10f:(Rd.belB c.fa ((Rd.mfE p-1)+1))=false:=by simpa using hs10
 refine Za (oA (fb 4 3 U31 1) I0 (oB (lb (Zd c.fa) 75 U24) I0 rfl (oA (nS 76 U24) I0 (oA (fb 3 6 U27 1) I0 (oB (lb (Zw p.msgs) 78 U22) I0 rfl (oA (nS 79 U22) I0 (oC (Zs rfl (dT' hs9)) I0 I0 (pM (mT 81 bF) (gA (fb 4 3 U31 1) I0 (gB (lb (Zd c.fa) 83 U24) I0 rfl (qM (mT 9 (iv (Rd.mfE p-1))) (gC (Yj (c:=(Rd.mfE p-1)+1) rfl (w64 (by omega) (by omega) (by omega))) I0 I0 (gD (sc #[.tmp 84,.tmp 86] [] (ZS (Ke c.fa (Nat.le_trans HC.lfa (by decide))) hs10f) [Zd c.fa,iv ((Rd.mfE p-1)+1)] rfl rfl rfl) I0 I0 I0 (gA (Zq rfl rfl) I0 (pP (pk false bT bT rfl) (Ze (Zc (Zm rfl (Zb (Za (ZQ rfl (YM [] #[.int .i64 0,.int .i64 0,.int .i64 0,.int .i64 0,.int .i64 0,.int .i64 0,.int .i64 0,.int .i64 0,.int .i64 0,.int .i64 0,.int .i64 0,.int .i64 0,.int .i64 0,.int .i64 0,.int .i64 0,.int .i64 0] rfl rfl (by kernel_rfl) rfl) T0 T0 T0 (ZQ rfl (sB 16 4 (.tmp 90) (.agg [iv 0,iv 0,iv 0,iv 0,iv 0,iv 0,iv 0,iv 0,iv 0,iv 0,iv 0,iv 0,iv 0,iv 0,iv 0,iv 0])) ⟨I0,I0,T0⟩ ⟨rfl,T0⟩ rfl (pM (aC (.bool false)) ?_)))))))))))))))))))))))
 refine Ze (Zc (Zk (Zh ?_)))
 refine Yr Try.results41 (.cellS rfl rfl U78 rfl (z:=16) (by kernel_rfl) rfl (by decide)) (.tmp rfl) ?_
 rw [Int.sub_add_cancel] at hs10f
 have hr:(Rd.rdX p n f c)=false:=by simp only [Rd.rdX,Rd.rdB,hs1,hs2,hs3,hs4,hs5,hs6,hs9,hs10f,decide_true,decide_false,Bool.and_true,Bool.true_and,Bool.false_and,Bool.and_false,Bool.not_true,Bool.not_false,if_true,if_false,true_or,or_true,or_self,not_true_eq_false,not_false_eq_true,ite_true,ite_false,or_false,false_or]
 rw [show (Rd.rdY p n f c)=false from hr,hr]
 exact rfl
 refine Za (oA (fb 4 3 U31 1) I0 (oB (lb (Zd c.fa) 75 U24) I0 rfl (oA (nS 76 U24) I0 (oA (fb 3 6 U27 1) I0 (oB (lb (Zw p.msgs) 78 U22) I0 rfl (oA (nS 79 U22) I0 (oC (Zs rfl (dF' hs9)) I0 I0 (pM (mT 81 bT) (qK (qK (qK (qK (qK (qK (pP (pk true bT (.v (.tuple #[])) rfl) (Ze (Zc (Zm rfl (Zb (Za (ZQ rfl (YM [] #[.int .i64 0,.int .i64 0,.int .i64 0,.int .i64 0,.int .i64 0,.int .i64 0,.int .i64 0,.int .i64 0,.int .i64 0,.int .i64 0,.int .i64 0,.int .i64 0,.int .i64 0,.int .i64 0,.int .i64 0,.int .i64 0] rfl rfl (by kernel_rfl) rfl) T0 T0 T0 (ZQ rfl (sB 16 4 (.tmp 90) (.agg [iv 0,iv 0,iv 0,iv 0,iv 0,iv 0,iv 0,iv 0,iv 0,iv 0,iv 0,iv 0,iv 0,iv 0,iv 0,iv 0])) ⟨I0,I0,T0⟩ ⟨rfl,T0⟩ rfl (pM (aC (.bool false)) ?_)))))))))))))))))))))))
 refine Ze (Zc (Zk (Zh ?_)))
 refine Yr Try.results41 (.cellS rfl rfl U78 rfl (z:=16) (by kernel_rfl) rfl (by decide)) (.tmp rfl) ?_
 have hr:(Rd.rdX p n f c)=false:=by simp only [Rd.rdX,Rd.rdB,hs1,hs2,hs3,hs4,hs5,hs6,hs9,decide_true,decide_false,Bool.and_true,Bool.true_and,Bool.false_and,Bool.and_false,Bool.not_true,Bool.not_false,if_true,if_false,true_or,or_true,or_self,not_true_eq_false,not_false_eq_true,ite_true,ite_false,or_false,false_or]
 rw [show (Rd.rdY p n f c)=false from hr,hr]
 exact rfl
 have hs6f:(Rd.belB c.se 1048577)=false:=by simpa using hs6
 refine Za (oA (fb 3 3 U31 1) I0 (oB (lb (Zd c.se) 53 U24) I0 rfl (oA (nS 54 U24) I0 (oA (fb 3 6 U27 1) I0 (oB (lb (Zw p.msgs) 56 U22) I0 rfl (oA (nS 57 U22) I0 (oC (Zs rfl (dT' hs5)) I0 I0 (pM (mT 59 bF) (gA (fb 3 3 U31 1) I0 (gB (lb (Zd c.se) 61 U24) I0 rfl (gD (sc #[.tmp 62,.const (.int .i64 1048577)] [] (ZS (Ke c.se (Nat.le_trans HC.lse (by decide))) hs6f) [Zd c.se,iv 1048577] rfl rfl rfl) I0 I0 I0 (gA (Zq rfl rfl) I0 (pP (pk false bT bT rfl) (Ze (Zc (Zm rfl (Zb (Za (ZQ rfl (YM [] #[.int .i64 0,.int .i64 0,.int .i64 0,.int .i64 0,.int .i64 0,.int .i64 0,.int .i64 0,.int .i64 0,.int .i64 0,.int .i64 0,.int .i64 0,.int .i64 0,.int .i64 0,.int .i64 0,.int .i64 0,.int .i64 0] rfl rfl (by kernel_rfl) rfl) T0 T0 T0 (ZQ rfl (sB 16 4 (.tmp 66) (.agg [iv 0,iv 0,iv 0,iv 0,iv 0,iv 0,iv 0,iv 0,iv 0,iv 0,iv 0,iv 0,iv 0,iv 0,iv 0,iv 0])) ⟨I0,I0,T0⟩ ⟨rfl,T0⟩ rfl (pM (aC (.bool false)) (Ze (Zc ?_)))))))))))))))))))))))
 refine Zk (Zh ?_)
 refine Yr Try.results41 (.cellS rfl rfl U78 rfl (z:=16) (by kernel_rfl) rfl (by decide)) (.tmp rfl) ?_
 have hr:(Rd.rdX p n f c)=false:=by simp only [Rd.rdX,Rd.rdB,hs1,hs2,hs3,hs4,hs5,hs6f,decide_true,decide_false,Bool.and_true,Bool.true_and,Bool.false_and,Bool.and_false,Bool.not_true,Bool.not_false,if_true,if_false,true_or,or_true,or_self,not_true_eq_false,not_false_eq_true,ite_true,ite_false,or_false,false_or]
 rw [show (Rd.rdY p n f c)=false from hr,hr]
 exact rfl
 refine Za (oA (fb 3 3 U31 1) I0 (oB (lb (Zd c.se) 53 U24) I0 rfl (oA (nS 54 U24) I0 (oA (fb 3 6 U27 1) I0 (oB (lb (Zw p.msgs) 56 U22) I0 rfl (oA (nS 57 U22) I0 (oC (Zs rfl (dF' hs5)) I0 I0 (pM (mT 59 bT) (qK (qK (qK (qK (pP (pk true bT (.v (.tuple #[])) rfl) (Ze (Zc (Zm rfl (Zb (Za (ZQ rfl (YM [] #[.int .i64 0,.int .i64 0,.int .i64 0,.int .i64 0,.int .i64 0,.int .i64 0,.int .i64 0,.int .i64 0,.int .i64 0,.int .i64 0,.int .i64 0,.int .i64 0,.int .i64 0,.int .i64 0,.int .i64 0,.int .i64 0] rfl rfl (by kernel_rfl) rfl) T0 T0 T0 (ZQ rfl (sB 16 4 (.tmp 66) (.agg [iv 0,iv 0,iv 0,iv 0,iv 0,iv 0,iv 0,iv 0,iv 0,iv 0,iv 0,iv 0,iv 0,iv 0,iv 0,iv 0])) ⟨I0,I0,T0⟩ ⟨rfl,T0⟩ rfl (pM (aC (.bool false)) (Ze (Zc ?_)))))))))))))))))))))))
 refine Zk (Zh ?_)
 refine Yr Try.results41 (.cellS rfl rfl U78 rfl (z:=16) (by kernel_rfl) rfl (by decide)) (.tmp rfl) ?_
 have hr:(Rd.rdX p n f c)=false:=by simp only [Rd.rdX,Rd.rdB,hs1,hs2,hs3,hs4,hs5,decide_true,decide_false,Bool.and_true,Bool.true_and,Bool.false_and,Bool.and_false,Bool.not_true,Bool.not_false,if_true,if_false,true_or,or_true,or_self,not_true_eq_false,not_false_eq_true,ite_true,ite_false,or_false,false_or]
 rw [show (Rd.rdY p n f c)=false from hr,hr]
 exact rfl
 refine Zu (dM (mT 8 bT) (dA (Zq rfl rfl) I0 (dM (mT 23 bF) (dA (fb 1 3 U31 1) I0 (dB (lb (Zd c.st) 25 U24) I0 rfl (dA (nS 26 U24) I0 (dM (mT 0 (.el (Ns.sysC p n t f) 0)) (dA (Zx (off:=0) (.tmp 28) rfl) I0 (dA (fe 13 29 U111 1) I0 (dA (lE (iv (Ns.cntE p n f)) 30 U3) I0 (dC (Zs rfl (dT' hs2)) I0 I0 (dP (pk false bT bF rfl) (dM (mT 33 bF) (dA (fb 1 3 U31 1) I0 (dB (lb (Zd c.st) 35 U24) I0 rfl (dA (fb 2 6 U27 1) I0 (dB (lb (Zw p.states) 37 U22) I0 rfl (dA (nS 38 U22) I0 (dD (sc #[.tmp 36,.tmp 39] [] (ZS (Ke c.st (Nat.le_trans HC.lst (by decide))) hs3) [Zd c.st,iv p.states.length] rfl rfl rfl) I0 I0 I0 (dA (Zq rfl rfl) I0 (dP (pk false bT bF rfl) (dM (mT 42 bF) (dA (fb 2 3 U31 1) I0 (dB (lb (iv c.cor) 44 U3) I0 rfl (dM (mT 0 (.el (Ns.sysC p n t f) 0)) (dA (Zx (off:=0) (.tmp 46) rfl) I0 (dA (fe 14 47 U111 1) I0 (dA (lE (iv (n-f)) 48 U3) I0 (dC (Zs rfl (dF' hs4)) I0 I0 (dP (pk false bT bT rfl) (dE ?_))))))))))))))))))))))))))))))) (by kernel_rfl)
 show ETri J w0 _ _ _
 refine kW 124 [(1,.box 31 (Rd.cCg c)),(2,.box 78 [iv 0,iv 0,iv 0,iv 0,iv 0,iv 0,iv 0,iv 0,iv 0,iv 0,iv 0,iv 0,iv 0,iv 0,iv 0,iv 0]),(3,.box 27 [sv p.nm,iv p.top,Zw p.states,Zw p.msgs,Zw p.vals,iv p.fault,slA 4 cLn p.res,Zd p.init,Zd p.leader,slA 18 cRu p.rules])] [(3,.box 1 0),(4,.box 2 0),(5,bF),(6,.box 3 0),(7,iv (Rd.shI p.top (Ns.shT p.top (Ns.cntE p n f)) c.sh)),(51,bT)] (Zc (Zm rfl (Zb (Za (ZQ rfl (YM [] #[.int .i64 0,.int .i64 0,.int .i64 0,.int .i64 0,.int .i64 0,.int .i64 0,.int .i64 0,.int .i64 0,.int .i64 0,.int .i64 0,.int .i64 0,.int .i64 0,.int .i64 0,.int .i64 0,.int .i64 0,.int .i64 0] rfl rfl (by kernel_rfl) rfl) T0 T0 T0 (ZQ rfl (sB 16 4 (.tmp 52) (.agg [iv 0,iv 0,iv 0,iv 0,iv 0,iv 0,iv 0,iv 0,iv 0,iv 0,iv 0,iv 0,iv 0,iv 0,iv 0,iv 0])) ⟨I0,I0,T0⟩ ⟨rfl,T0⟩ rfl (pM (aC (.bool false)) (Ze (Zc (Zk (Zh ?_)))))))))))
 refine Yr Try.results41 (.cellS rfl rfl U78 rfl (z:=16) (by kernel_rfl) rfl (by decide)) (.tmp rfl) ?_
 have hr:(Rd.rdX p n f c)=false:=by simp only [Rd.rdX,Rd.rdB,hs1,hs2,hs3,hs4,decide_true,decide_false,Bool.and_true,Bool.true_and,Bool.false_and,Bool.and_false,Bool.not_true,Bool.not_false,if_true,if_false,true_or,or_true,or_self,not_true_eq_false,not_false_eq_true,ite_true,ite_false,or_false,false_or]
 rw [show (Rd.rdY p n f c)=false from hr,hr]
 exact rfl
 have hs3f:(Rd.belB c.st ((p.states.length:Nat):Int))=false:=by simpa using hs3
 refine Zu (dM (mT 8 bT) (dA (Zq rfl rfl) I0 (dM (mT 23 bF) (dA (fb 1 3 U31 1) I0 (dB (lb (Zd c.st) 25 U24) I0 rfl (dA (nS 26 U24) I0 (dM (mT 0 (.el (Ns.sysC p n t f) 0)) (dA (Zx (off:=0) (.tmp 28) rfl) I0 (dA (fe 13 29 U111 1) I0 (dA (lE (iv (Ns.cntE p n f)) 30 U3) I0 (dC (Zs rfl (dT' hs2)) I0 I0 (dP (pk false bT bF rfl) (dM (mT 33 bF) (dA (fb 1 3 U31 1) I0 (dB (lb (Zd c.st) 35 U24) I0 rfl (dA (fb 2 6 U27 1) I0 (dB (lb (Zw p.states) 37 U22) I0 rfl (dA (nS 38 U22) I0 (dD (sc #[.tmp 36,.tmp 39] [] (ZS (Ke c.st (Nat.le_trans HC.lst (by decide))) hs3f) [Zd c.st,iv p.states.length] rfl rfl rfl) I0 I0 I0 (dA (Zq rfl rfl) I0 (dP (pk false bT bT rfl) (dM (mT 42 bT) (dK (dK (dK (dK (dK (dK (dK (dP (pk true bT (.v (.tuple #[])) rfl) (dE ?_))))))))))))))))))))))))))))))) (by kernel_rfl)
 show ETri J w0 _ _ _
 refine kW 124 [(1,.box 31 (Rd.cCg c)),(2,.box 78 [iv 0,iv 0,iv 0,iv 0,iv 0,iv 0,iv 0,iv 0,iv 0,iv 0,iv 0,iv 0,iv 0,iv 0,iv 0,iv 0]),(3,.box 27 [sv p.nm,iv p.top,Zw p.states,Zw p.msgs,Zw p.vals,iv p.fault,slA 4 cLn p.res,Zd p.init,Zd p.leader,slA 18 cRu p.rules])] [(3,.box 1 0),(4,.box 2 0),(5,bF),(6,.box 3 0),(7,iv (Rd.shI p.top (Ns.shT p.top (Ns.cntE p n f)) c.sh)),(51,bT)] (Zc (Zm rfl (Zb (Za (ZQ rfl (YM [] #[.int .i64 0,.int .i64 0,.int .i64 0,.int .i64 0,.int .i64 0,.int .i64 0,.int .i64 0,.int .i64 0,.int .i64 0,.int .i64 0,.int .i64 0,.int .i64 0,.int .i64 0,.int .i64 0,.int .i64 0,.int .i64 0] rfl rfl (by kernel_rfl) rfl) T0 T0 T0 (ZQ rfl (sB 16 4 (.tmp 52) (.agg [iv 0,iv 0,iv 0,iv 0,iv 0,iv 0,iv 0,iv 0,iv 0,iv 0,iv 0,iv 0,iv 0,iv 0,iv 0,iv 0])) ⟨I0,I0,T0⟩ ⟨rfl,T0⟩ rfl (pM (aC (.bool false)) (Ze (Zc (Zk (Zh ?_)))))))))))
 refine Yr Try.results41 (.cellS rfl rfl U78 rfl (z:=16) (by kernel_rfl) rfl (by decide)) (.tmp rfl) ?_
 have hr:(Rd.rdX p n f c)=false:=by simp only [Rd.rdX,Rd.rdB,hs1,hs2,hs3f,decide_true,decide_false,Bool.and_true,Bool.true_and,Bool.false_and,Bool.and_false,Bool.not_true,Bool.not_false,if_true,if_false,true_or,or_true,or_self,not_true_eq_false,not_false_eq_true,ite_true,ite_false,or_false,false_or]
 rw [show (Rd.rdY p n f c)=false from hr,hr]
 exact rfl
 refine Zu (dM (mT 8 bT) (dA (Zq rfl rfl) I0 (dM (mT 23 bF) (dA (fb 1 3 U31 1) I0 (dB (lb (Zd c.st) 25 U24) I0 rfl (dA (nS 26 U24) I0 (dM (mT 0 (.el (Ns.sysC p n t f) 0)) (dA (Zx (off:=0) (.tmp 28) rfl) I0 (dA (fe 13 29 U111 1) I0 (dA (lE (iv (Ns.cntE p n f)) 30 U3) I0 (dC (Zs rfl (dF' hs2)) I0 I0 (dP (pk false bT bT rfl) (dM (mT 33 bT) (dK (dK (dK (dK (dK (dK (dK (dP (pk true bT (.v (.tuple #[])) rfl) (dM (mT 42 bT) (dK (dK (dK (dK (dK (dK (dK (dP (pk true bT (.v (.tuple #[])) rfl) (dE ?_))))))))))))))))))))))))))))))) (by kernel_rfl)
 show ETri J w0 _ _ _
 refine kW 124 [(1,.box 31 (Rd.cCg c)),(2,.box 78 [iv 0,iv 0,iv 0,iv 0,iv 0,iv 0,iv 0,iv 0,iv 0,iv 0,iv 0,iv 0,iv 0,iv 0,iv 0,iv 0]),(3,.box 27 [sv p.nm,iv p.top,Zw p.states,Zw p.msgs,Zw p.vals,iv p.fault,slA 4 cLn p.res,Zd p.init,Zd p.leader,slA 18 cRu p.rules])] [(3,.box 1 0),(4,.box 2 0),(5,bF),(6,.box 3 0),(7,iv (Rd.shI p.top (Ns.shT p.top (Ns.cntE p n f)) c.sh)),(51,bT)] (Zc (Zm rfl (Zb (Za (ZQ rfl (YM [] #[.int .i64 0,.int .i64 0,.int .i64 0,.int .i64 0,.int .i64 0,.int .i64 0,.int .i64 0,.int .i64 0,.int .i64 0,.int .i64 0,.int .i64 0,.int .i64 0,.int .i64 0,.int .i64 0,.int .i64 0,.int .i64 0] rfl rfl (by kernel_rfl) rfl) T0 T0 T0 (ZQ rfl (sB 16 4 (.tmp 52) (.agg [iv 0,iv 0,iv 0,iv 0,iv 0,iv 0,iv 0,iv 0,iv 0,iv 0,iv 0,iv 0,iv 0,iv 0,iv 0,iv 0])) ⟨I0,I0,T0⟩ ⟨rfl,T0⟩ rfl (pM (aC (.bool false)) (Ze (Zc (Zk (Zh ?_)))))))))))
 refine Yr Try.results41 (.cellS rfl rfl U78 rfl (z:=16) (by kernel_rfl) rfl (by decide)) (.tmp rfl) ?_
 have hr:(Rd.rdX p n f c)=false:=by simp only [Rd.rdX,Rd.rdB,hs1,hs2,decide_true,decide_false,Bool.and_true,Bool.true_and,Bool.false_and,Bool.and_false,Bool.not_true,Bool.not_false,if_true,if_false,true_or,or_true,or_self,not_true_eq_false,not_false_eq_true,ite_true,ite_false,or_false,false_or]
 rw [show (Rd.rdY p n f c)=false from hr,hr]
 exact rfl
 have hs1f:(Rd.shB p.top (Ns.shT p.top (Ns.cntE p n f)) c.sh)=false:=by simpa using hs1
 rw [hs1f]
 refine kW 124 [(1,.box 31 (Rd.cCg c)),(2,.box 78 [iv 0,iv 0,iv 0,iv 0,iv 0,iv 0,iv 0,iv 0,iv 0,iv 0,iv 0,iv 0,iv 0,iv 0,iv 0,iv 0]),(3,.box 27 [sv p.nm,iv p.top,Zw p.states,Zw p.msgs,Zw p.vals,iv p.fault,slA 4 cLn p.res,Zd p.init,Zd p.leader,slA 18 cRu p.rules])] [(0,.el (Ns.sysC p n t f) 0),(3,.box 1 0),(4,.box 2 0),(5,bF),(6,.box 3 0),(7,iv (Rd.shI p.top (Ns.shT p.top (Ns.cntE p n f)) c.sh)),(8,bF)] ?_
 refine Zu (dM (mT 8 bF) (dA (Zq rfl rfl) I0 (dM (mT 23 bT) (dK (dK (dK (dK (dK (dK (dK (dK (dP (pk true bT (.v (.tuple #[])) rfl) (dM (mT 33 bT) (dK (dK (dK (dK (dK (dK (dK (dP (pk true bT (.v (.tuple #[])) rfl) (dM (mT 42 bT) (dK (dK (dK (dK (dK (dK (dK (dP (pk true bT (.v (.tuple #[])) rfl) (dE ?_))))))))))))))))))))))))))))))) (by kernel_rfl)
 show ETri J w0 _ _ _
 refine kW 124 [(1,.box 31 (Rd.cCg c)),(2,.box 78 [iv 0,iv 0,iv 0,iv 0,iv 0,iv 0,iv 0,iv 0,iv 0,iv 0,iv 0,iv 0,iv 0,iv 0,iv 0,iv 0]),(3,.box 27 [sv p.nm,iv p.top,Zw p.states,Zw p.msgs,Zw p.vals,iv p.fault,slA 4 cLn p.res,Zd p.init,Zd p.leader,slA 18 cRu p.rules])] [(3,.box 1 0),(4,.box 2 0),(5,bF),(6,.box 3 0),(7,iv (Rd.shI p.top (Ns.shT p.top (Ns.cntE p n f)) c.sh)),(51,bT)] (Zc (Zm rfl (Zb (Za (ZQ rfl (YM [] #[.int .i64 0,.int .i64 0,.int .i64 0,.int .i64 0,.int .i64 0,.int .i64 0,.int .i64 0,.int .i64 0,.int .i64 0,.int .i64 0,.int .i64 0,.int .i64 0,.int .i64 0,.int .i64 0,.int .i64 0,.int .i64 0] rfl rfl (by kernel_rfl) rfl) T0 T0 T0 (ZQ rfl (sB 16 4 (.tmp 52) (.agg [iv 0,iv 0,iv 0,iv 0,iv 0,iv 0,iv 0,iv 0,iv 0,iv 0,iv 0,iv 0,iv 0,iv 0,iv 0,iv 0])) ⟨I0,I0,T0⟩ ⟨rfl,T0⟩ rfl (pM (aC (.bool false)) (Ze (Zc (Zk (Zh ?_)))))))))))
 refine Yr Try.results41 (.cellS rfl rfl U78 rfl (z:=16) (by kernel_rfl) rfl (by decide)) (.tmp rfl) ?_
 have hr:(Rd.rdX p n f c)=false:=by simp only [Rd.rdX,Rd.rdB,hs1f,decide_true,decide_false,Bool.and_true,Bool.true_and,Bool.false_and,Bool.and_false,Bool.not_true,Bool.not_false,if_true,if_false,true_or,or_true,or_self,not_true_eq_false,not_false_eq_true,ite_true,ite_false,or_false,false_or]
 rw [show (Rd.rdY p n f c)=false from hr,hr]
 exact rfl
namespace En
def cfV (s:Int) (c:Cf):List AV :=
  [iv s,iv (c.st.getD 0 0),iv (c.st.getD 1 0),iv (c.st.getD 2 0),iv (c.st.getD 3 0),iv (c.st.getD 4 0),iv (c.st.getD 5 0),iv (c.st.getD 6 0),iv (c.st.getD 7 0),
   iv (c.se.getD 0 0),iv (c.se.getD 1 0),iv (c.se.getD 2 0),iv (c.fa.getD 0 0),iv (c.fa.getD 1 0),iv (c.fa.getD 2 0),iv c.val]
theorem plain_cfV (s:Int) (c:Cf):∀ X∈cfV s c,Plain X:=by
  intro X hX
  simp only [cfV,List.mem_cons,List.not_mem_nil,or_false] at hX
  rcases hX with rfl | rfl | rfl | rfl | rfl | rfl | rfl | rfl | rfl | rfl | rfl | rfl | rfl | rfl | rfl | rfl<;>exact .v _
theorem cfV_st {s:Int} {c:Cf} {k:Nat} (h:k<8):(cfV s c)[1+k*1]? = some (iv (c.st.getD k 0)):=by
  obtain rfl | rfl | rfl | rfl | rfl | rfl | rfl | rfl:k=0∨k=1∨k=2∨k=3∨k=4∨k=5∨k=6∨k=7:=by omega
  all_goals rfl
theorem cfV_fa {s:Int} {c:Cf} {k:Nat} (h:k<3):(cfV s c)[12+k*1]? = some (iv (c.fa.getD k 0)):=by
  obtain rfl | rfl | rfl:k=0∨k=1∨k=2:=by omega
  all_goals rfl
theorem cfV_row {s:Int} {c:Cf} (h:c.st.length≤8):((cfV s c).drop 1).take c.st.length=c.st.map iv:=by
  apply List.ext_getElem?
  intro j
  rw [List.getElem?_take]
  by_cases hj:j<c.st.length
  · rw [if_pos hj,List.getElem?_drop,List.getElem?_map,List.getElem?_eq_getElem hj,Option.map_some]
    have:=cfV_st (s:=s) (c:=c) (k:=j) (by omega)
    rw [Nat.mul_one,Ct.getD_at hj] at this
    exact this
  rw [if_neg hj,List.getElem?_map,List.getElem?_eq_none (by omega)];rfl
def hdV (p:Fm) (f:Int) (c:Cf) (m:Nat):Int:=if p.fault=1∨p.fault=2 then c.se.getD m 0+c.fa.getD m 0 else if p.fault=3 then c.se.getD m 0+f else c.se.getD m 0
def hdJ (p:Fm) (f:Int) (c:Cf) (j m:Nat):Int:=if m<j then hdV p f c m else c.se.getD m 0
def msA (g:Nat→Int):List AV:=midF [] 3 (fun m=>iv (g m)) []
theorem plain_msA (g:Nat→Int):∀ X∈msA g,Plain X:=by
  intro X hX
  unfold msA midF at hX
  rw [List.nil_append,List.append_nil] at hX
  obtain ⟨j,_,rfl⟩:=List.mem_map.1 hX;exact .v _
theorem msA_get {g:Nat→Int} {k:Nat} (h:k<3):(msA g)[0+k*1]? = some (iv (g k)):=midF_get (i:=k) h (by show 0+k=_;omega)
theorem msA_step {p:Fm} {f:Int} {c:Cf} {j:Nat} {x:Int} (h:j<3) (hx:x=hdV p f c j):setAll (msA (hdJ p f c j)) (0+j*1) [iv x]=msA (hdJ p f c (j+1)) :=
  midF_set (i:=j) h (by show 0+j=_;omega) (by unfold hdJ;rw [if_pos (by omega),hx]) fun k _ hne=>by
    refine congrArg iv ?_
    unfold hdJ
    by_cases a:k<j
    · rw [if_pos a,if_pos (by omega)]
    rw [if_neg a,if_neg (by omega)]
theorem hdJ_skip {p:Fm} {f:Int} {c:Cf} {j:Nat} (h1:¬ p.fault=1) (h2:¬ p.fault=2) (h3:¬ p.fault=3):hdJ p f c (j+1)=hdJ p f c j:=by
  funext k
  unfold hdJ
  by_cases a:k<j
  · rw [if_pos a,if_pos (by omega)]
  rw [if_neg a]
  by_cases b:k<j+1
  · rw [if_pos b];unfold hdV;rw [if_neg (by omega),if_neg h3]
  rw [if_neg b]
theorem hdJ_at {p:Fm} {f:Int} {c:Cf} {j:Nat}:hdJ p f c j j=c.se.getD j 0:=by unfold hdJ;rw [if_neg (by omega)]
theorem hd_12 {p:Fm} {f:Int} {c:Cf} {j:Nat} (h:p.fault=1∨p.fault=2):hdJ p f c j j+c.fa.getD j 0=hdV p f c j:=by rw [hdJ_at];unfold hdV;rw [if_pos h]
theorem hd_3 {p:Fm} {f:Int} {c:Cf} {j:Nat} (h:¬ p.fault=1) (h2:¬ p.fault=2) (h3:p.fault=3):hdJ p f c j j+f=hdV p f c j:=by rw [hdJ_at];unfold hdV;rw [if_neg (by omega),if_pos h3]
def hdG (p:Fm) (f:Int) (c:Cf) (fo:Bool):Nat→Int:=if fo=true then (if p.fault=1 then hdJ p f c p.msgs.length else fun m=>c.se.getD m 0) else hdJ p f c p.msgs.length
def isP (n:Nat) (i:Int):Bool:=decide (0≤i)&&decide (i<((n:Nat):Int))
def ptB (c:Cf) (r:Ru) (i:Nat) (k:Int):Bool:=if r.kind=2∨r.kind=5 then isP c.st.length k && !decide (k=((i:Nat):Int))&&decide (c.st.getD k.toNat 0=r.pf) else decide (k = -1)
def rdN (c:Cf) (r:Ru):Bool:=decide (0≤r.rd) && !decide (c.val=r.rd)
def gdN (n t f:Int) (g:Nat→Int) (q:Th):Bool:=decide (q.coef*g q.msg.toNat<evN q.bd.c q.bd.n q.bd.t q.bd.f n t f)
def faN (c:Cf) (r:Ru) (i j:Nat):Bool := !decide (j=i)&&(decide (0<r.fa.length) && !decide (c.st.getD j 0∈r.fa))
def exY (c:Cf) (r:Ru) (i j:Nat):Bool := !decide (j=i)&&decide (c.st.getD j 0∈r.ex)
def exU (c:Cf) (r:Ru) (i J:Nat):Bool:=decide (((r.ex.length:Nat):Int)=0)||(List.range J).any (exY c r i)
def noF (c:Cf) (r:Ru) (i J:Nat):Prop:=∀ j,j<J→faN c r i j=false
def loB (n t f:Int) (c:Cf) (r:Ru) (g:Nat→Int) (i:Nat):Bool := !rdN c r&&(!r.guards.any (gdN n t f g)&&(!(List.range c.st.length).any (faN c r i)&&exU c r i c.st.length))
theorem noF_zero {c:Cf} {r:Ru} {i:Nat}:noF c r i 0:=fun _ h=>absurd h (by omega)
theorem noF_succ {c:Cf} {r:Ru} {i J:Nat} (h:noF c r i J) (e:faN c r i J=false):noF c r i (J+1):=fun j hj=>by
  by_cases a:j=J
  · subst a;exact e
  exact h j (by omega)
theorem exU_zero {c:Cf} {r:Ru} {i:Nat}:exU c r i 0=decide (((r.ex.length:Nat):Int)=0):=by unfold exU;simp
theorem exU_succ {c:Cf} {r:Ru} {i J:Nat}:exU c r i (J+1)=(exU c r i J||exY c r i J):=by unfold exU;rw [List.range_succ,List.any_append];simp [Bool.or_assoc]
theorem exU_same {c:Cf} {r:Ru} {i J:Nat} (h:J=i):exU c r i (J+1)=exU c r i J:=by rw [exU_succ];unfold exY;rw [decide_eq_true h];simp
theorem exU_t {c:Cf} {r:Ru} {i J:Nat} (h:exU c r i J=true):exU c r i (J+1)=true:=by rw [exU_succ,h];rfl
theorem exU_f {c:Cf} {r:Ru} {i J:Nat} (hJ:J<c.st.length) (h:exU c r i J=false) (hne:¬ J=i):exU c r i (J+1)=decide (c.st[J]∈r.ex):=by rw [exU_succ,h];unfold exY;rw [decide_eq_false hne,Ct.getD_at hJ];rfl
theorem lo_rd {n t f:Int} {c:Cf} {r:Ru} {g:Nat→Int} {i:Nat} (h:rdN c r=true):loB n t f c r g i=false:=by unfold loB;rw [h];rfl
theorem lo_gd {n t f:Int} {c:Cf} {r:Ru} {g:Nat→Int} {i k:Nat} (hk:k<r.guards.length) (h:r.guards[k].coef*g r.guards[k].msg.toNat<gbV r n t f k):loB n t f c r g i=false:=by
  have:r.guards.any (gdN n t f g)=true:=by
    refine Rd.any_one hk ?_
    unfold gdN
    unfold gbV at h
    rw [List.getD_eq_getElem?_getD,List.getElem?_eq_getElem hk,Option.getD_some] at h
    exact decide_eq_true h
  unfold loB
  rw [this]
  simp
theorem gd_no {n t f:Int} {r:Ru} {g:Nat→Int} {k:Nat} (hk:k<r.guards.length) (h:¬ r.guards[k].coef*g r.guards[k].msg.toNat<gbV r n t f k):gdN n t f g r.guards[k]=false:=by
  unfold gdN
  unfold gbV at h
  rw [List.getD_eq_getElem?_getD,List.getElem?_eq_getElem hk,Option.getD_some] at h
  exact decide_eq_false h
theorem lo_fa {n t f:Int} {c:Cf} {r:Ru} {g:Nat→Int} {i j:Nat} (hj:j<c.st.length) (h:faN c r i j=true):loB n t f c r g i=false:=by
  have:(List.range c.st.length).any (faN c r i)=true:=List.any_eq_true.2 ⟨j,List.mem_range.2 hj,h⟩
  unfold loB
  rw [this]
  simp
theorem lo_ex {n t f:Int} {c:Cf} {r:Ru} {g:Nat→Int} {i k j:Nat} (h:rdN c r=false) (hk:¬ k<r.guards.length) (h2:Rd.noP r.guards (gdN n t f g) k) (hj:¬ j<c.st.length) (hjl:j≤c.st.length) (h3:noF c r i j):loB n t f c r g i=exU c r i j:=by
  obtain rfl:j=c.st.length:=by omega
  have h4:(List.range c.st.length).any (faN c r i)=false:=List.any_eq_false.2 fun x hx=>by
    have:=h3 x (List.mem_range.1 hx)
    simp [this]
  unfold loB
  rw [h,Rd.any_none hk h2,h4]
  rfl
theorem fa_same {c:Cf} {r:Ru} {i j:Nat} (h:j=i):faN c r i j=false:=by unfold faN;rw [decide_eq_true h];rfl
theorem fa_none {c:Cf} {r:Ru} {i j:Nat} (h:¬ 0<((r.fa.length:Nat):Int)):faN c r i j=false:=by unfold faN;rw [decide_eq_false (show ¬ 0<r.fa.length by omega)];simp
theorem fa_in {c:Cf} {r:Ru} {i j:Nat} (hj:j<c.st.length) (h:decide (c.st[j]∈r.fa)=true):faN c r i j=false:=by unfold faN;rw [Ct.getD_at hj,h];simp
theorem fa_out {c:Cf} {r:Ru} {i j:Nat} (hj:j<c.st.length) (hne:¬ j=i) (h0:0<((r.fa.length:Nat):Int)) (h:decide (c.st[j]∈r.fa)=false):faN c r i j=true:=by
  unfold faN;rw [Ct.getD_at hj,h,decide_eq_false hne,decide_eq_true (show 0<r.fa.length by omega)];rfl
def lkP (top:Int) (sh:List Int) (n i:Nat):Int:=if top=4 then (trun sh sh.length).pa i else (rowL top n i).2.2
def fitB (c:Cf) (w:Int) (l:List Int):Bool:=decide (((l.length:Nat):Int)=0)||(decide (0≤w)&&decide (c.st.getD w.toNat 0∈l))
def nbB (top:Int) (c:Cf) (r:Ru) (i:Nat):Bool :=
  !(decide (r.pos=1) && !decide (((i:Nat):Int)=0))&&(!(decide (r.pos=2)&&decide (0≤Jd.lkS top c.sh c.st.length i)) &&
    (fitB c (Jd.lkF top c.sh c.st.length i) r.left&&(fitB c (Jd.lkS top c.sh c.st.length i) r.right&&fitB c (lkP top c.sh c.st.length i) r.parent)))
def psB (top:Int) (c:Cf) (r:Ru) (i:Nat) (k:Int):Bool :=
  if r.dir=1 then decide (k=Jd.lkS top c.sh c.st.length i) else if r.dir=2 then decide (k=Jd.lkF top c.sh c.st.length i)
  else if r.dir=3 then decide (k=Jd.lkF top c.sh c.st.length i)||decide (k=Jd.lkS top c.sh c.st.length i) else decide (k=lkP top c.sh c.st.length i)
def enR (top n t f:Int) (c:Cf) (g:Nat→Int) (r:Ru) (i:Nat) (k:Int):Bool :=
  decide (c.st.getD i 0=r.frm)&&(ptB c r i k&&(if r.kind=1 then loB n t f c r g i else if r.kind=4 then nbB top c r i else if r.kind=5 then psB top c r i k else decide (r.rd<0)||decide (c.val=r.rd)))
def enB (p:Fm) (n t f:Int) (c:Cf) (g:Nat→Int) (x y k:Int):Bool :=
  isP p.rules.length x&&(isP c.st.length y&&enR p.top n t f c g (p.rules.getD x.toNat default) y.toNat k)
theorem lk_el {top:Int} {sh:List Int} {n i:Nat} (h:i<n):(((List.range (n*3)).map fun j=>iv (Jd.lkC top sh n j)).drop (i*3)).take 3=[iv (Jd.lkF top sh n i),iv (Jd.lkS top sh n i),iv (lkP top sh n i)]:=by
  have e2:Jd.lkC top sh n (i*3+2)=lkP top sh n i:=by
    unfold Jd.lkC lkP
    rw [if_neg (by omega),if_neg (by omega),show (i*3+2) / 3=i by omega,show (((i*3+2:Nat):Int)) / 3=((i:Nat):Int) by omega]
  apply List.ext_getElem?
  intro j
  rw [List.getElem?_take]
  by_cases hj:j<3
  · rw [if_pos hj,List.getElem?_drop,List.getElem?_map,List.getElem?_range (by omega),Option.map_some]
    obtain rfl | rfl | rfl:j=0∨j=1∨j=2:=by omega
    · rw [Nat.add_zero,Jd.lkC_F];rfl
    · rw [Jd.lkC_S];rfl
    rw [e2];rfl
  rw [if_neg hj,List.getElem?_eq_none (by simp;omega)]
theorem links_at {top:Int} {c:Cf} {n:Nat} {s:Int} (hs:(shS top n)[s.toNat]? = some c.sh) (hn:n=c.st.length):((shS top n).flatMap (cLkS top n))[s.toNat*1]? = some (Jd.lkA top c.sh c.st.length):=by
  obtain ⟨h1,h2⟩:=List.getElem?_eq_some_iff.1 hs
  have:=ZA (z:=1) (f:=cLkS top n) (fun _=>rfl) (shS top n) s.toNat 0 h1 (by decide)
  rw [Nat.add_zero] at this
  rw [this,h2,← hn]
  rfl
theorem mulW {a b:Int} (h1:1≤a) (h2:a≤100) (h3:0≤b) (h4:b≤3000000):IntKind.i64.wrap (a*b)=a*b:=by
  have h5:0≤a*b:=Int.mul_nonneg (by omega) h3
  have h6:a*b≤100*3000000:=Int.mul_le_mul h2 h4 h3 (by omega)
  exact w64 rfl (by omega) (by omega)
structure RuV (p:Fm) (r:Ru):Prop where
  kd:1≤r.kind∧r.kind≤5
  kt:r.kind≤3↔p.top=1
  gd:∀ g∈r.guards,0≤g.msg∧g.msg<p.msgs.length∧1≤g.coef∧g.coef≤100
  gl:r.guards.length≤2
  rd:r.rd = -1∨(0≤r.rd∧r.rd<p.vals.length)
  wr:r.wr = -1∨(0≤r.wr∧r.wr<p.vals.length)
  em:¬ r.kind=1→¬ r.kind=2→¬ r.kind=3→r.rd = -1∧r.wr = -1
  po:r.kind=4→r.pos≠0→p.top≠3
  pi:r.kind=4→0≤r.pos∧r.pos≤2
  dr:r.kind=5→(p.top=4→r.dir=3∨r.dir=4)∧(p.top≠4→r.dir=1∨r.dir=2)
  tf:(0≤r.to∧r.to<p.states.length)∧(0≤r.frm∧r.frm<p.states.length)
  pt:r.kind=2∨r.kind=5→0≤r.pt∧r.pt<p.states.length
  re:r.kind=3→r.resp.length=p.states.length∧∀ x∈r.resp,0≤x∧x<p.states.length
  se:∀ x∈r.send,0≤x∧x<p.msgs.length
  sk:¬ r.kind=1→r.send=[]
theorem ix_in {n:Nat} {x:Int} (h:ixB n x=true):0≤x∧x<n:=by
  unfold ixB inB at h
  simp only [Bool.and_eq_true,decide_eq_true_eq] at h
  omega
theorem set_in {n:Nat} {xs:List Int} (h:setE n xs=0):∀ x∈xs,0≤x∧x<n:=by
  unfold setE at h
  split at h
  · cases h
  rename_i h1
  intro x hx
  simp only [Bool.not_eq_false,allK,List.take_length,List.all_eq_true] at h1
  exact ix_in (h1 x hx)
theorem gus_in {n:Nat}:∀ {gs:List Th},gusE n gs=0→∀ g∈gs,guE n g=0
  | [],_,g,hg=>by cases hg
  | a::l,h,g,hg=>by
    unfold gusE at h
    split at h
    · rename_i h1
      rcases List.mem_cons.1 hg with rfl | hg
      · exact h1
      exact gus_in h g hg
    rename_i h1;exact absurd h h1
theorem gu_in {n:Nat} {g:Th} (h:guE n g=0):0≤g.msg∧g.msg<n∧1≤g.coef∧g.coef≤100:=by
  unfold guE at h
  split at h
  · cases h
  rename_i h1
  split at h
  · cases h
  rename_i h2
  have h3:=ix_in (by simpa using h1)
  unfold inB at h2
  simp only [Bool.not_eq_false,Bool.and_eq_true,decide_eq_true_eq] at h2
  omega
theorem sh_in {n:Nat} {a b:Int} (h:shE n a b=0):(a = -1∨(0≤a∧a<n))∧(b = -1∨(0≤b∧b<n)):=by
  unfold shE at h
  split at h
  · cases h
  rename_i h1
  simp only [not_or,not_and,Bool.not_eq_false] at h1
  constructor
  · by_cases e:a = -1
    · exact .inl e
    exact .inr (ix_in (h1.1 e))
  by_cases e:b = -1
  · exact .inl e
  exact .inr (ix_in (h1.2 e))
theorem val_rule {p:Fm} (h:valE p=0) {r:Ru} (hr:r∈p.rules):∃ i,rruleE p i r=0:=by
  unfold valE at h
  split at h
  · cases h
  split at h
  · cases h
  split at h
  · cases h
  rename_i hst
  split at h
  · cases h
  split at h
  · cases h
  split at h
  · cases h
  split at h
  · cases h
  have a3:=ZW (ZW (ZW h).2).2
  obtain ⟨j,hj,rfl⟩:=List.getElem_of_mem hr
  have:=Ns.rulesE_all _ _ a3.1 j (Nat.zero_le _) (by omega)
  rw [List.getD_eq_getElem?_getD,List.getElem?_eq_getElem hj,Option.getD_some] at this
  exact ⟨j,by rw [← rule_eq p j _ (fun e=>hst (by rw [e];rfl))];exact this⟩
theorem rule_in {p:Fm} {r:Ru} {i:Nat} (h:rruleE p i r=0):RuV p r:=by
  unfold rruleE at h
  split at h
  · cases h
  split at h
  · cases h
  rename_i h1
  split at h
  · cases h
  rename_i h2
  have hk:rkindB r p.top=true:=by simpa using h1
  unfold rkindB at hk
  rw [Bool.and_eq_true,Bool.and_eq_true] at hk
  obtain ⟨⟨k1,k2⟩,k3⟩:=hk
  have E:=(unused_emp r p.top).1 (by simpa using k3)
  have hs:rstB r p.states.length=true:=by simpa using h2
  unfold rstB at hs
  rw [Bool.and_eq_true,Bool.and_eq_true] at hs
  obtain ⟨⟨s1,s2⟩,s3⟩:=hs
  unfold inB at k1
  simp only [Bool.and_eq_true,decide_eq_true_eq] at k1
  have k2':r.kind≤3↔p.top=1:=by
    have:=eq_of_beq k2
    exact decide_eq_decide.1 this
  unfold rpartE at h
  have a0:=ZW h
  have a1:=ZW a0.2
  have a2:=ZW a1.2
  have a3:=ZW a2.2
  have a4:=ZW a3.2
  have a5:=ZW a4.2
  have a6:=ZW a5.2
  have a7:=ZW a6.2
  have a8:=ZW a7.2
  have a9:=ZW a8.2
  have hg:=a1.1
  unfold guardE at hg
  refine ⟨k1,k2',fun g hgm => ?_,?_,(sh_in a4.1).1,(sh_in a4.1).2,fun n1 n2 n3=>E.s n1 n2 n3,fun k4 hp => ?_,fun k4 => ?_,fun k5 => ?_,⟨ix_in s2,ix_in s1⟩,fun hpp => ?_,fun k3 => ?_,set_in a5.1,fun n1=>(E.g n1).2.2.2⟩
  · split at hg
    · rename_i g0
      exact gu_in (gus_in g0 g hgm)
    rename_i g0;exact absurd hg g0
  · split at hg
    · split at hg
      · cases hg
      omega
    rename_i g0;exact absurd hg g0
  · have hpo:=a9.1
    rw [if_pos k4] at hpo
    unfold posE at hpo
    split at hpo
    · cases hpo
    rename_i hq
    intro h3
    exact hq (.inr ⟨hp,h3⟩)
  · have hpo:=a9.1
    rw [if_pos k4] at hpo
    unfold posE at hpo
    split at hpo
    · cases hpo
    rename_i hq
    have hq1:inB 0 2 r.pos=true:=by
      cases e:inB 0 2 r.pos with
      | true=>rfl
      | false=>exact absurd (.inl e) hq
    unfold inB at hq1
    simpa using hq1
  · have hd:=a9.2
    rw [if_pos k5] at hd
    unfold dirE at hd
    constructor
    · intro h4
      rw [if_pos h4] at hd
      split at hd
      · assumption
      cases hd
    intro h4
    rw [if_neg h4] at hd
    split at hd
    · assumption
    cases hd
  · rw [Bool.or_eq_true] at s3
    rcases s3 with s3 | s3
    · rw [Bool.not_eq_true',Bool.or_eq_false_iff,decide_eq_false_iff_not,decide_eq_false_iff_not] at s3
      omega
    rw [Bool.and_eq_true] at s3
    exact ix_in s3.2
  have hre:=a0.1
  rw [if_pos k3] at hre
  unfold reE at hre
  split at hre
  · cases hre
  rename_i hl
  split at hre
  · cases hre
  rename_i h5
  refine ⟨by simpa using hl,fun x hx => ?_⟩
  simp only [Bool.not_eq_false,allK,List.take_length,List.all_eq_true] at h5
  exact ix_in (h5 x hx)
theorem val_in {p:Fm} (h:valE p=0) {r:Ru} (hr:r∈p.rules):RuV p r:=by
  obtain ⟨i,h⟩:=val_rule h hr
  exact rule_in h
theorem val_sizes {p:Fm} (h:valE p=0):p.rules.length≤8∧p.states.length≤6∧p.msgs.length≤3∧p.vals.length≤3:=by
  unfold valE at h
  split at h
  · cases h
  split at h
  · cases h
  split at h
  · cases h
  split at h
  · cases h
  rename_i g
  exact too_rules (by simpa using g)
structure CfV (p:Fm) (n f:Int) (c:Cf):Prop where
  ln:((c.st.length:Nat):Int)=Ns.cntE p n f
  st:∀ x∈c.st,0≤x∧x<p.states.length
  co:c.cor=n-f
  ls:c.se.length=p.msgs.length
  se:∀ x∈c.se,0≤x∧x≤1048576
  lf:c.fa.length=p.msgs.length
  fa:∀ x∈c.fa,0≤x∧x≤1048576
  fz:¬ p.fault=1→¬ p.fault=2→∀ x∈c.fa,x=0
  va:0≤c.val∧c.val<max ((p.vals.length:Nat):Int) 1
  sh:Rd.shB p.top (Ns.shT p.top (Ns.cntE p n f)) c.sh=true
theorem bel_in {xs:List Int} {m:Int} (h:Rd.belB xs m=true):∀ x∈xs,0≤x∧x<m:=by
  intro x hx
  unfold Rd.belB at h
  rw [Bool.not_eq_true',List.any_eq_false] at h
  have:=h x hx
  unfold Rd.outB at this
  simp only [Bool.or_eq_true,decide_eq_true_eq,not_or] at this
  omega
theorem cf_in {p:Fm} {n f:Int} {c:Cf} (h:Rd.rdX p n f c=true):CfV p n f c:=by
  unfold Rd.rdX Rd.rdB at h
  simp only [Bool.and_eq_true,Bool.not_eq_true',decide_eq_true_eq,decide_eq_false_iff_not] at h
  obtain ⟨⟨⟨⟨⟨⟨⟨⟨⟨h1,h2⟩,h3⟩,h4⟩,h5⟩,h6⟩,h7⟩,h8⟩,h9⟩,h10⟩:=h
  have hm:=Rd.mf_in p
  refine ⟨h2,bel_in h3,h4,by omega,fun x hx => ?_,by omega,fun x hx => ?_,fun n1 n2 x hx => ?_,by omega,h1⟩
  · have:=bel_in h6 x hx;omega
  · have:=bel_in h8 x hx;omega
  have:=bel_in h8 x hx
  unfold Rd.mfE at this
  rw [if_neg (by omega)] at this
  omega
theorem CfV.se_at {p:Fm} {n f:Int} {c:Cf} (h:CfV p n f c) (m:Nat):0≤c.se.getD m 0∧c.se.getD m 0≤1048576:=by
  by_cases hm:m<c.se.length
  · rw [Ct.getD_at hm];exact h.se _ (List.getElem_mem hm)
  rw [List.getD_eq_getElem?_getD,List.getElem?_eq_none (by omega)];exact ⟨by decide,by decide⟩
theorem CfV.fa_at {p:Fm} {n f:Int} {c:Cf} (h:CfV p n f c) (m:Nat):0≤c.fa.getD m 0∧c.fa.getD m 0≤1048576:=by
  by_cases hm:m<c.fa.length
  · rw [Ct.getD_at hm];exact h.fa _ (List.getElem_mem hm)
  rw [List.getD_eq_getElem?_getD,List.getElem?_eq_none (by omega)];exact ⟨by decide,by decide⟩
theorem hdV_in {p:Fm} {n f:Int} {c:Cf} (h:CfV p n f c) (hf:0≤f∧f≤1048576) (m:Nat):0≤hdV p f c m∧hdV p f c m≤3000000:=by
  have h1:=h.se_at m
  have h2:=h.fa_at m
  unfold hdV
  split
  · omega
  split<;>omega
theorem hdJ_in {p:Fm} {n f:Int} {c:Cf} (h:CfV p n f c) (hf:0≤f∧f≤1048576) (j m:Nat):0≤hdJ p f c j m∧hdJ p f c j m≤3000000:=by
  have h1:=h.se_at m
  have h2:=hdV_in h hf m
  unfold hdJ
  split
  · exact h2
  omega
theorem shI_at {p:Fm} {n f:Int} {c:Cf} (h:CfV p n f c) (h1:¬ p.top=1) (ht:1≤p.top∧p.top≤4) (h0:0≤Ns.cntE p n f):0≤Rd.shI p.top (Ns.shT p.top (Ns.cntE p n f)) c.sh∧Rd.shI p.top (Ns.shT p.top (Ns.cntE p n f)) c.sh<(((shS p.top (Ns.cntE p n f).toNat).length:Nat):Int)∧(shS p.top (Ns.cntE p n f).toNat)[(Rd.shI p.top (Ns.shT p.top (Ns.cntE p n f)) c.sh).toNat]? = some c.sh:=by
  have hs:=h.sh
  obtain ⟨m,hm⟩:=Int.eq_ofNat_of_zero_le h0
  rw [hm] at hs ⊢
  rw [Int.toNat_natCast]
  by_cases h4:p.top=4
  · rw [Rd.shB_tree h4,decide_eq_true_iff] at hs
    rw [Rd.shI_tree h4]
    unfold shS
    rw [if_pos h4]
    rw [Ns.shT_tree h4] at hs ⊢
    rw [Int.max_eq_left hs]
    unfold Rd.ixP at hs ⊢
    split
    · rename_i i hi
      obtain ⟨a,b,_⟩:=List.findIdx?_eq_some_iff_getElem.1 hi
      refine ⟨by omega,by omega,?_⟩
      rw [Int.toNat_natCast,List.getElem?_eq_getElem a]
      have:=of_decide_eq_true b
      rw [this]
    rename_i hi
    rw [hi] at hs
    exact absurd hs (by decide)
  rw [Rd.shB_no h4,decide_eq_true_iff] at hs
  rw [Rd.shI_no h4]
  unfold shS
  rw [if_neg h4,if_pos (by omega)]
  have:c.sh=[]:=List.eq_nil_of_length_eq_zero (by omega)
  rw [this]
  exact ⟨by decide,by decide,rfl⟩
theorem sh_tree {p:Fm} {n f:Int} {c:Cf} (h:CfV p n f c) (h4:p.top=4):isShp c.sh ((c.st.length:Nat):Int)=true:=by
  have hs:=h.sh
  have hl:=h.ln
  rw [Rd.shB_tree h4,decide_eq_true_iff,Ns.shT_tree h4,← hl] at hs
  unfold Rd.ixP at hs
  split at hs
  · rename_i i hi
    obtain ⟨a,b,_⟩:=List.findIdx?_eq_some_iff_getElem.1 hi
    have e:=of_decide_eq_true b
    have:=shX_is _ (List.getElem_mem a)
    rw [← e] at this
    unfold isShp
    rw [this.2,decide_eq_true (by omega)];rfl
  exact absurd hs (by decide)
theorem lk_ok {p:Fm} {n f:Int} {c:Cf} (h:CfV p n f c) (h1:¬ p.top=1) (ht:1≤p.top∧p.top≤4) {i:Nat} (hi:i<c.st.length):Jd.lkF p.top c.sh c.st.length i<((c.st.length:Nat):Int)∧Jd.lkS p.top c.sh c.st.length i<((c.st.length:Nat):Int)∧lkP p.top c.sh c.st.length i<((c.st.length:Nat):Int):=by
  by_cases h4:p.top=4
  · have hs:=sh_tree h h4
    unfold isShp at hs
    simp only [Bool.and_eq_true,decide_eq_true_eq] at hs
    have hl:c.sh.length=c.st.length:=by omega
    have:=Jd.lk_tree hs.2 i (by omega)
    rw [h4,← hl]
    refine ⟨this.1,this.2,?_⟩
    unfold lkP
    rw [if_pos rfl]
    rcases (tree_ok c.sh hs.2).1.par i (by omega) with e | ⟨q,hq,e,_⟩<;>omega
  have:=Jd.lk_row (sh:=c.sh) (n:=c.st.length) (show p.top=2∨p.top=3 by omega) i hi
  refine ⟨this.1,this.2,?_⟩
  unfold lkP
  rw [if_neg h4]
  unfold rowL
  dsimp only
  omega
end En
def Rd.rdW (p:Fm) (n t f:Int) (c:Cf):Bool:=decide (Ns.sysE p n t f=0)&&Rd.rdX p n f c
set_option maxRecDepth 100000 in
set_option maxHeartbeats 6400000 in
theorem open_err {p:Fm} (HP:FmOk p) {n t f:Int} {c:Cf} (HC:Rd.CgOk c) (hs:¬ Ns.sysE p n t f=0):Ctr Try.prog J 23 [.agg (cFm p),.agg (cSz n t f),.agg (Rd.cCg c)] (.tup [.any,.agg (Rd.cfZ (Rd.rdW p n t f c) (Rd.shI p.top (Ns.shT p.top (Ns.cntE p n f)) c.sh) c),iv (Rd.vcE p n t f c)]):=by
 refine ZJ Try.func23 rfl (by intro X hX;simp only [List.mem_cons,List.not_mem_nil,or_false] at hX;rcases hX with rfl | rfl | rfl;exact Zt (YN p);exact Zt (KH n t f);exact Zt (Rd.plain_cg c)) (n:=34) rfl (by simp) (fun w0 => ?_)
 refine kW 34 [] [(0,.agg (cFm p)),(1,.agg (cSz n t f)),(2,.agg (Rd.cCg c))] (Zb (Za (ZQ rfl (YC (X := .agg (cFm p)) (k:=1) (.tmp 0) rfl rfl) ⟨I0,T0⟩ T0 rfl (ZQ rfl (YC (X := .agg (cSz n t f)) (k:=2) (.tmp 1) rfl rfl) ⟨I0,T0⟩ T0 rfl (ZQ rfl (YC (X := .agg (Rd.cCg c)) (k:=3) (.tmp 2) rfl rfl) ⟨I0,T0⟩ T0 rfl (pM (Ym (.const (.pointer none)) (.v (.pointer none)) rfl) (ZQ rfl (Z0 (z := .agg #[.int .i64 0,.int .i64 0,.int .i64 0,.int .i64 0,.int .i64 0,.int .i64 0,.int .i64 0,.int .i64 0,.int .i64 0,.int .i64 0,.int .i64 0,.int .i64 0,.int .i64 0,.int .i64 0,.int .i64 0,.int .i64 0]) (k:=4) rfl (by kernel_rfl)) T0 T0 rfl (pM (aC (.int .i64 0)) (Ze (Zc (Zb (Za (oB (lS (cFm p) 10 3 U27) I0 rfl (oB (lS (cSz n t f) 3 4 U29) I0 rfl (oD (sp_callA (c := .func 40) (xs := #[.tmp 14,.tmp 15]) (newSystem_err HP hs) rfl (by kernel_rfl) rfl (Xs:=[.agg (cFm p),.agg (cSz n t f)]) rfl rfl) I0 I0 I0 (pM (mT 16 (.tup [.v (.pointer none),iv (Ns.sysE p n t f)])) (oA (ZT (X := .v (.pointer none)) (.tmp 13) rfl rfl) I0 (oA (ZT (X:=iv (Ns.sysE p n t f)) (.tmp 13) rfl rfl) I0 (pM (aT 17 (.v (.pointer none))) (pM (aT 18 (iv (Ns.sysE p n t f))) (Ze (Zc (Zb ?_)))))))))))))))))))))))
 refine Zb (Za (pM (mT 10 (iv (Ns.sysE p n t f))) (oC (Zs rfl (dF' hs)) I0 I0 (Ze (Zc (Zm rfl (Zb (Za (ZQ rfl (YM [] #[.int .i64 0,.int .i64 0,.int .i64 0,.int .i64 0,.int .i64 0,.int .i64 0,.int .i64 0,.int .i64 0,.int .i64 0,.int .i64 0,.int .i64 0,.int .i64 0,.int .i64 0,.int .i64 0,.int .i64 0,.int .i64 0] rfl rfl (by kernel_rfl) rfl) T0 T0 T0 (pM (mT 10 (iv (Ns.sysE p n t f))) (pM (Ym (.const (.pointer none)) (.v (.pointer none)) rfl) (ZQ rfl (sB 16 7 (.tmp 21) (.agg [iv 0,iv 0,iv 0,iv 0,iv 0,iv 0,iv 0,iv 0,iv 0,iv 0,iv 0,iv 0,iv 0,iv 0,iv 0,iv 0])) ⟨I0,I0,T0⟩ ⟨rfl,T0⟩ rfl (pM (aT 22 (iv (Ns.sysE p n t f))) (Ze (Zc (Zk (Zh (kW 34 [(3,.box 31 (Rd.cCg c)),(4,.box 78 [iv 0,iv 0,iv 0,iv 0,iv 0,iv 0,iv 0,iv 0,iv 0,iv 0,iv 0,iv 0,iv 0,iv 0,iv 0,iv 0])] [(5,.box 3 0),(7,.box 4 0),(8,iv (Ns.sysE p n t f)),(9,.v (.pointer none))] ?_))))))))))))))))))
 refine tri_end3 Try.results23 (.tmp rfl) (.cellS rfl rfl U78 rfl (z:=16) (by kernel_rfl) rfl (by decide)) (.tmp rfl) ?_
 have hw:(Rd.rdW p n t f c)=false:=by unfold Rd.rdW;rw [decide_eq_false hs];rfl
 have hr:Rd.vcE p n t f c=Ns.sysE p n t f:=by unfold Rd.vcE;rw [if_neg hs]
 rw [hw,hr]
 exact rfl
set_option maxRecDepth 100000
set_option maxHeartbeats 6400000
theorem En.read_t {p:Fm} {n t f:Int} {c:Cf} (HC:Rd.CgOk c) (hx:Rd.rdX p n f c=true):Ctr Try.prog J 41 [.el (Ns.sysC p n t f) 0,.agg (Rd.cCg c)] (.tup [.agg (En.cfV (Rd.shI p.top (Ns.shT p.top (Ns.cntE p n f)) c.sh) c),bT]):=by
  have h:=read_c (J:=J) (p:=p) (n:=n) (t:=t) (f:=f) HC
  rw [show Rd.rdY p n f c=true from hx,hx] at h
  exact h
theorem pu_part {F ok:Nat→Prop} {w:World} {cs ds:List AV} {o:Nat} {v:Value} (hl:cs.length=ds.length) (h:∀ (j:Nat) (h1:j<cs.length) (h2:j<ds.length),ds[j]=cs[j]∨ds[j] = .any) (hp:Pu F w ok (.el cs o) v):Pu F w ok (.el ds o) v:=by
  cases hp with
  | el hb hw hf hh =>
    refine .el hb hw (fun j hj=>hf j (by omega)) fun j hj => ?_
    rcases h j (by omega) hj with e | e
    · rw [e];exact hh j (by omega)
    rw [e];exact .any _
theorem En.sys_part {p:Fm} {n t f:Int}:(En.sysP p n t f).length=(Ns.sysC p n t f).length∧∀ (j:Nat) (h1:j<(En.sysP p n t f).length) (h2:j<(Ns.sysC p n t f).length),(Ns.sysC p n t f)[j]=(En.sysP p n t f)[j]∨(Ns.sysC p n t f)[j] = .any:=by
  refine ⟨by unfold En.sysP;rw [En.sysB_len];rfl,fun j h1 h2 => ?_⟩
  have h3:j<33:=h2
  obtain rfl | rfl | rfl | rfl | rfl | rfl | rfl | rfl | rfl | rfl | rfl | rfl | rfl | rfl | rfl | rfl | rfl | rfl | rfl | rfl | rfl | rfl | rfl | rfl | rfl | rfl | rfl | rfl | rfl | rfl | rfl | rfl | rfl:j=0∨j=1∨j=2∨j=3∨j=4∨j=5∨j=6∨j=7∨j=8∨j=9∨j=10∨j=11∨j=12∨j=13∨j=14∨j=15∨j=16∨j=17∨j=18∨j=19∨j=20∨j=21∨j=22∨j=23∨j=24∨j=25∨j=26∨j=27∨j=28∨j=29∨j=30∨j=31∨j=32:=by omega
  · exact .inl (by kernel_rfl)
  · exact .inl (by kernel_rfl)
  · exact .inl (by kernel_rfl)
  · exact .inl (by kernel_rfl)
  · exact .inl (by kernel_rfl)
  · exact .inl (by kernel_rfl)
  · exact .inl (by kernel_rfl)
  · exact .inl (by kernel_rfl)
  · exact .inl (by kernel_rfl)
  · exact .inl (by kernel_rfl)
  · exact .inl (by kernel_rfl)
  · exact .inl (by kernel_rfl)
  · exact .inl (by kernel_rfl)
  · exact .inl (by kernel_rfl)
  · exact .inl (by kernel_rfl)
  · exact .inr rfl
  · exact .inr rfl
  · exact .inr rfl
  · exact .inr rfl
  · exact .inr rfl
  · exact .inr rfl
  · exact .inr rfl
  · exact .inr rfl
  · exact .inr rfl
  · exact .inr rfl
  · exact .inr rfl
  · exact .inr rfl
  · exact .inr rfl
  · exact .inr rfl
  · exact .inr rfl
  · exact .inr rfl
  · exact .inl (by kernel_rfl)
  exact .inr rfl
theorem En.read_p {p:Fm} {n t f:Int} {c:Cf} (HC:Rd.CgOk c) (hx:Rd.rdX p n f c=true):Ctr Try.prog J 41 [.el (En.sysP p n t f) 0,.agg (Rd.cCg c)] (.tup [.agg (En.cfV (Rd.shI p.top (Ns.shT p.top (Ns.cntE p n f)) c.sh) c),bT]):=by
  intro w vs hJ hl hv
  refine En.read_t (J:=J) (p:=p) (n:=n) (t:=t) (f:=f) HC hx w vs hJ hl fun j hj => ?_
  match j,hj with
  | 0,_=>exact pu_part En.sys_part.1 En.sys_part.2 (hv 0 (by simp))
  | 1,_=>exact hv 1 (by simp)
theorem En.read_q {p:Fm} {n t f:Int} {c:Cf} (HC:Rd.CgOk c) (hx:Rd.rdX p n f c=false):Ctr Try.prog J 41 [.el (En.sysP p n t f) 0,.agg (Rd.cCg c)] (.tup [.agg (Rd.cfZ false (Rd.shI p.top (Ns.shT p.top (Ns.cntE p n f)) c.sh) c),bF]):=by
  intro w vs hJ hl hv
  have h:=read_c (J:=J) (p:=p) (n:=n) (t:=t) (f:=f) HC w vs hJ hl fun j hj => ?_
  · rw [show Rd.rdY p n f c=false from hx,hx] at h
    exact h
  match j,hj with
  | 0,_=>exact pu_part En.sys_part.1 En.sys_part.2 (hv 0 (by simp))
  | 1,_=>exact hv 1 (by simp)
theorem open_V {p:Fm} (HP:FmOk p) {n t f:Int} {c:Cf} (HC:Rd.CgOk c) (hs:Ns.sysE p n t f=0) (hx:Rd.rdX p n f c=true):CtrA Try.prog J 23 [.agg (cFm p),.agg (cSz n t f),.agg (Rd.cCg c)] (.tup [.el (En.sysP p n t f) 0,.agg (En.cfV (Rd.shI p.top (Ns.shT p.top (Ns.cntE p n f)) c.sh) c),iv 0]):=by
 refine ctrA_of_tri Try.func23 rfl (by intro X hX;simp only [List.mem_cons,List.not_mem_nil,or_false] at hX;rcases hX with rfl | rfl | rfl;exact Zt (YN p);exact Zt (KH n t f);exact Zt (Rd.plain_cg c)) (n:=34) rfl (by simp) (fun w0 => ?_)
 refine kW 34 [] [(0,.agg (cFm p)),(1,.agg (cSz n t f)),(2,.agg (Rd.cCg c))] (Zb (Za (ZQ rfl (YC (X := .agg (cFm p)) (k:=1) (.tmp 0) rfl rfl) ⟨I0,T0⟩ T0 rfl (ZQ rfl (YC (X := .agg (cSz n t f)) (k:=2) (.tmp 1) rfl rfl) ⟨I0,T0⟩ T0 rfl (ZQ rfl (YC (X := .agg (Rd.cCg c)) (k:=3) (.tmp 2) rfl rfl) ⟨I0,T0⟩ T0 rfl (pM (Ym (.const (.pointer none)) (.v (.pointer none)) rfl) (ZQ rfl (Z0 (z := .agg #[.int .i64 0,.int .i64 0,.int .i64 0,.int .i64 0,.int .i64 0,.int .i64 0,.int .i64 0,.int .i64 0,.int .i64 0,.int .i64 0,.int .i64 0,.int .i64 0,.int .i64 0,.int .i64 0,.int .i64 0,.int .i64 0]) (k:=4) rfl (by kernel_rfl)) T0 T0 rfl (pM (aC (.int .i64 0)) (Ze (Zc (Zb (Za (oB (lS (cFm p) 10 3 U27) I0 rfl (oB (lS (cSz n t f) 3 4 U29) I0 rfl (oD (sp_callA (c := .func 40) (xs := #[.tmp 14,.tmp 15]) (newSystem_P HP hs) rfl (by kernel_rfl) rfl (Xs:=[.agg (cFm p),.agg (cSz n t f)]) rfl rfl) I0 I0 I0 (pM (mT 16 (.tup [.el (En.sysP p n t f) 0,iv 0])) (oA (ZT (X := .el (En.sysP p n t f) 0) (.tmp 13) rfl rfl) I0 (oA (ZT (X:=iv 0) (.tmp 13) rfl rfl) I0 (pM (aT 17 (.el (En.sysP p n t f) 0)) (pM (aT 18 (iv 0)) (Ze (Zc (Zb ?_)))))))))))))))))))))))
 refine Zb (Za (pM (mT 10 (iv 0)) (oC (Zs (r:=false) rfl (by decide)) I0 I0 (Ze (Zc (Zo rfl (Zn (Zc (Zb (Za (pM (mT 9 (.el (En.sysP p n t f) 0)) (oB (lS (Rd.cCg c) 6 5 U31) I0 rfl (oD (sc #[.tmp 24,.tmp 25] [] (En.read_p HC hx) [.el (En.sysP p n t f) 0,.agg (Rd.cCg c)] rfl rfl rfl) I0 I0 I0 (pM (mT 26 (.tup [.fr (.agg (En.cfV (Rd.shI p.top (Ns.shT p.top (Ns.cntE p n f)) c.sh) c)),bT])) (oA (ZT (X := .fr (.agg (En.cfV (Rd.shI p.top (Ns.shT p.top (Ns.cntE p n f)) c.sh) c))) (.tmp 23) rfl rfl) I0 (oA (ZT (X:=bT) (.tmp 23) rfl rfl) I0 (ZQ rfl (Z0 (z := .agg #[.int .i64 0,.int .i64 0,.int .i64 0,.int .i64 0,.int .i64 0,.int .i64 0,.int .i64 0,.int .i64 0,.int .i64 0,.int .i64 0,.int .i64 0,.int .i64 0,.int .i64 0,.int .i64 0,.int .i64 0,.int .i64 0]) (k:=5) rfl (by kernel_rfl)) T0 T0 rfl (ZQ rfl (sB 16 11 (.tmp 27) (.agg [iv (Rd.shI p.top (Ns.shT p.top (Ns.cntE p n f)) c.sh),iv (c.st.getD 0 0),iv (c.st.getD 1 0),iv (c.st.getD 2 0),iv (c.st.getD 3 0),iv (c.st.getD 4 0),iv (c.st.getD 5 0),iv (c.st.getD 6 0),iv (c.st.getD 7 0),iv (c.se.getD 0 0),iv (c.se.getD 1 0),iv (c.se.getD 2 0),iv (c.fa.getD 0 0),iv (c.fa.getD 1 0),iv (c.fa.getD 2 0),iv c.val])) ⟨I0,.inr (.inr (.inl ⟨_,rfl,rfl⟩)),T0⟩ ⟨rfl,T0⟩ rfl (pM (aT 28 bT) (Ze (Zc (Zb (Zb ?_)))))))))))))))))))))))
 refine Za (pM (mT 12 bT) (oA (Zq rfl rfl) I0 (Ze (Zc (Zo rfl (Zn (Zc (Zb ?_))))))))
 refine Zu (dM (mT 9 (.el (En.sysP p n t f) 0)) (dB (lS ([iv (Rd.shI p.top (Ns.shT p.top (Ns.cntE p n f)) c.sh),iv (c.st.getD 0 0),iv (c.st.getD 1 0),iv (c.st.getD 2 0),iv (c.st.getD 3 0),iv (c.st.getD 4 0),iv (c.st.getD 5 0),iv (c.st.getD 6 0),iv (c.st.getD 7 0),iv (c.se.getD 0 0),iv (c.se.getD 1 0),iv (c.se.getD 2 0),iv (c.fa.getD 0 0),iv (c.fa.getD 1 0),iv (c.fa.getD 2 0),iv c.val]) 16 11 U78) I0 rfl (dM (aT 32 (.el (En.sysP p n t f) 0)) (dR (sB 16 7 (.tmp 33) (.agg [iv (Rd.shI p.top (Ns.shT p.top (Ns.cntE p n f)) c.sh),iv (c.st.getD 0 0),iv (c.st.getD 1 0),iv (c.st.getD 2 0),iv (c.st.getD 3 0),iv (c.st.getD 4 0),iv (c.st.getD 5 0),iv (c.st.getD 6 0),iv (c.st.getD 7 0),iv (c.se.getD 0 0),iv (c.se.getD 1 0),iv (c.se.getD 2 0),iv (c.fa.getD 0 0),iv (c.fa.getD 1 0),iv (c.fa.getD 2 0),iv c.val])) ⟨I0,I0,T0⟩ ⟨rfl,T0⟩ rfl (dM (aC (.int .i64 0)) (dE ?_)))))) (by kernel_rfl)
 show ETri J w0 _ _ _
 refine Zc (Zk ?_)
 refine tri_endA3 [(4,.box 78 [iv (Rd.shI p.top (Ns.shT p.top (Ns.cntE p n f)) c.sh),iv (c.st.getD 0 0),iv (c.st.getD 1 0),iv (c.st.getD 2 0),iv (c.st.getD 3 0),iv (c.st.getD 4 0),iv (c.st.getD 5 0),iv (c.st.getD 6 0),iv (c.st.getD 7 0),iv (c.se.getD 0 0),iv (c.se.getD 1 0),iv (c.se.getD 2 0),iv (c.fa.getD 0 0),iv (c.fa.getD 1 0),iv (c.fa.getD 2 0),iv c.val])] Try.results23 (.tmp rfl) (.cellS rfl rfl U78 rfl (z:=16) (by kernel_rfl) rfl (by decide)) (.tmp rfl) (by kernel_rfl) rfl rfl rfl rfl ?_ ?_ ?_ ?_
 · exact (show Plain (.el (En.sysP p n t f) 0) from .el (Z6 (En.plain_sysP p n t f)))
 · exact Zt (En.plain_cfV _ c)
 · exact .v _
 kernel_rfl
theorem open_bad {p:Fm} (HP:FmOk p) {n t f:Int} {c:Cf} (HC:Rd.CgOk c) (hs:Ns.sysE p n t f=0) (hx:Rd.rdX p n f c=false):Ctr Try.prog J 23 [.agg (cFm p),.agg (cSz n t f),.agg (Rd.cCg c)] (.tup [.any,.agg (Rd.cfZ false (Rd.shI p.top (Ns.shT p.top (Ns.cntE p n f)) c.sh) c),iv 1]):=by
 refine ZJ Try.func23 rfl (by intro X hX;simp only [List.mem_cons,List.not_mem_nil,or_false] at hX;rcases hX with rfl | rfl | rfl;exact Zt (YN p);exact Zt (KH n t f);exact Zt (Rd.plain_cg c)) (n:=34) rfl (by simp) (fun w0 => ?_)
 refine kW 34 [] [(0,.agg (cFm p)),(1,.agg (cSz n t f)),(2,.agg (Rd.cCg c))] (Zb (Za (ZQ rfl (YC (X := .agg (cFm p)) (k:=1) (.tmp 0) rfl rfl) ⟨I0,T0⟩ T0 rfl (ZQ rfl (YC (X := .agg (cSz n t f)) (k:=2) (.tmp 1) rfl rfl) ⟨I0,T0⟩ T0 rfl (ZQ rfl (YC (X := .agg (Rd.cCg c)) (k:=3) (.tmp 2) rfl rfl) ⟨I0,T0⟩ T0 rfl (pM (Ym (.const (.pointer none)) (.v (.pointer none)) rfl) (ZQ rfl (Z0 (z := .agg #[.int .i64 0,.int .i64 0,.int .i64 0,.int .i64 0,.int .i64 0,.int .i64 0,.int .i64 0,.int .i64 0,.int .i64 0,.int .i64 0,.int .i64 0,.int .i64 0,.int .i64 0,.int .i64 0,.int .i64 0,.int .i64 0]) (k:=4) rfl (by kernel_rfl)) T0 T0 rfl (pM (aC (.int .i64 0)) (Ze (Zc (Zb (Za (oB (lS (cFm p) 10 3 U27) I0 rfl (oB (lS (cSz n t f) 3 4 U29) I0 rfl (oD (sp_callA (c := .func 40) (xs := #[.tmp 14,.tmp 15]) (newSystem_P HP hs) rfl (by kernel_rfl) rfl (Xs:=[.agg (cFm p),.agg (cSz n t f)]) rfl rfl) I0 I0 I0 (pM (mT 16 (.tup [.el (En.sysP p n t f) 0,iv 0])) (oA (ZT (X := .el (En.sysP p n t f) 0) (.tmp 13) rfl rfl) I0 (oA (ZT (X:=iv 0) (.tmp 13) rfl rfl) I0 (pM (aT 17 (.el (En.sysP p n t f) 0)) (pM (aT 18 (iv 0)) (Ze (Zc (Zb ?_)))))))))))))))))))))))
 refine Zb (Za (pM (mT 10 (iv 0)) (oC (Zs (r:=false) rfl (by decide)) I0 I0 (Ze (Zc (Zo rfl (Zn (Zc (Zb (Za (pM (mT 9 (.el (En.sysP p n t f) 0)) (oB (lS (Rd.cCg c) 6 5 U31) I0 rfl (oD (sc #[.tmp 24,.tmp 25] [] (En.read_q HC hx) [.el (En.sysP p n t f) 0,.agg (Rd.cCg c)] rfl rfl rfl) I0 I0 I0 (pM (mT 26 (.tup [.fr (.agg (Rd.cfZ false (Rd.shI p.top (Ns.shT p.top (Ns.cntE p n f)) c.sh) c)),bF])) (oA (ZT (X := .fr (.agg (Rd.cfZ false (Rd.shI p.top (Ns.shT p.top (Ns.cntE p n f)) c.sh) c))) (.tmp 23) rfl rfl) I0 (oA (ZT (X:=bF) (.tmp 23) rfl rfl) I0 (ZQ rfl (Z0 (z := .agg #[.int .i64 0,.int .i64 0,.int .i64 0,.int .i64 0,.int .i64 0,.int .i64 0,.int .i64 0,.int .i64 0,.int .i64 0,.int .i64 0,.int .i64 0,.int .i64 0,.int .i64 0,.int .i64 0,.int .i64 0,.int .i64 0]) (k:=5) rfl (by kernel_rfl)) T0 T0 rfl (ZQ rfl (sB 16 11 (.tmp 27) (.agg [iv (Rd.zz false (Rd.shI p.top (Ns.shT p.top (Ns.cntE p n f)) c.sh)),iv (Rd.zz false (c.st.getD 0 0)),iv (Rd.zz false (c.st.getD 1 0)),iv (Rd.zz false (c.st.getD 2 0)),iv (Rd.zz false (c.st.getD 3 0)),iv (Rd.zz false (c.st.getD 4 0)),iv (Rd.zz false (c.st.getD 5 0)),iv (Rd.zz false (c.st.getD 6 0)),iv (Rd.zz false (c.st.getD 7 0)),iv (Rd.zz false (c.se.getD 0 0)),iv (Rd.zz false (c.se.getD 1 0)),iv (Rd.zz false (c.se.getD 2 0)),iv (Rd.zz false (c.fa.getD 0 0)),iv (Rd.zz false (c.fa.getD 1 0)),iv (Rd.zz false (c.fa.getD 2 0)),iv (Rd.zz false c.val)])) ⟨I0,.inr (.inr (.inl ⟨_,rfl,rfl⟩)),T0⟩ ⟨rfl,T0⟩ rfl (pM (aT 28 bF) (Ze (Zc (Zb (Zb ?_)))))))))))))))))))))))
 refine Za (pM (mT 12 bF) (oA (Zq rfl rfl) I0 (Ze (Zc (Zm rfl (Zb (Za (ZQ rfl (YM [] #[.int .i64 0,.int .i64 0,.int .i64 0,.int .i64 0,.int .i64 0,.int .i64 0,.int .i64 0,.int .i64 0,.int .i64 0,.int .i64 0,.int .i64 0,.int .i64 0,.int .i64 0,.int .i64 0,.int .i64 0,.int .i64 0] rfl rfl (by kernel_rfl) rfl) T0 T0 T0 (pM (Ym (.const (.pointer none)) (.v (.pointer none)) rfl) (ZQ rfl (sB 16 7 (.tmp 31) (.agg [iv 0,iv 0,iv 0,iv 0,iv 0,iv 0,iv 0,iv 0,iv 0,iv 0,iv 0,iv 0,iv 0,iv 0,iv 0,iv 0])) ⟨I0,I0,T0⟩ ⟨rfl,T0⟩ rfl (pM (aC (.int .i64 1)) (Ze (Zc (Zk (Zh (kW 34 [(4,.box 78 [iv 0,iv 0,iv 0,iv 0,iv 0,iv 0,iv 0,iv 0,iv 0,iv 0,iv 0,iv 0,iv 0,iv 0,iv 0,iv 0]),(5,.box 78 [iv (Rd.zz false (Rd.shI p.top (Ns.shT p.top (Ns.cntE p n f)) c.sh)),iv (Rd.zz false (c.st.getD 0 0)),iv (Rd.zz false (c.st.getD 1 0)),iv (Rd.zz false (c.st.getD 2 0)),iv (Rd.zz false (c.st.getD 3 0)),iv (Rd.zz false (c.st.getD 4 0)),iv (Rd.zz false (c.st.getD 5 0)),iv (Rd.zz false (c.st.getD 6 0)),iv (Rd.zz false (c.st.getD 7 0)),iv (Rd.zz false (c.se.getD 0 0)),iv (Rd.zz false (c.se.getD 1 0)),iv (Rd.zz false (c.se.getD 2 0)),iv (Rd.zz false (c.fa.getD 0 0)),iv (Rd.zz false (c.fa.getD 1 0)),iv (Rd.zz false (c.fa.getD 2 0)),iv (Rd.zz false c.val)])] [(7,.box 4 0),(8,iv 1),(9,.el (En.sysP p n t f) 0),(11,.box 5 0)] ?_))))))))))))))))
 refine tri_end3 Try.results23 (.tmp rfl) (.cellS rfl rfl U78 rfl (z:=16) (by kernel_rfl) rfl (by decide)) (.tmp rfl) ?_
 exact rfl
theorem open_no {p:Fm} (HP:FmOk p) {n t f:Int} {c:Cf} (HC:Rd.CgOk c) (hz:¬ Rd.vcE p n t f c=0):Ctr Try.prog J 23 [.agg (cFm p),.agg (cSz n t f),.agg (Rd.cCg c)] (.tup [.any,.agg (Rd.cfZ false (Rd.shI p.top (Ns.shT p.top (Ns.cntE p n f)) c.sh) c),iv (Rd.vcE p n t f c)]):=by
  by_cases hs:Ns.sysE p n t f=0
  · have hx:Rd.rdX p n f c=false:=by
      cases e:Rd.rdX p n f c with
      | false=>rfl
      | true=>exact absurd (by unfold Rd.vcE;rw [if_pos hs,if_pos e]) hz
    have e:Rd.vcE p n t f c=1:=by unfold Rd.vcE;rw [if_pos hs,hx];rfl
    rw [e]
    exact open_bad HP HC hs hx
  have h:=open_err (J:=J) HP HC hs
  rw [show Rd.rdW p n t f c=false by unfold Rd.rdW;rw [decide_eq_false hs];rfl] at h
  exact h
theorem isProc_c {p:Fm} {n t f:Int} {m:Nat} (hn:(Ns.cntE p n f)=((m:Nat):Int)) {x:Int}:Ctr Try.prog J 46 [.el (En.sysP p n t f) 0,iv x] (bv (En.isP m x)):=by
 refine ZJ Try.func46 rfl (by intro X hX;simp only [List.mem_cons,List.not_mem_nil,or_false] at hX;rcases hX with rfl | rfl;exact (show Plain (.el (En.sysP p n t f) 0) from .el (Z6 (En.plain_sysP p n t f)));exact .v _) (n:=15) rfl (by simp) (fun w0 => ?_)
 refine kW 15 [] [(0,.el (En.sysP p n t f) 0),(1,iv x)] (Zb (Za (pM (aC (.bool false)) (Ze (Zc (Zb ?_))))))
 by_cases hs1:0≤x
 refine Za (pM (mT 1 (iv x)) (oC (YL rfl (dT hs1)) I0 I0 (pM (mT 6 bT) (qM (mT 1 (iv x)) (qM (mT 0 (.el (En.sysP p n t f) 0)) (gA (Zx (off:=0) (.tmp 9) rfl) I0 (gA (fe 13 10 U111 1) I0 (gA (lE (iv (Ns.cntE p n f)) 11 U3) I0 (gC (Z5 rfl rfl) I0 I0 (pP (pk true (bv (decide (x<(Ns.cntE p n f)))) bF rfl) (pM (aT 14 (bv (decide (x<(Ns.cntE p n f))))) (Ze (Zc (Zk ?_))))))))))))))
 refine Zl Try.results46 (.tmp rfl) ?_
 exact congrArg (fun x:Bool=>AV.v (.bool x)) ((by unfold En.isP;rw [← hn];simp only [hs1,decide_true,decide_false,Bool.and_true,Bool.true_and,Bool.false_and,Bool.and_false,Bool.true_or,Bool.false_or,Bool.or_true,Bool.or_false,Bool.not_true,Bool.not_false]))
 refine Za (pM (mT 1 (iv x)) (oC (YL rfl (dF hs1)) I0 I0 (pM (mT 6 bF) (qK (qK (qK (qK (qK (qK (pP (pk false (.v (.tuple #[])) bF rfl) (pM (aT 14 bF) (Ze (Zc (Zk ?_))))))))))))))
 refine Zl Try.results46 (.tmp rfl) ?_
 exact congrArg (fun x:Bool=>AV.v (.bool x)) ((by unfold En.isP;rw [← hn];simp only [hs1,decide_true,decide_false,Bool.and_true,Bool.true_and,Bool.false_and,Bool.and_false,Bool.true_or,Bool.false_or,Bool.or_true,Bool.or_false,Bool.not_true,Bool.not_false]))
theorem hasPart_c {p:Fm} {r:Nat} (hr:r<p.rules.length):Ctr Try.prog J 64 [.el (p.rules.flatMap cRu) (r*18)] (bv (decide (p.rules[r].kind=2)||decide (p.rules[r].kind=5))):=by
 refine ZJ Try.func64 rfl (by intro X hX;simp only [List.mem_cons,List.not_mem_nil,or_false] at hX;rcases hX with rfl;exact (.el (Z6 fun X hX=>by obtain ⟨x,_,hx⟩:=List.mem_flatMap.1 hX;exact Y5 x X hx))) (n:=15) rfl (by simp) (fun w0 => ?_)
 refine kW 15 [] [(0,.el (p.rules.flatMap cRu) (r*18))] (Zb (Za (pM (aC (.bool false)) (Ze (Zc (Zb ?_))))))
 by_cases hs1:p.rules[r].kind=2
 refine Za (pM (mT 0 (.el (p.rules.flatMap cRu) (r*18))) (oA (Zx (off:=r*18) (.tmp 3) rfl) I0 (oA (fe (r*18+1) 4 U65 1) I0 (oA (lE (iv p.rules[r].kind) 5 U3 ((ZA lenRu p.rules r 1 (by omega) (by decide)).trans rfl)) I0 (oC (Zp rfl (dT hs1)) I0 I0 (pM (mT 7 bT) (qK (qK (qK (qK (qK (pP (pk true bT (.v (.tuple #[])) rfl) (pM (aT 14 bT) (Ze (Zc (Zk ?_))))))))))))))))
 refine Zl Try.results64 (.tmp rfl) ?_
 exact congrArg (fun x:Bool=>AV.v (.bool x)) ((by simp only [hs1,decide_true,decide_false,Bool.and_true,Bool.true_and,Bool.false_and,Bool.and_false,Bool.true_or,Bool.false_or,Bool.or_true,Bool.or_false,Bool.not_true,Bool.not_false]))
 refine Za (pM (mT 0 (.el (p.rules.flatMap cRu) (r*18))) (oA (Zx (off:=r*18) (.tmp 3) rfl) I0 (oA (fe (r*18+1) 4 U65 1) I0 (oA (lE (iv p.rules[r].kind) 5 U3 ((ZA lenRu p.rules r 1 (by omega) (by decide)).trans rfl)) I0 (oC (Zp rfl (dF hs1)) I0 I0 (pM (mT 7 bF) (qM (mT 0 (.el (p.rules.flatMap cRu) (r*18))) (gA (Zx (off:=r*18) (.tmp 9) rfl) I0 (gA (fe (r*18+1) 10 U65 1) I0 (gA (lE (iv p.rules[r].kind) 11 U3 ((ZA lenRu p.rules r 1 (by omega) (by decide)).trans rfl)) I0 (gC (Zp rfl rfl) I0 I0 (pP (pk false bT (bv (decide (p.rules[r].kind=5))) rfl) (pM (aT 14 (bv (decide (p.rules[r].kind=5)))) (Ze (Zc (Zk ?_))))))))))))))))
 refine Zl Try.results64 (.tmp rfl) ?_
 exact congrArg (fun x:Bool=>AV.v (.bool x)) ((by simp only [hs1,decide_true,decide_false,Bool.and_true,Bool.true_and,Bool.false_and,Bool.and_false,Bool.true_or,Bool.false_or,Bool.or_true,Bool.or_false,Bool.not_true,Bool.not_false]))
theorem heard_c {p:Fm} {n t f:Int} {c:Cf} (hc:En.CfV p n f c) (hf:0≤f∧f≤1048576) (h3:p.msgs.length≤3) {sx:Int}:Ctr Try.prog J 29 [.el (En.sysP p n t f) 0,.agg (En.cfV sx c)] (.agg (En.msA (En.hdJ p f c p.msgs.length))):=by
 refine ZJ Try.func29 rfl (by intro X hX;simp only [List.mem_cons,List.not_mem_nil,or_false] at hX;rcases hX with rfl | rfl;exact (show Plain (.el (En.sysP p n t f) 0) from .el (Z6 (En.plain_sysP p n t f)));exact Zt (En.plain_cfV _ c)) (n:=49) rfl (by simp) (fun w0 => ?_)
 refine kW 49 [] [(0,.el (En.sysP p n t f) 0),(1,.agg (En.cfV sx c))] (Zb (Za (oA (Yi (X := .agg (En.cfV sx c)) (.tmp 1) rfl rfl rfl) I0 (ZQ rfl (Z0 (z := .agg #[.int .i64 0,.int .i64 0,.int .i64 0]) (k:=1) rfl (by kernel_rfl)) T0 T0 rfl (Ze (Zc (Zb (Za (oA (fe 9 3 U78 3) I0 (oA (ZF (z:=3) (ds:=[iv (c.se.getD 0 0),iv (c.se.getD 1 0),iv (c.se.getD 2 0)]) (.tmp 7) rfl U76 rfl (by kernel_rfl) (by kernel_rfl) rfl) I0 (ZQ rfl (Z0 (z := .agg #[.int .i64 0,.int .i64 0,.int .i64 0]) (k:=2) rfl (by kernel_rfl)) T0 T0 rfl (ZQ rfl (sB 3 5 (.tmp 8) (.agg [iv (c.se.getD 0 0),iv (c.se.getD 1 0),iv (c.se.getD 2 0)])) ⟨I0,I0,T0⟩ ⟨rfl,T0⟩ rfl (Ze (Zc (Zb (Zb (Za (pM (mT 0 (.el (En.sysP p n t f) 0)) (oA (Zx (off:=0) (.tmp 9) rfl) I0 (oA (fe 0 10 U111 10) I0 (oA (fe 3 11 U27 1) I0 (oA (lE (Zw p.msgs) 12 U22) I0 (oA (nS 13 U22) I0 ?_)))))))))))))))))))))))
 refine pM (Ki (.const (.int .i64 0)) (iv 0) rfl) (kN 49 [(1,.box 76 [iv 0,iv 0,iv 0]),(2,.box 76 [iv (c.se.getD 0 0),iv (c.se.getD 1 0),iv (c.se.getD 2 0)])] [(0,.el (En.sysP p n t f) 0),(3,.el (En.cfV sx c) 0),(4,.box 1 0),(5,.box 2 0),(14,iv p.msgs.length),(15,iv 0)] (Zc (ZE ?_)))
 refine Yp (σ:={j:Nat // j≤p.msgs.length}) (fun s=>(ofL [(1,.box 76 [iv 0,iv 0,iv 0]),(2,.box 76 (En.msA (En.hdJ p f c s.1)))],ofT 49 [(0,.el (En.sysP p n t f) 0),(3,.el (En.cfV sx c) 0),(4,.box 1 0),(5,.box 2 0),(14,iv p.msgs.length),(15,iv s.1)])) (fun s=>p.msgs.length-s.1) ⟨0,Nat.zero_le _⟩ (Zj _ _ rfl (by kernel_rfl) (by kernel_rfl)) (fun s => ?_)
 obtain ⟨j,hj0⟩:=s
 show ETri J w0 (ofL [(1,.box 76 [iv 0,iv 0,iv 0]),(2,.box 76 (En.msA (En.hdJ p f c j)))]) (ofT 49 [(0,.el (En.sysP p n t f) 0),(3,.el (En.cfV sx c) 0),(4,.box 1 0),(5,.box 2 0),(14,iv p.msgs.length),(15,iv j)]) _
 refine Zb ?_
 by_cases hs1:((j:Nat):Int)<((p.msgs.length:Nat):Int)
 have hj1:j<3:=by omega
 have hb1:=En.hdJ_in hc hf j j
 have hb2:=hc.fa_at j
 refine Za (oC (Z5 rfl (dT hs1)) I0 I0 (Ze (Zc (Zb (Zm rfl (Zn (Zc (Zb (ZE (Zb (Za (pM (mT 15 (iv j)) (pM (aT 17 (iv j)) (Ze (Zc (Zb (Za (pM (mT 0 (.el (En.sysP p n t f) 0)) (oA (Zx (off:=0) (.tmp 18) rfl) I0 (oA (fe 0 19 U111 10) I0 (oA (fe 5 20 U27 1) I0 (oA (lE (iv p.fault) 21 U3) I0 (Ze ?_)))))))))))))))))))))))
 refine Zc (ZE (Zb (Zb ?_)))
 by_cases hs2:p.fault=1
 refine Za (oC (Zp rfl (dT hs2)) I0 I0 (pM (aT 24 bT) (Ze (Zc (Zm rfl (Zn (Zc (Zm rfl ?_))))))))
 refine Zu (dM (mT 6 (iv j)) (dC (YT (off':=0+j*1) (.tmp 5) (.tmp 26) rfl U76 (by kernel_rfl) (by omega) (by omega) rfl) I0 I0 (dB (lB (.box 76 (En.msA (En.hdJ p f c j))) (iv (En.hdJ p f c j j)) (.tmp 27) rfl U3 rfl (En.msA_get (by omega))) I0 rfl (dM (mT 6 (iv j)) (dA (fe 12 3 U78 3) I0 (dC (Z9 (off':=12+j*1) (.tmp 30) (.tmp 29) rfl U76 (by kernel_rfl) (by omega) (by omega) rfl) I0 I0 (dA (lE (iv (c.fa.getD j 0)) 31 U3 (En.cfV_fa (by omega))) I0 (dC (Yj (c:=(En.hdJ p f c j j)+(c.fa.getD j 0)) rfl (w64 (by omega) (by omega) (by omega))) I0 I0 (dC (YT (off':=0+j*1) (.tmp 5) (.tmp 26) rfl U76 (by kernel_rfl) (by omega) (by omega) rfl) I0 I0 (dR (ZD (T0:=76) (X:=iv ((En.hdJ p f c j j)+(c.fa.getD j 0))) (off:=0+j*1) (cs:=En.msA (En.hdJ p f c j)) (ds:=En.msA (En.hdJ p f c (j+1))) (z:=1) (.tmp 34) (.tmp 33) rfl (by kernel_rfl) (by kernel_rfl) (by kernel_rfl) (by show _≤3;omega) (En.msA_step (by omega) (En.hd_12 (.inl hs2)))) ⟨I0,I0,T0⟩ ⟨rfl,T0⟩ rfl (dE ?_))))))))))) (by kernel_rfl)
 show ETri J w0 _ _ _
 refine kW 49 [(1,.box 76 [iv 0,iv 0,iv 0]),(2,.box 76 (En.msA (En.hdJ p f c (j+1))))] [(0,.el (En.sysP p n t f) 0),(3,.el (En.cfV sx c) 0),(4,.box 1 0),(5,.box 2 0),(6,iv j),(14,iv p.msgs.length),(15,iv j),(16,bT),(22,iv p.fault),(23,bT)] (ZX (ZX (Zc (Za (oC (Yj (c:=((j+1:Nat):Int)) rfl (w64 (by omega) (by omega) (by omega))) I0 I0 (pM (mT 47 (iv (j+1:Nat))) (kN 49 [(1,.box 76 [iv 0,iv 0,iv 0]),(2,.box 76 (En.msA (En.hdJ p f c (j+1))))] [(0,.el (En.sysP p n t f) 0),(3,.el (En.cfV sx c) 0),(4,.box 1 0),(5,.box 2 0),(6,iv j),(14,iv p.msgs.length),(15,iv (j+1:Nat)),(16,bT),(22,iv p.fault),(23,bT)] (Zc ?_))))))))
 refine ZZ ⟨j+1,by omega⟩ (show p.msgs.length-(j+1)<p.msgs.length-j by omega) ?_
 show Wk _ _ (ofL [(1,.box 76 [iv 0,iv 0,iv 0]),(2,.box 76 (En.msA (En.hdJ p f c (j+1))))]) (ofT 49 [(0,.el (En.sysP p n t f) 0),(3,.el (En.cfV sx c) 0),(4,.box 1 0),(5,.box 2 0),(14,iv p.msgs.length),(15,iv ((j+1):Nat))])
 exact Zj _ _ rfl (by kernel_rfl) (by kernel_rfl)
 refine Za (oC (Zp rfl (dF hs2)) I0 I0 (pM (aT 24 bF) (Ze (Zc (Zo rfl ?_)))))
 by_cases hs3:p.fault=2
 refine Za (oC (Zp rfl (dT hs3)) I0 I0 (pM (aT 25 bT) (Ze (Zc (Zm rfl ?_)))))
 refine Zu (dM (mT 6 (iv j)) (dC (YT (off':=0+j*1) (.tmp 5) (.tmp 26) rfl U76 (by kernel_rfl) (by omega) (by omega) rfl) I0 I0 (dB (lB (.box 76 (En.msA (En.hdJ p f c j))) (iv (En.hdJ p f c j j)) (.tmp 27) rfl U3 rfl (En.msA_get (by omega))) I0 rfl (dM (mT 6 (iv j)) (dA (fe 12 3 U78 3) I0 (dC (Z9 (off':=12+j*1) (.tmp 30) (.tmp 29) rfl U76 (by kernel_rfl) (by omega) (by omega) rfl) I0 I0 (dA (lE (iv (c.fa.getD j 0)) 31 U3 (En.cfV_fa (by omega))) I0 (dC (Yj (c:=(En.hdJ p f c j j)+(c.fa.getD j 0)) rfl (w64 (by omega) (by omega) (by omega))) I0 I0 (dC (YT (off':=0+j*1) (.tmp 5) (.tmp 26) rfl U76 (by kernel_rfl) (by omega) (by omega) rfl) I0 I0 (dR (ZD (T0:=76) (X:=iv ((En.hdJ p f c j j)+(c.fa.getD j 0))) (off:=0+j*1) (cs:=En.msA (En.hdJ p f c j)) (ds:=En.msA (En.hdJ p f c (j+1))) (z:=1) (.tmp 34) (.tmp 33) rfl (by kernel_rfl) (by kernel_rfl) (by kernel_rfl) (by show _≤3;omega) (En.msA_step (by omega) (En.hd_12 (.inr hs3)))) ⟨I0,I0,T0⟩ ⟨rfl,T0⟩ rfl (dE ?_))))))))))) (by kernel_rfl)
 show ETri J w0 _ _ _
 refine kW 49 [(1,.box 76 [iv 0,iv 0,iv 0]),(2,.box 76 (En.msA (En.hdJ p f c (j+1))))] [(0,.el (En.sysP p n t f) 0),(3,.el (En.cfV sx c) 0),(4,.box 1 0),(5,.box 2 0),(6,iv j),(14,iv p.msgs.length),(15,iv j),(16,bT),(22,iv p.fault),(23,bT)] (ZX (ZX (Zc (Za (oC (Yj (c:=((j+1:Nat):Int)) rfl (w64 (by omega) (by omega) (by omega))) I0 I0 (pM (mT 47 (iv (j+1:Nat))) (kN 49 [(1,.box 76 [iv 0,iv 0,iv 0]),(2,.box 76 (En.msA (En.hdJ p f c (j+1))))] [(0,.el (En.sysP p n t f) 0),(3,.el (En.cfV sx c) 0),(4,.box 1 0),(5,.box 2 0),(6,iv j),(14,iv p.msgs.length),(15,iv (j+1:Nat)),(16,bT),(22,iv p.fault),(23,bT)] (Zc ?_))))))))
 refine ZZ ⟨j+1,by omega⟩ (show p.msgs.length-(j+1)<p.msgs.length-j by omega) ?_
 show Wk _ _ (ofL [(1,.box 76 [iv 0,iv 0,iv 0]),(2,.box 76 (En.msA (En.hdJ p f c (j+1))))]) (ofT 49 [(0,.el (En.sysP p n t f) 0),(3,.el (En.cfV sx c) 0),(4,.box 1 0),(5,.box 2 0),(14,iv p.msgs.length),(15,iv ((j+1):Nat))])
 exact Zj _ _ rfl (by kernel_rfl) (by kernel_rfl)
 refine Za (oC (Zp rfl (dF hs3)) I0 I0 (pM (aT 25 bF) (Ze (Zc (Zo rfl (Zb ?_))))))
 by_cases hs4:p.fault=3
 refine Za (oC (Zp rfl (dT hs4)) I0 I0 (pM (aT 36 bT) (Ze (Zc (Zm rfl ?_)))))
 refine Zu (dM (mT 6 (iv j)) (dC (YT (off':=0+j*1) (.tmp 5) (.tmp 37) rfl U76 (by kernel_rfl) (by omega) (by omega) rfl) I0 I0 (dB (lB (.box 76 (En.msA (En.hdJ p f c j))) (iv (En.hdJ p f c j j)) (.tmp 38) rfl U3 rfl (En.msA_get (by omega))) I0 rfl (dM (mT 0 (.el (En.sysP p n t f) 0)) (dA (Zx (off:=0) (.tmp 40) rfl) I0 (dA (fe 10 41 U111 3) I0 (dA (fe 12 42 U29 1) I0 (dA (lE (iv f) 43 U3) I0 (dC (Yj (c:=(En.hdJ p f c j j)+f) rfl (w64 (by omega) (by omega) (by omega))) I0 I0 (dC (YT (off':=0+j*1) (.tmp 5) (.tmp 37) rfl U76 (by kernel_rfl) (by omega) (by omega) rfl) I0 I0 (dR (ZD (T0:=76) (X:=iv ((En.hdJ p f c j j)+f)) (off:=0+j*1) (cs:=En.msA (En.hdJ p f c j)) (ds:=En.msA (En.hdJ p f c (j+1))) (z:=1) (.tmp 46) (.tmp 45) rfl (by kernel_rfl) (by kernel_rfl) (by kernel_rfl) (by show _≤3;omega) (En.msA_step (by omega) (En.hd_3 hs2 hs3 hs4))) ⟨I0,I0,T0⟩ ⟨rfl,T0⟩ rfl (dE ?_)))))))))))) (by kernel_rfl)
 show ETri J w0 _ _ _
 refine kW 49 [(1,.box 76 [iv 0,iv 0,iv 0]),(2,.box 76 (En.msA (En.hdJ p f c (j+1))))] [(0,.el (En.sysP p n t f) 0),(3,.el (En.cfV sx c) 0),(4,.box 1 0),(5,.box 2 0),(6,iv j),(14,iv p.msgs.length),(15,iv j),(16,bT),(22,iv p.fault),(23,bF),(35,bT)] (ZX (ZX (Zc (Za (oC (Yj (c:=((j+1:Nat):Int)) rfl (w64 (by omega) (by omega) (by omega))) I0 I0 (pM (mT 47 (iv (j+1:Nat))) (kN 49 [(1,.box 76 [iv 0,iv 0,iv 0]),(2,.box 76 (En.msA (En.hdJ p f c (j+1))))] [(0,.el (En.sysP p n t f) 0),(3,.el (En.cfV sx c) 0),(4,.box 1 0),(5,.box 2 0),(6,iv j),(14,iv p.msgs.length),(15,iv (j+1:Nat)),(16,bT),(22,iv p.fault),(23,bF),(35,bT)] (Zc ?_))))))))
 refine ZZ ⟨j+1,by omega⟩ (show p.msgs.length-(j+1)<p.msgs.length-j by omega) ?_
 show Wk _ _ (ofL [(1,.box 76 [iv 0,iv 0,iv 0]),(2,.box 76 (En.msA (En.hdJ p f c (j+1))))]) (ofT 49 [(0,.el (En.sysP p n t f) 0),(3,.el (En.cfV sx c) 0),(4,.box 1 0),(5,.box 2 0),(14,iv p.msgs.length),(15,iv ((j+1):Nat))])
 exact Zj _ _ rfl (by kernel_rfl) (by kernel_rfl)
 refine Za (oC (Zp rfl (dF hs4)) I0 I0 (pM (aT 36 bF) (Ze (Zc (Zo rfl (Zn (ZX (ZX (Zc (Za (oC (Yj (c:=((j+1:Nat):Int)) rfl (w64 (by omega) (by omega) (by omega))) I0 I0 (pM (mT 47 (iv (j+1:Nat))) (kN 49 [(1,.box 76 [iv 0,iv 0,iv 0]),(2,.box 76 (En.msA (En.hdJ p f c j)))] [(0,.el (En.sysP p n t f) 0),(3,.el (En.cfV sx c) 0),(4,.box 1 0),(5,.box 2 0),(6,iv j),(14,iv p.msgs.length),(15,iv (j+1:Nat)),(16,bT),(22,iv p.fault),(23,bF),(35,bF)] (Zc ?_))))))))))))))
 refine ZZ ⟨j+1,by omega⟩ (show p.msgs.length-(j+1)<p.msgs.length-j by omega) ?_
 show Wk _ _ (ofL [(1,.box 76 [iv 0,iv 0,iv 0]),(2,.box 76 (En.msA (En.hdJ p f c (j+1))))]) (ofT 49 [(0,.el (En.sysP p n t f) 0),(3,.el (En.cfV sx c) 0),(4,.box 1 0),(5,.box 2 0),(14,iv p.msgs.length),(15,iv ((j+1):Nat))])
 rw [En.hdJ_skip hs2 hs3 hs4]
 exact Zj _ _ rfl (by kernel_rfl) (by kernel_rfl)
 refine Za (oC (Z5 rfl (dF hs1)) I0 I0 (Ze (Zc (Zb (Zo rfl (Yn (Zy (Zy (t_hit (Zc (Zb (Za (oB (lS (En.msA (En.hdJ p f c j)) 3 5 U76) I0 rfl (ZQ rfl (sB 3 4 (.tmp 48) (.agg (En.msA (En.hdJ p f c j)))) ⟨I0,I0,T0⟩ ⟨rfl,T0⟩ rfl (Ze (Zc (Zk ?_)))))))))))))))))
 refine Zl Try.results29 (.cellS rfl rfl U76 rfl (z:=3) (by kernel_rfl) rfl (by decide)) ?_
 obtain hje:j=p.msgs.length:=by omega
 rw [hje]
 exact rfl
theorem index_c (xs:List Int) (x:Int) (hx:xs.length≤9223372036854775807):Ctr Try.prog J 92 [Zd xs,iv x] (iv (idxI xs x)):=by
 refine ZJ Try.func92 rfl (by intro X hX;simp only [List.mem_cons,List.not_mem_nil,or_false] at hX;rcases hX with rfl | rfl;exact Yc _;exact .v _) (n:=19) rfl (by simp) (fun w0 => ?_)
 refine kW 19 [] [(0,Zd xs),(1,iv x)] (Zb (Za (pM (aC (.int .i64 0)) (kN 19 [] [(0,Zd xs),(1,iv x),(4,iv 0)] (Zc (Zb (Zb (Za (pM (mT 0 (Zd xs)) (oA (nS 6 U24) I0 (pM (Ki (.const (.int .i64 0)) (iv 0) rfl) (kN 19 [] [(0,Zd xs),(1,iv x),(4,iv 0),(7,iv xs.length),(8,iv 0)] (Zc (ZE ?_))))))))))))))
 refine Yp (σ:={k:Nat // k≤xs.length∧noI xs x k}) (fun s=>(ofL [],ofT 19 [(0,Zd xs),(1,iv x),(7,iv xs.length),(8,iv s.1)])) (fun s=>xs.length-s.1) ⟨0,Nat.zero_le _,noI_zero _ _⟩ (Zj [] _ rfl (by kernel_rfl) (by kernel_rfl)) (fun s => ?_)
 obtain ⟨k,hk0,hs0⟩:=s
 show ETri J w0 (ofL []) (ofT 19 [(0,Zd xs),(1,iv x),(7,iv xs.length),(8,iv k)]) _
 refine Zb ?_
 by_cases hs1:((k:Nat):Int)<((xs.length:Nat):Int)
 refine Za (oC (Z5 rfl (dT hs1)) I0 I0 (Ze (Zc (Zb (Zm rfl (Zn (Zc (Zb (ZE (Zb (Za (pM (mT 8 (iv k)) (pM (aT 10 (iv k)) (Ze (Zc (Zb ?_))))))))))))))))
 by_cases hs2:x=xs[k]
 refine Za (pM (mT 1 (iv x)) (pM (mT 0 (Zd xs)) (pM (mT 5 (iv k)) (oC (xS (k*1) 12 13 U24) I0 I0 (oA (lE (iv xs[k]) 14 U3 (Kk xs (by omega))) I0 (oC (Zp rfl (dT hs2)) I0 I0 (Ze (Zc (Zm rfl (Zb (Za (pM (mT 5 (iv k)) (pM (aT 17 (iv k)) (Ze (Zc (Zk (Zv (Zh (Zh (Zv (Zh ?_)))))))))))))))))))))
 refine Zl Try.results92 (.tmp rfl) ?_
 exact congrArg (fun x:Int=>AV.v (.int .i64 x)) (idx_yes (by omega) hs0 hs2)
 refine Za (pM (mT 1 (iv x)) (pM (mT 0 (Zd xs)) (pM (mT 5 (iv k)) (oC (xS (k*1) 12 13 U24) I0 I0 (oA (lE (iv xs[k]) 14 U3 (Kk xs (by omega))) I0 (oC (Zp rfl (dF hs2)) I0 I0 (Ze (Zc (Zo rfl (Zn (ZX (Zc (Za (oC (Yj (c:=((k+1:Nat):Int)) rfl (w64 (by omega) (by omega) (by omega))) I0 I0 (pM (mT 18 (iv (k+1:Nat))) (kN 19 [] [(0,Zd xs),(1,iv x),(5,iv k),(7,iv xs.length),(8,iv (k+1:Nat)),(9,bT),(16,bF)] (Zc ?_)))))))))))))))))
 refine ZZ ⟨k+1,by omega,noI_succ (by omega) hs0 hs2⟩ (show xs.length-(k+1)<xs.length-k by omega) ?_
 exact Zj [] _ rfl (by kernel_rfl) (by kernel_rfl)
 refine Za (oC (Z5 rfl (dF hs1)) I0 I0 (Ze (Zc (Zb (Zo rfl (Yn (Zy (Zy (t_hit (Zc (Zb (Za (pM (aC (.int .i64 (-1))) (Ze (Zc (Zk ?_))))))))))))))))
 refine Zl Try.results92 (.tmp rfl) ?_
 exact congrArg (fun x:Int=>AV.v (.int .i64 x)) (idx_no (k:=k) (by omega) hs0)
theorem KS (xs:List Int) (x:Int) (hx:xs.length≤9223372036854775807):Ctr Try.prog J 67 [Zd xs,iv x] (bv (decide (x∈xs))):=by
 refine ZJ Try.func67 rfl (by intro X hX;simp only [List.mem_cons,List.not_mem_nil,or_false] at hX;rcases hX with rfl | rfl;exact Yc _;exact .v _) (n:=9) rfl (by simp) (fun w0 => ?_)
 refine kW 9 [] [(0,Zd xs),(1,iv x)] (Zb (Za (pM (aC (.bool false)) (Ze (Zc (Zb (Za (pM (mT 0 (Zd xs)) (pM (mT 1 (iv x)) (oD (sc #[.tmp 5,.tmp 6] [] (index_c xs x hx) [Zd xs,iv x] rfl rfl rfl) I0 I0 I0 (oC (YL rfl rfl) I0 I0 (pM (aT 8 (bv (decide (0≤idxI xs x)))) (Ze (Zc (Zk ?_)))))))))))))))
 refine Zl Try.results67 (.tmp rfl) ?_
 exact congrArg (fun b:Bool=>AV.v (.bool b)) (idx_has xs x)
theorem En.or_t {a b:Prop} [Decidable a] [Decidable b] (h:(decide a||decide b)=true):a∨b:=by simpa using h
theorem En.or_f {a b:Prop} [Decidable a] [Decidable b] (h:(decide a||decide b)=false):¬ (a∨b):=by simpa using h
theorem En.isP_in {m:Nat} {x:Int} (h:En.isP m x=true):0≤x∧x<((m:Nat):Int):=by
  unfold En.isP at h
  simpa using h
set_option maxRecDepth 100000 in
set_option maxHeartbeats 6400000 in
theorem partFits_c {p:Fm} {n t f:Int} {c:Cf} (hn:(Ns.cntE p n f)=((c.st.length:Nat):Int)) (l8:c.st.length≤8) {sx:Int} {r:Nat} (hr:r<p.rules.length) {i:Nat} (hi:i<c.st.length) {kp:Int}:Ctr Try.prog J 47 [.el (En.sysP p n t f) 0,.agg (En.cfV sx c),.el (p.rules.flatMap cRu) (r*18),.agg [iv r,iv i,iv kp]] (bv (En.ptB c p.rules[r] i kp)):=by
 refine ZJ Try.func47 rfl (by intro X hX;simp only [List.mem_cons,List.not_mem_nil,or_false] at hX;rcases hX with rfl | rfl | rfl | rfl;exact (show Plain (.el (En.sysP p n t f) 0) from .el (Z6 (En.plain_sysP p n t f)));exact Zt (En.plain_cfV _ c);exact (.el (Z6 fun X hX=>by obtain ⟨x,_,hx⟩:=List.mem_flatMap.1 hX;exact Y5 x X hx));exact Zt (fun X hX=>by simp only [List.mem_cons,List.not_mem_nil,or_false] at hX;rcases hX with rfl | rfl | rfl<;>exact .v _)) (n:=38) rfl (by simp) (fun w0 => ?_)
 refine kW 38 [] [(0,.el (En.sysP p n t f) 0),(1,.agg (En.cfV sx c)),(2,.el (p.rules.flatMap cRu) (r*18)),(3,.agg [iv r,iv i,iv kp])] (Zb (Za (oA (Yi (X := .agg (En.cfV sx c)) (.tmp 1) rfl rfl rfl) I0 (oA (Yi (X := .agg [iv r,iv i,iv kp]) (.tmp 3) rfl rfl rfl) I0 (pM (aC (.bool false)) (Ze (Zc (Zb (Zb ?_)))))))))
 by_cases hs1:(decide (p.rules[r].kind=2)||decide (p.rules[r].kind=5))=true
 refine Za (pM (mT 2 (.el (p.rules.flatMap cRu) (r*18))) (oC (sc #[.tmp 9] [] (ZS (hasPart_c hr) hs1) [.el (p.rules.flatMap cRu) (r*18)] rfl rfl rfl) I0 I0 (oA (Zq rfl rfl) I0 (Ze (Zc (Zo rfl (Zn (Zc (Zb ?_)))))))))
 by_cases hs2:(En.isP c.st.length kp)=true
 have hk0:=En.isP_in hs2
 by_cases hs3:kp=((i:Nat):Int)
 refine Zu (dM (mT 0 (.el (En.sysP p n t f) 0)) (dA (fe 2 7 U35 1) I0 (dA (lE (iv kp) 16 U3) I0 (dD (sc #[.tmp 15,.tmp 17] [] (ZS (isProc_c hn) hs2) [.el (En.sysP p n t f) 0,iv kp] rfl rfl rfl) I0 I0 I0 (dM (mT 18 bT) (dA (fe 2 7 U35 1) I0 (dA (lE (iv kp) 20 U3) I0 (dA (fe 1 7 U35 1) I0 (dA (lE (iv i) 22 U3) I0 (dC (Zs rfl (dT' hs3)) I0 I0 (dP (pk true bF bF rfl) (dM (mT 25 bF) (dK (dK (dK (dK (dK (dK (dK (dK (dK (dK (dP (pk false (.v (.tuple #[])) bF rfl) (dM (aT 37 bF) (dE ?_))))))))))))))))))))))))) (by kernel_rfl)
 show ETri J w0 _ _ _
 refine Zc (Zk ?_)
 refine Zl Try.results47 (.tmp rfl) ?_
 rw [show En.ptB c p.rules[r] i kp=_ from if_pos (En.or_t hs1)]
 exact congrArg (fun x:Bool=>AV.v (.bool x)) ((by simp only [hs2,hs3,decide_true,decide_false,Bool.and_true,Bool.true_and,Bool.false_and,Bool.and_false,Bool.true_or,Bool.false_or,Bool.or_true,Bool.or_false,Bool.not_true,Bool.not_false]))
 refine Zu (dM (mT 0 (.el (En.sysP p n t f) 0)) (dA (fe 2 7 U35 1) I0 (dA (lE (iv kp) 16 U3) I0 (dD (sc #[.tmp 15,.tmp 17] [] (ZS (isProc_c hn) hs2) [.el (En.sysP p n t f) 0,iv kp] rfl rfl rfl) I0 I0 I0 (dM (mT 18 bT) (dA (fe 2 7 U35 1) I0 (dA (lE (iv kp) 20 U3) I0 (dA (fe 1 7 U35 1) I0 (dA (lE (iv i) 22 U3) I0 (dC (Zs rfl (dF' hs3)) I0 I0 (dP (pk true bT bF rfl) (dM (mT 25 bT) (dA (fe 2 7 U35 1) I0 (dA (lE (iv kp) 27 U3) I0 (dA (fe 1 5 U78 8) I0 (dC (Z9 (off':=1+kp.toNat*1) (.tmp 29) (.tmp 28) rfl U74 (by kernel_rfl) (by omega) (by omega) rfl) I0 I0 (dA (lE (iv (c.st.getD kp.toNat 0)) 30 U3 (En.cfV_st (by omega))) I0 (dM (mT 2 (.el (p.rules.flatMap cRu) (r*18))) (dA (Zx (off:=r*18) (.tmp 32) rfl) I0 (dA (fe (r*18+4) 33 U65 1) I0 (dA (lE (iv p.rules[r].pf) 34 U3 ((ZA lenRu p.rules r 4 (by omega) (by decide)).trans rfl)) I0 (dC (Zp rfl rfl) I0 I0 (dP (pk true (bv (decide ((c.st.getD kp.toNat 0)=p.rules[r].pf))) bF rfl) (dM (aT 37 (bv (decide ((c.st.getD kp.toNat 0)=p.rules[r].pf)))) (dE ?_))))))))))))))))))))))))) (by kernel_rfl)
 show ETri J w0 _ _ _
 refine Zc (Zk ?_)
 refine Zl Try.results47 (.tmp rfl) ?_
 rw [show En.ptB c p.rules[r] i kp=_ from if_pos (En.or_t hs1)]
 exact congrArg (fun x:Bool=>AV.v (.bool x)) ((by simp only [hs2,hs3,decide_true,decide_false,Bool.and_true,Bool.true_and,Bool.false_and,Bool.and_false,Bool.true_or,Bool.false_or,Bool.or_true,Bool.or_false,Bool.not_true,Bool.not_false]))
 have hs2f:(En.isP c.st.length kp)=false:=by simpa using hs2
 refine Zu (dM (mT 0 (.el (En.sysP p n t f) 0)) (dA (fe 2 7 U35 1) I0 (dA (lE (iv kp) 16 U3) I0 (dD (sc #[.tmp 15,.tmp 17] [] (ZS (isProc_c hn) hs2f) [.el (En.sysP p n t f) 0,iv kp] rfl rfl rfl) I0 I0 I0 (dM (mT 18 bF) (dK (dK (dK (dK (dK (dP (pk false (.v (.tuple #[])) bF rfl) (dM (mT 25 bF) (dK (dK (dK (dK (dK (dK (dK (dK (dK (dK (dP (pk false (.v (.tuple #[])) bF rfl) (dM (aT 37 bF) (dE ?_))))))))))))))))))))))))) (by kernel_rfl)
 show ETri J w0 _ _ _
 refine Zc (Zk ?_)
 refine Zl Try.results47 (.tmp rfl) ?_
 rw [show En.ptB c p.rules[r] i kp=_ from if_pos (En.or_t hs1)]
 exact congrArg (fun x:Bool=>AV.v (.bool x)) ((by simp only [hs2f,decide_true,decide_false,Bool.and_true,Bool.true_and,Bool.false_and,Bool.and_false,Bool.true_or,Bool.false_or,Bool.or_true,Bool.or_false,Bool.not_true,Bool.not_false]))
 have hs1f:(decide (p.rules[r].kind=2)||decide (p.rules[r].kind=5))=false:=by simpa using hs1
 refine Za (pM (mT 2 (.el (p.rules.flatMap cRu) (r*18))) (oC (sc #[.tmp 9] [] (ZS (hasPart_c hr) hs1f) [.el (p.rules.flatMap cRu) (r*18)] rfl rfl rfl) I0 I0 (oA (Zq rfl rfl) I0 (Ze (Zc (Zm rfl (Zb (Za (oA (fe 2 7 U35 1) I0 (oA (lE (iv kp) 12 U3) I0 (oC (Zp rfl rfl) I0 I0 (pM (aT 14 (bv (decide (kp=(-1))))) (Ze (Zc (Zk (Zh ?_))))))))))))))))
 refine Zl Try.results47 (.tmp rfl) ?_
 rw [show En.ptB c p.rules[r] i kp=_ from if_neg (En.or_f hs1f)]
 exact rfl
end Go.Proofs.Ytengacodacejiaa
