import Derived.Test.YtdbehgbggaaipaaGreatGrpebeobalj
import Derived.Test.YtdbehgbggaaipaaGreatGrpjljjncbf
import Derived.Test.YtdbehgbggaaipaaGreatGrphgdbcgpm
import Derived.Test.YtdbehgbggaaipaaGreatGrpinmkkjpe
set_option linter.all false
namespace Go.Proofs.YtdbehgbggaaipaaGreat
open Go.RowKit Go.Deep
variable {J:World→Prop}
variable {p:Fm}
theorem Rd.mf_t (h:Rd.looseB p=true):Rd.mfE p-1=1048576:=by
 unfold Rd.looseB at h
 rw [Bool.or_eq_true,decide_eq_true_iff,decide_eq_true_iff] at h
 unfold Rd.mfE;rw [if_pos h];rfl
theorem Rd.mf_in (p:Fm):1≤Rd.mfE p∧Rd.mfE p≤1048577:=by
 unfold Rd.mfE;split<;>omega
theorem Rd.mf_f (h:Rd.looseB p=false):Rd.mfE p-1=0:=by
 unfold Rd.looseB at h
 rw [Bool.or_eq_false_iff,decide_eq_false_iff_not,decide_eq_false_iff_not] at h
 unfold Rd.mfE;rw [if_neg (not_or.2 h)];rfl
abbrev YQ (x0:Cf) (x1:Fm):List (Nat × ABlk):=[(1,.box 31 (Rd.cCg x0)),(2,.box 71 [iv 0,iv 0,iv 0,iv 0,iv 0,iv 0,iv 0,iv 0,iv 0,iv 0,iv 0,iv 0,iv 0,iv 0,iv 0,iv 0]),(3,.box 27 [sv x1.nm,iv x1.top,ZW x1.sz,ZW x1.msgs,ZW x1.vals,iv x1.fzz,slA 4 cLn x1.res,Zb x1.init,Zb x1.lz,slA 18 cRu x1.rz])]
abbrev XRd3_h2 (x0:Cf):List (Nat × ABlk):=[(1,.box 31 (Rd.cCg x0)),(2,.box 71 [iv 0,iv 0,iv 0,iv 0,iv 0,iv 0,iv 0,iv 0,iv 0,iv 0,iv 0,iv 0,iv 0,iv 0,iv 0,iv 0])]
abbrev XRd3_h3 (x0:Fm) (x1:Int) (x2:Int) (x3:Cf):List (Nat × AV):=[(3,bx 1),(4,bx 2),(5,bF),(7,iv (Rd.shI x0.top (Ns.shT x0.top (Ns.cntE x0 x1 x2)) x3.sh))]
abbrev Ze6:List (Nat × AV):=[(3,bx 1),(4,bx 2),(5,bF),(10,bx 4)]
abbrev W8 (x0:Fm) (x1:Int) (x2:Int) (x3:Cf):List (Nat × AV):=[(3,bx 1),(4,bx 2),(5,bF),(6,bx 3),(7,iv (Rd.shI x0.top (Ns.shT x0.top (Ns.cntE x0 x1 x2)) x3.sh))]
abbrev Zc9 (x0:Fm) (x1:Int) (x2:Int) (x3:Cf):List (Nat × AV):=[(3,bx 1),(4,bx 2),(5,bF),(6,bx 3),(7,iv (Rd.shI x0.top (Ns.shT x0.top (Ns.cntE x0 x1 x2)) x3.sh)),(51,bT)]
variable {n t f:Int}{c:Cf}
set_option maxRecDepth 100000 in
set_option maxHeartbeats 6400000 in
theorem read_c (HC:Rd.CgOk c):Ctr Tryz.prog J 30 [.el (Ns.sysC p n t f) 0,.agg (Rd.cCg c)] (.tup [.agg (Rd.cfZ (Rd.rdY p n f c) (Rd.shI p.top (Ns.shT p.top (Ns.cntE p n f)) c.sh) c),bv (Rd.rdX p n f c)]):=by
 have hmf:=Rd.mf_in p
 refine Zm Tryz.func30 rfl (pN (show Plain (.el (Ns.sysC p n t f) 0) from .el (ZN (Ns.plain_sys p n t f))) (pN (Zh (Rd.plain_cg c)) pZ)) (n:=124) rfl (by simp) (fun w0 => ?_)
 refine kW 124 [] [(0,.el (Ns.sysC p n t f) 0),(1,.agg (Rd.cCg c))] (jB (oX 1 (.agg (Rd.cCg c)) (oZ 2 Z71 (oS bF (jD (Za (oW (oF (.el (Ns.sysC p n t f) 0) (oA (Zj (z:=10) (ds:=[sv p.nm,iv p.top,ZW p.sz,ZW p.msgs,ZW p.vals,iv p.fzz,slA 4 cLn p.res,Zb p.init,Zb p.lz,slA 18 cRu p.rz]) (.tmp 13) rfl U27 rfl (by kernel_rfl) (by kernel_rfl) rfl) I0 (oZ 3 Z27 (oY (kN 124 (YQ c p) [(0,.el (Ns.sysC p n t f) 0),(3,bx 1),(4,bx 2),(5,bF),(6,bx 3)] (jC (Za (oW (oW (oW (oK (ZeK HC.sh HC.lsh) [.el (Ns.sysC p n t f) 0,Zb c.sh] rfl rfl (oS (.tup [iv (Rd.shI p.top (Ns.shT p.top (Ns.cntE p n f)) c.sh),bv (Rd.shB p.top (Ns.shT p.top (Ns.cntE p n f)) c.sh)]) ?_)))))))))))))))))))
 refine oW (oW (oS (iv (Rd.shI p.top (Ns.shT p.top (Ns.cntE p n f)) c.sh)) (oS (bv (Rd.shB p.top (Ns.shT p.top (Ns.cntE p n f)) c.sh)) (jD (Zl ?_)))))
 by_cases hs1:(Rd.shB p.top (Ns.shT p.top (Ns.cntE p n f)) c.sh)=true
 rw [hs1]
 refine kW 124 (YQ c p) [(0,.el (Ns.sysC p n t f) 0),(3,bx 1),(4,bx 2),(5,bF),(6,bx 3),(7,iv (Rd.shI p.top (Ns.shT p.top (Ns.cntE p n f)) c.sh)),(8,bT)] ?_
 by_cases hs2:(c.st.length:Int)=(Ns.cntE p n f)
 by_cases hs3:(Rd.belB c.st (p.sz.length:Int))=true
 by_cases hs4:c.cor=(n-f)
 refine tD (dW (dW (dS bF (dW (dW (dW (dW (dW (dW (dW (dn (dT' hs2) (dW (dS bF (dW (dW (dW (dW (dW (dk (Zr (Yj c.st (Nat.le_trans HC.lst (by decide))) hs3) [Zb c.st,iv p.sz.length] rfl rfl (dW (dW (dS bF (dW (dW (dW (dW (dW (dW (dn (dT' hs4) (dS bF (eD ?_)))))))))))))))))))))))))))))))
 refine kW 124 (YQ c p) [(3,bx 1),(4,bx 2),(5,bF),(6,bx 3),(7,iv (Rd.shI p.top (Ns.shT p.top (Ns.cntE p n f)) c.sh)),(51,bF)] (jJ (jM ?_))
 by_cases hs5:(c.se.length:Int)=(p.msgs.length:Int)
 by_cases hs6:(Rd.belB c.se 1048577)=true
 refine Za (oW (oW (oW (oW (oW (oW (on (dT' hs5) (oS bF (oW (oW (oK (Zr (Yj c.se (Nat.le_trans HC.lse (by decide))) hs6) [Zb c.se,iv 1048577] rfl rfl (oW (oS bF (jF (jB (oS (iv 0) (kN 124 (YQ c p) [(3,bx 1),(4,bx 2),(5,bF),(6,bx 3),(7,iv (Rd.shI p.top (Ns.shT p.top (Ns.cntE p n f)) c.sh)),(9,iv 0)] (Zf ?_))))))))))))))))))
 refine jM ?_
 refine Ym (True) (ofL [(1,.box 31 (Rd.cCg c)),(2,.box 71 [iv 0,iv 0,iv 0,iv 0,iv 0,iv 0,iv 0,iv 0,iv 0,iv 0,iv 0,iv 0,iv 0,iv 0,iv 0,iv 0]),(3,.box 27 [sv p.nm,iv p.top,ZW p.sz,ZW p.msgs,ZW p.vals,iv p.fzz,slA 4 cLn p.res,Zb p.init,Zb p.lz,slA 18 cRu p.rz])]) (ofT 124 [(3,bx 1),(4,bx 2),(5,bF),(6,bx 3),(7,iv (Rd.shI p.top (Ns.shT p.top (Ns.cntE p n f)) c.sh)),(9,iv 0),(74,bv (Rd.looseB p))]) ?_ (fun _ => ?_)
 by_cases hs7:p.fzz=1
 refine Za (oW (oW (oe (dT hs7) (oS bT (qK (qK (qK (oS bT (kN 124 [(1,.box 31 (Rd.cCg c)),(2,.box 71 [iv 0,iv 0,iv 0,iv 0,iv 0,iv 0,iv 0,iv 0,iv 0,iv 0,iv 0,iv 0,iv 0,iv 0,iv 0,iv 0]),(3,.box 27 [sv p.nm,iv p.top,ZW p.sz,ZW p.msgs,ZW p.vals,iv p.fzz,slA 4 cLn p.res,Zb p.init,Zb p.lz,slA 18 cRu p.rz])] [(3,bx 1),(4,bx 2),(5,bF),(6,bx 3),(7,iv (Rd.shI p.top (Ns.shT p.top (Ns.cntE p n f)) c.sh)),(9,iv 0),(74,bT)] ?_)))))))))
 rw [show (Rd.looseB p)=true by simp only [Rd.looseB,hs7,decide_true,decide_false,Bool.true_or,Bool.false_or]]
 exact tM T0
 refine Za (oW (oW (oe (dF hs7) (oS bF (oF (iv p.fzz) (gC (ZM rfl rfl) I0 I0 (oS (bv (decide (p.fzz=2))) (kN 124 [(1,.box 31 (Rd.cCg c)),(2,.box 71 [iv 0,iv 0,iv 0,iv 0,iv 0,iv 0,iv 0,iv 0,iv 0,iv 0,iv 0,iv 0,iv 0,iv 0,iv 0,iv 0]),(3,.box 27 [sv p.nm,iv p.top,ZW p.sz,ZW p.msgs,ZW p.vals,iv p.fzz,slA 4 cLn p.res,Zb p.init,Zb p.lz,slA 18 cRu p.rz])] [(3,bx 1),(4,bx 2),(5,bF),(6,bx 3),(7,iv (Rd.shI p.top (Ns.shT p.top (Ns.cntE p n f)) c.sh)),(9,iv 0),(74,bv (decide (p.fzz=2)))] ?_))))))))
 rw [show (Rd.looseB p)=(decide (p.fzz=2)) by simp only [Rd.looseB,hs7,decide_true,decide_false,Bool.true_or,Bool.false_or]]
 exact tM T0
 refine Zf ?_
 refine Ym (True) (ofL (YQ c p)) (ofT 124 [(3,bx 1),(4,bx 2),(5,bF),(6,bx 3),(7,iv (Rd.shI p.top (Ns.shT p.top (Ns.cntE p n f)) c.sh)),(9,iv (Rd.mfE p-1))]) ?_ (fun _ => ?_)
 by_cases hs8:(Rd.looseB p)=true
 rw [hs8]
 refine kW 124 [(1,.box 31 (Rd.cCg c)),(2,.box 71 [iv 0,iv 0,iv 0,iv 0,iv 0,iv 0,iv 0,iv 0,iv 0,iv 0,iv 0,iv 0,iv 0,iv 0,iv 0,iv 0]),(3,.box 27 [sv p.nm,iv p.top,ZW p.sz,ZW p.msgs,ZW p.vals,iv p.fzz,slA 4 cLn p.res,Zb p.init,Zb p.lz,slA 18 cRu p.rz])] [(3,bx 1),(4,bx 2),(5,bF),(6,bx 3),(7,iv (Rd.shI p.top (Ns.shT p.top (Ns.cntE p n f)) c.sh)),(9,iv 0),(74,bT)] (Yb rfl (Za (oS (iv 1048576) (kN 124 [(1,.box 31 (Rd.cCg c)),(2,.box 71 [iv 0,iv 0,iv 0,iv 0,iv 0,iv 0,iv 0,iv 0,iv 0,iv 0,iv 0,iv 0,iv 0,iv 0,iv 0,iv 0]),(3,.box 27 [sv p.nm,iv p.top,ZW p.sz,ZW p.msgs,ZW p.vals,iv p.fzz,slA 4 cLn p.res,Zb p.init,Zb p.lz,slA 18 cRu p.rz])] [(3,bx 1),(4,bx 2),(5,bF),(6,bx 3),(7,iv (Rd.shI p.top (Ns.shT p.top (Ns.cntE p n f)) c.sh)),(9,iv 1048576)] ?_))))
 rw [Rd.mf_t hs8]
 exact tM T0
 have hs8f:(Rd.looseB p)=false:=by simpa using hs8
 rw [hs8f]
 refine kW 124 [(1,.box 31 (Rd.cCg c)),(2,.box 71 [iv 0,iv 0,iv 0,iv 0,iv 0,iv 0,iv 0,iv 0,iv 0,iv 0,iv 0,iv 0,iv 0,iv 0,iv 0,iv 0]),(3,.box 27 [sv p.nm,iv p.top,ZW p.sz,ZW p.msgs,ZW p.vals,iv p.fzz,slA 4 cLn p.res,Zb p.init,Zb p.lz,slA 18 cRu p.rz])] [(3,bx 1),(4,bx 2),(5,bF),(6,bx 3),(7,iv (Rd.shI p.top (Ns.shT p.top (Ns.cntE p n f)) c.sh)),(9,iv 0),(74,bF)] (ZA rfl (Zq ?_))
 rw [Rd.mf_f hs8f]
 exact tM T0
 refine jC (Zl ?_)
 by_cases hs9:(c.fa.length:Int)=(p.msgs.length:Int)
 by_cases hs10:(Rd.belB c.fa ((Rd.mfE p-1)+1))=true
 refine Za (oW (oW (oW (oW (oW (oW (on (dT' hs9) (oS bF (oW (oW (oS (iv (Rd.mfE p-1)) (oV ((Rd.mfE p-1)+1) (oK (Zr (Yj c.fa (Nat.le_trans HC.lfa (by decide))) hs10) [Zb c.fa,iv ((Rd.mfE p-1)+1)] rfl rfl (oW (oS bF (jF (jM ?_)))))))))))))))))
 by_cases hs11:c.val<0
 refine Za (oW (oW (ol (dT hs11) (oS bT (qK (qK (qK (qK (qK (qK (qK (oS bT (jG (Y6 rfl (Ki [] #[.int .i64 0,.int .i64 0,.int .i64 0,.int .i64 0,.int .i64 0,.int .i64 0,.int .i64 0,.int .i64 0,.int .i64 0,.int .i64 0,.int .i64 0,.int .i64 0,.int .i64 0,.int .i64 0,.int .i64 0,.int .i64 0] rfl rfl (by kernel_rfl) rfl) T0 T0 T0 (oY (oS bF (kN 124 (XRd3_h2 c) (XRd3_h3 p n f c) (Zf (Z4 ?_)))))))))))))))))))
 refine Zc ?_
 refine ZQ Tryz.results30 (.cellS rfl rfl U71 rfl (z:=16) (by kernel_rfl) rfl (by decide)) (.tmp rfl) ?_
 rw [Int.sub_add_cancel] at hs10
 have hr:(Rd.rdX p n f c)=false:=by simp only [Rd.rdX,Rd.rdB,hs1,hs2,hs3,hs4,hs5,hs6,hs9,hs10,hs11,decide_true,decide_false,Bool.and_true,Bool.true_and,Bool.false_and,Bool.and_false,Bool.not_true,Bool.not_false,if_true,if_false,true_or,or_true,or_self,not_true_eq_false,not_false_eq_true,ite_true,ite_false,or_false,false_or]
 rw [show (Rd.rdY p n f c)=false from hr,hr]
 exact rfl
 by_cases hs12:(max (p.vals.length:Int) 1)≤c.val
 refine Za (oW (oW (ol (dF hs11) (oS bF (oW (oW (oW (oF (iv p.vals.length) (gC (Zdv (.tmp 99) (.const (.int .i64 1)) rfl) I0 I0 (oh (dT hs12) (oS bT (jG (Y6 rfl (Ki [] #[.int .i64 0,.int .i64 0,.int .i64 0,.int .i64 0,.int .i64 0,.int .i64 0,.int .i64 0,.int .i64 0,.int .i64 0,.int .i64 0,.int .i64 0,.int .i64 0,.int .i64 0,.int .i64 0,.int .i64 0,.int .i64 0] rfl rfl (by kernel_rfl) rfl) T0 T0 T0 (oY (oS bF (kN 124 (XRd3_h2 c) (XRd3_h3 p n f c) (Zf (jN ?_))))))))))))))))))
 refine ZQ Tryz.results30 (.cellS rfl rfl U71 rfl (z:=16) (by kernel_rfl) rfl (by decide)) (.tmp rfl) ?_
 rw [Int.sub_add_cancel] at hs10
 have hr:(Rd.rdX p n f c)=false:=by simp only [Rd.rdX,Rd.rdB,hs1,hs2,hs3,hs4,hs5,hs6,hs9,hs10,hs11,hs12,decide_true,decide_false,Bool.and_true,Bool.true_and,Bool.false_and,Bool.and_false,Bool.not_true,Bool.not_false,if_true,if_false,true_or,or_true,or_self,not_true_eq_false,not_false_eq_true,ite_true,ite_false,or_false,false_or]
 rw [show (Rd.rdY p n f c)=false from hr,hr]
 exact rfl
 refine Za (oW (oW (ol (dF hs11) (oS bF (oW (oW (oW (oF (iv p.vals.length) (gC (Zdv (.tmp 99) (.const (.int .i64 1)) rfl) I0 I0 (oh (dF hs12) (oS bF (jF (jB (oS (iv (Rd.shI p.top (Ns.shT p.top (Ns.cntE p n f)) c.sh)) (oF (iv c.val) (oC (Ki [(.tmp 104,.int .i64 (Rd.shI p.top (Ns.shT p.top (Ns.cntE p n f)) c.sh)),(.tmp 106,.int .i64 c.val)] #[.int .i64 (Rd.shI p.top (Ns.shT p.top (Ns.cntE p n f)) c.sh),.int .i64 0,.int .i64 0,.int .i64 0,.int .i64 0,.int .i64 0,.int .i64 0,.int .i64 0,.int .i64 0,.int .i64 0,.int .i64 0,.int .i64 0,.int .i64 0,.int .i64 0,.int .i64 0,.int .i64 c.val] rfl rfl (by kernel_rfl) rfl) I0 I0 (oZ 4 Z71 (oY ?_))))))))))))))))))
 refine kN 124 [(1,.box 31 (Rd.cCg c)),(2,.box 71 [iv 0,iv 0,iv 0,iv 0,iv 0,iv 0,iv 0,iv 0,iv 0,iv 0,iv 0,iv 0,iv 0,iv 0,iv 0,iv 0]),(4,.box 71 [iv (Rd.shI p.top (Ns.shT p.top (Ns.cntE p n f)) c.sh),iv 0,iv 0,iv 0,iv 0,iv 0,iv 0,iv 0,iv 0,iv 0,iv 0,iv 0,iv 0,iv 0,iv 0,iv c.val])] Ze6 (jC ?_)
 refine tD (dS (.box 4 1) (dA (Zan (z:=1) (.tmp 108) rfl U67 (by kernel_rfl)) I0 (dW (dS (Zb c.st) (dR (Zao (old:=[iv (Rd.shI p.top (Ns.shT p.top (Ns.cntE p n f)) c.sh),iv 0,iv 0,iv 0,iv 0,iv 0,iv 0,iv 0,iv 0,iv 0,iv 0,iv 0,iv 0,iv 0,iv 0,iv c.val]) (new:=[iv (Rd.shI p.top (Ns.shT p.top (Ns.cntE p n f)) c.sh),iv (c.st.getD 0 0),iv (c.st.getD 1 0),iv (c.st.getD 2 0),iv (c.st.getD 3 0),iv (c.st.getD 4 0),iv (c.st.getD 5 0),iv (c.st.getD 6 0),iv (c.st.getD 7 0),iv 0,iv 0,iv 0,iv 0,iv 0,iv 0,iv c.val]) c.st (.tmp 109) (.tmp 111) rfl U24 (by kernel_rfl) (by kernel_rfl) (by kernel_rfl) (by kernel_rfl)) ⟨I0,I0,T0⟩ ⟨rfl,T0⟩ rfl (eD ?_))))))
 refine kW 124 [(1,.box 31 (Rd.cCg c)),(2,.box 71 [iv 0,iv 0,iv 0,iv 0,iv 0,iv 0,iv 0,iv 0,iv 0,iv 0,iv 0,iv 0,iv 0,iv 0,iv 0,iv 0]),(4,.box 71 [iv (Rd.shI p.top (Ns.shT p.top (Ns.cntE p n f)) c.sh),iv (c.st.getD 0 0),iv (c.st.getD 1 0),iv (c.st.getD 2 0),iv (c.st.getD 3 0),iv (c.st.getD 4 0),iv (c.st.getD 5 0),iv (c.st.getD 6 0),iv (c.st.getD 7 0),iv 0,iv 0,iv 0,iv 0,iv 0,iv 0,iv c.val])] Ze6 (jC ?_)
 refine tD (dS (.box 4 9) (dA (Zan (z:=1) (.tmp 113) rfl U69 (by kernel_rfl)) I0 (dW (dS (Zb c.se) (dR (Zao (old:=[iv (Rd.shI p.top (Ns.shT p.top (Ns.cntE p n f)) c.sh),iv (c.st.getD 0 0),iv (c.st.getD 1 0),iv (c.st.getD 2 0),iv (c.st.getD 3 0),iv (c.st.getD 4 0),iv (c.st.getD 5 0),iv (c.st.getD 6 0),iv (c.st.getD 7 0),iv 0,iv 0,iv 0,iv 0,iv 0,iv 0,iv c.val]) (new:=[iv (Rd.shI p.top (Ns.shT p.top (Ns.cntE p n f)) c.sh),iv (c.st.getD 0 0),iv (c.st.getD 1 0),iv (c.st.getD 2 0),iv (c.st.getD 3 0),iv (c.st.getD 4 0),iv (c.st.getD 5 0),iv (c.st.getD 6 0),iv (c.st.getD 7 0),iv (c.se.getD 0 0),iv (c.se.getD 1 0),iv (c.se.getD 2 0),iv 0,iv 0,iv 0,iv c.val]) c.se (.tmp 114) (.tmp 116) rfl U24 (by kernel_rfl) (by kernel_rfl) (by kernel_rfl) (by kernel_rfl)) ⟨I0,I0,T0⟩ ⟨rfl,T0⟩ rfl (eD ?_))))))
 refine kW 124 [(1,.box 31 (Rd.cCg c)),(2,.box 71 [iv 0,iv 0,iv 0,iv 0,iv 0,iv 0,iv 0,iv 0,iv 0,iv 0,iv 0,iv 0,iv 0,iv 0,iv 0,iv 0]),(4,.box 71 [iv (Rd.shI p.top (Ns.shT p.top (Ns.cntE p n f)) c.sh),iv (c.st.getD 0 0),iv (c.st.getD 1 0),iv (c.st.getD 2 0),iv (c.st.getD 3 0),iv (c.st.getD 4 0),iv (c.st.getD 5 0),iv (c.st.getD 6 0),iv (c.st.getD 7 0),iv (c.se.getD 0 0),iv (c.se.getD 1 0),iv (c.se.getD 2 0),iv 0,iv 0,iv 0,iv c.val])] Ze6 (jC ?_)
 refine tD (dS (.box 4 12) (dA (Zan (z:=1) (.tmp 118) rfl U69 (by kernel_rfl)) I0 (dW (dS (Zb c.fa) (dR (Zao (old:=[iv (Rd.shI p.top (Ns.shT p.top (Ns.cntE p n f)) c.sh),iv (c.st.getD 0 0),iv (c.st.getD 1 0),iv (c.st.getD 2 0),iv (c.st.getD 3 0),iv (c.st.getD 4 0),iv (c.st.getD 5 0),iv (c.st.getD 6 0),iv (c.st.getD 7 0),iv (c.se.getD 0 0),iv (c.se.getD 1 0),iv (c.se.getD 2 0),iv 0,iv 0,iv 0,iv c.val]) (new:=[iv (Rd.shI p.top (Ns.shT p.top (Ns.cntE p n f)) c.sh),iv (c.st.getD 0 0),iv (c.st.getD 1 0),iv (c.st.getD 2 0),iv (c.st.getD 3 0),iv (c.st.getD 4 0),iv (c.st.getD 5 0),iv (c.st.getD 6 0),iv (c.st.getD 7 0),iv (c.se.getD 0 0),iv (c.se.getD 1 0),iv (c.se.getD 2 0),iv (c.fa.getD 0 0),iv (c.fa.getD 1 0),iv (c.fa.getD 2 0),iv c.val]) c.fa (.tmp 119) (.tmp 121) rfl U24 (by kernel_rfl) (by kernel_rfl) (by kernel_rfl) (by kernel_rfl)) ⟨I0,I0,T0⟩ ⟨rfl,T0⟩ rfl (eD ?_))))))
 refine kW 124 [(2,.box 71 [iv 0,iv 0,iv 0,iv 0,iv 0,iv 0,iv 0,iv 0,iv 0,iv 0,iv 0,iv 0,iv 0,iv 0,iv 0,iv 0]),(4,.box 71 [iv (Rd.shI p.top (Ns.shT p.top (Ns.cntE p n f)) c.sh),iv (c.st.getD 0 0),iv (c.st.getD 1 0),iv (c.st.getD 2 0),iv (c.st.getD 3 0),iv (c.st.getD 4 0),iv (c.st.getD 5 0),iv (c.st.getD 6 0),iv (c.st.getD 7 0),iv (c.se.getD 0 0),iv (c.se.getD 1 0),iv (c.se.getD 2 0),iv (c.fa.getD 0 0),iv (c.fa.getD 1 0),iv (c.fa.getD 2 0),iv c.val])] [(4,bx 2),(5,bF),(10,bx 4)] (jC (Za (oW (oY (oS bT (kN 124 [(2,.box 71 [iv (Rd.shI p.top (Ns.shT p.top (Ns.cntE p n f)) c.sh),iv (c.st.getD 0 0),iv (c.st.getD 1 0),iv (c.st.getD 2 0),iv (c.st.getD 3 0),iv (c.st.getD 4 0),iv (c.st.getD 5 0),iv (c.st.getD 6 0),iv (c.st.getD 7 0),iv (c.se.getD 0 0),iv (c.se.getD 1 0),iv (c.se.getD 2 0),iv (c.fa.getD 0 0),iv (c.fa.getD 1 0),iv (c.fa.getD 2 0),iv c.val])] [(4,bx 2),(5,bT)] (Zf (Z4 ?_))))))))
 refine ZQ Tryz.results30 (.cellS rfl rfl U71 rfl (z:=16) (by kernel_rfl) rfl (by decide)) (.tmp rfl) ?_
 rw [Int.sub_add_cancel] at hs10
 have hr:(Rd.rdX p n f c)=true:=by simp only [Rd.rdX,Rd.rdB,hs1,hs2,hs3,hs4,hs5,hs6,hs9,hs10,hs11,hs12,decide_true,decide_false,Bool.and_true,Bool.true_and,Bool.false_and,Bool.and_false,Bool.not_true,Bool.not_false,if_true,if_false,true_or,or_true,or_self,not_true_eq_false,not_false_eq_true,ite_true,ite_false,or_false,false_or]
 rw [show (Rd.rdY p n f c)=true from hr,hr]
 exact rfl
 have hs10f:(Rd.belB c.fa ((Rd.mfE p-1)+1))=false:=by simpa using hs10
 refine Za (oW (oW (oW (oW (oW (oW (on (dT' hs9) (oS bF (oW (oW (oS (iv (Rd.mfE p-1)) (oV ((Rd.mfE p-1)+1) (oK (Zr (Yj c.fa (Nat.le_trans HC.lfa (by decide))) hs10f) [Zb c.fa,iv ((Rd.mfE p-1)+1)] rfl rfl (oW (oS bT (jG (Y6 rfl (Ki [] #[.int .i64 0,.int .i64 0,.int .i64 0,.int .i64 0,.int .i64 0,.int .i64 0,.int .i64 0,.int .i64 0,.int .i64 0,.int .i64 0,.int .i64 0,.int .i64 0,.int .i64 0,.int .i64 0,.int .i64 0,.int .i64 0] rfl rfl (by kernel_rfl) rfl) T0 T0 T0 (oY (oS bF ?_)))))))))))))))))))
 refine kN 124 (YQ c p) (W8 p n f c) (Zf (jN ?_))
 refine ZQ Tryz.results30 (.cellS rfl rfl U71 rfl (z:=16) (by kernel_rfl) rfl (by decide)) (.tmp rfl) ?_
 rw [Int.sub_add_cancel] at hs10f
 have hr:(Rd.rdX p n f c)=false:=by simp only [Rd.rdX,Rd.rdB,hs1,hs2,hs3,hs4,hs5,hs6,hs9,hs10f,decide_true,decide_false,Bool.and_true,Bool.true_and,Bool.false_and,Bool.and_false,Bool.not_true,Bool.not_false,if_true,if_false,true_or,or_true,or_self,not_true_eq_false,not_false_eq_true,ite_true,ite_false,or_false,false_or]
 rw [show (Rd.rdY p n f c)=false from hr,hr]
 exact rfl
 refine Za (oW (oW (oW (oW (oW (oW (on (dF' hs9) (oS bT (qK (qK (qK (qK (qK (qK (oS bT (jG (Y6 rfl (Ki [] #[.int .i64 0,.int .i64 0,.int .i64 0,.int .i64 0,.int .i64 0,.int .i64 0,.int .i64 0,.int .i64 0,.int .i64 0,.int .i64 0,.int .i64 0,.int .i64 0,.int .i64 0,.int .i64 0,.int .i64 0,.int .i64 0] rfl rfl (by kernel_rfl) rfl) T0 T0 T0 (oY (oS bF ?_)))))))))))))))))))
 refine kN 124 (YQ c p) (W8 p n f c) (Zf (jN ?_))
 refine ZQ Tryz.results30 (.cellS rfl rfl U71 rfl (z:=16) (by kernel_rfl) rfl (by decide)) (.tmp rfl) ?_
 have hr:(Rd.rdX p n f c)=false:=by simp only [Rd.rdX,Rd.rdB,hs1,hs2,hs3,hs4,hs5,hs6,hs9,decide_true,decide_false,Bool.and_true,Bool.true_and,Bool.false_and,Bool.and_false,Bool.not_true,Bool.not_false,if_true,if_false,true_or,or_true,or_self,not_true_eq_false,not_false_eq_true,ite_true,ite_false,or_false,false_or]
 rw [show (Rd.rdY p n f c)=false from hr,hr]
 exact rfl
 have hs6f:(Rd.belB c.se 1048577)=false:=by simpa using hs6
 refine Za (oW (oW (oW (oW (oW (oW (on (dT' hs5) (oS bF (oW (oW (oK (Zr (Yj c.se (Nat.le_trans HC.lse (by decide))) hs6f) [Zb c.se,iv 1048577] rfl rfl (oW (oS bT (jG (Y6 rfl (Ki [] #[.int .i64 0,.int .i64 0,.int .i64 0,.int .i64 0,.int .i64 0,.int .i64 0,.int .i64 0,.int .i64 0,.int .i64 0,.int .i64 0,.int .i64 0,.int .i64 0,.int .i64 0,.int .i64 0,.int .i64 0,.int .i64 0] rfl rfl (by kernel_rfl) rfl) T0 T0 T0 (oY (oS bF (kN 124 (YQ c p) (W8 p n f c) (Zf ?_)))))))))))))))))))
 refine jN ?_
 refine ZQ Tryz.results30 (.cellS rfl rfl U71 rfl (z:=16) (by kernel_rfl) rfl (by decide)) (.tmp rfl) ?_
 have hr:(Rd.rdX p n f c)=false:=by simp only [Rd.rdX,Rd.rdB,hs1,hs2,hs3,hs4,hs5,hs6f,decide_true,decide_false,Bool.and_true,Bool.true_and,Bool.false_and,Bool.and_false,Bool.not_true,Bool.not_false,if_true,if_false,true_or,or_true,or_self,not_true_eq_false,not_false_eq_true,ite_true,ite_false,or_false,false_or]
 rw [show (Rd.rdY p n f c)=false from hr,hr]
 exact rfl
 refine Za (oW (oW (oW (oW (oW (oW (on (dF' hs5) (oS bT (qK (qK (qK (qK (oS bT (jG (Y6 rfl (Ki [] #[.int .i64 0,.int .i64 0,.int .i64 0,.int .i64 0,.int .i64 0,.int .i64 0,.int .i64 0,.int .i64 0,.int .i64 0,.int .i64 0,.int .i64 0,.int .i64 0,.int .i64 0,.int .i64 0,.int .i64 0,.int .i64 0] rfl rfl (by kernel_rfl) rfl) T0 T0 T0 (oY (oS bF (kN 124 (YQ c p) (W8 p n f c) (Zf ?_)))))))))))))))))))
 refine jN ?_
 refine ZQ Tryz.results30 (.cellS rfl rfl U71 rfl (z:=16) (by kernel_rfl) rfl (by decide)) (.tmp rfl) ?_
 have hr:(Rd.rdX p n f c)=false:=by simp only [Rd.rdX,Rd.rdB,hs1,hs2,hs3,hs4,hs5,decide_true,decide_false,Bool.and_true,Bool.true_and,Bool.false_and,Bool.and_false,Bool.not_true,Bool.not_false,if_true,if_false,true_or,or_true,or_self,not_true_eq_false,not_false_eq_true,ite_true,ite_false,or_false,false_or]
 rw [show (Rd.rdY p n f c)=false from hr,hr]
 exact rfl
 refine tD (dW (dW (dS bF (dW (dW (dW (dW (dW (dW (dW (dn (dT' hs2) (dW (dS bF (dW (dW (dW (dW (dW (dk (Zr (Yj c.st (Nat.le_trans HC.lst (by decide))) hs3) [Zb c.st,iv p.sz.length] rfl rfl (dW (dW (dS bF (dW (dW (dW (dW (dW (dW (dn (dF' hs4) (dS bT (eD ?_)))))))))))))))))))))))))))))))
 refine kW 124 (YQ c p) (Zc9 p n f c) (Zf (jK (Y6 rfl (Ki [] #[.int .i64 0,.int .i64 0,.int .i64 0,.int .i64 0,.int .i64 0,.int .i64 0,.int .i64 0,.int .i64 0,.int .i64 0,.int .i64 0,.int .i64 0,.int .i64 0,.int .i64 0,.int .i64 0,.int .i64 0,.int .i64 0] rfl rfl (by kernel_rfl) rfl) T0 T0 T0 (oY (oS bF (kN 124 (YQ c p) (W8 p n f c) (Zf (jN ?_))))))))
 refine ZQ Tryz.results30 (.cellS rfl rfl U71 rfl (z:=16) (by kernel_rfl) rfl (by decide)) (.tmp rfl) ?_
 have hr:(Rd.rdX p n f c)=false:=by simp only [Rd.rdX,Rd.rdB,hs1,hs2,hs3,hs4,decide_true,decide_false,Bool.and_true,Bool.true_and,Bool.false_and,Bool.and_false,Bool.not_true,Bool.not_false,if_true,if_false,true_or,or_true,or_self,not_true_eq_false,not_false_eq_true,ite_true,ite_false,or_false,false_or]
 rw [show (Rd.rdY p n f c)=false from hr,hr]
 exact rfl
 have hs3f:(Rd.belB c.st (p.sz.length:Int))=false:=by simpa using hs3
 refine tD (dW (dW (dS bF (dW (dW (dW (dW (dW (dW (dW (dn (dT' hs2) (dW (dS bF (dW (dW (dW (dW (dW (dk (Zr (Yj c.st (Nat.le_trans HC.lst (by decide))) hs3f) [Zb c.st,iv p.sz.length] rfl rfl (dW (dW (dS bT (dK (dK (dK (dK (dK (dK (dK (dS bT (eD ?_)))))))))))))))))))))))))))))))
 refine kW 124 (YQ c p) (Zc9 p n f c) (Zf (jK (Y6 rfl (Ki [] #[.int .i64 0,.int .i64 0,.int .i64 0,.int .i64 0,.int .i64 0,.int .i64 0,.int .i64 0,.int .i64 0,.int .i64 0,.int .i64 0,.int .i64 0,.int .i64 0,.int .i64 0,.int .i64 0,.int .i64 0,.int .i64 0] rfl rfl (by kernel_rfl) rfl) T0 T0 T0 (oY (oS bF (kN 124 (YQ c p) (W8 p n f c) (Zf (jN ?_))))))))
 refine ZQ Tryz.results30 (.cellS rfl rfl U71 rfl (z:=16) (by kernel_rfl) rfl (by decide)) (.tmp rfl) ?_
 have hr:(Rd.rdX p n f c)=false:=by simp only [Rd.rdX,Rd.rdB,hs1,hs2,hs3f,decide_true,decide_false,Bool.and_true,Bool.true_and,Bool.false_and,Bool.and_false,Bool.not_true,Bool.not_false,if_true,if_false,true_or,or_true,or_self,not_true_eq_false,not_false_eq_true,ite_true,ite_false,or_false,false_or]
 rw [show (Rd.rdY p n f c)=false from hr,hr]
 exact rfl
 refine tD (dW (dW (dS bF (dW (dW (dW (dW (dW (dW (dW (dn (dF' hs2) (dW (dS bT (dK (dK (dK (dK (dK (dK (dK (dW (dS bT (dK (dK (dK (dK (dK (dK (dK (dS bT (eD ?_)))))))))))))))))))))))))))))))
 refine kW 124 (YQ c p) (Zc9 p n f c) (Zf (jK (Y6 rfl (Ki [] #[.int .i64 0,.int .i64 0,.int .i64 0,.int .i64 0,.int .i64 0,.int .i64 0,.int .i64 0,.int .i64 0,.int .i64 0,.int .i64 0,.int .i64 0,.int .i64 0,.int .i64 0,.int .i64 0,.int .i64 0,.int .i64 0] rfl rfl (by kernel_rfl) rfl) T0 T0 T0 (oY (oS bF (kN 124 (YQ c p) (W8 p n f c) (Zf (jN ?_))))))))
 refine ZQ Tryz.results30 (.cellS rfl rfl U71 rfl (z:=16) (by kernel_rfl) rfl (by decide)) (.tmp rfl) ?_
 have hr:(Rd.rdX p n f c)=false:=by simp only [Rd.rdX,Rd.rdB,hs1,hs2,decide_true,decide_false,Bool.and_true,Bool.true_and,Bool.false_and,Bool.and_false,Bool.not_true,Bool.not_false,if_true,if_false,true_or,or_true,or_self,not_true_eq_false,not_false_eq_true,ite_true,ite_false,or_false,false_or]
 rw [show (Rd.rdY p n f c)=false from hr,hr]
 exact rfl
 have hs1f:(Rd.shB p.top (Ns.shT p.top (Ns.cntE p n f)) c.sh)=false:=by simpa using hs1
 rw [hs1f]
 refine kW 124 (YQ c p) [(0,.el (Ns.sysC p n t f) 0),(3,bx 1),(4,bx 2),(5,bF),(6,bx 3),(7,iv (Rd.shI p.top (Ns.shT p.top (Ns.cntE p n f)) c.sh)),(8,bF)] ?_
 refine tD (dW (dW (dS bT (dK (dK (dK (dK (dK (dK (dK (dK (dW (dS bT (dK (dK (dK (dK (dK (dK (dK (dW (dS bT (dK (dK (dK (dK (dK (dK (dK (dS bT (eD ?_)))))))))))))))))))))))))))))))
 refine kW 124 (YQ c p) (Zc9 p n f c) (Zf (jK (Y6 rfl (Ki [] #[.int .i64 0,.int .i64 0,.int .i64 0,.int .i64 0,.int .i64 0,.int .i64 0,.int .i64 0,.int .i64 0,.int .i64 0,.int .i64 0,.int .i64 0,.int .i64 0,.int .i64 0,.int .i64 0,.int .i64 0,.int .i64 0] rfl rfl (by kernel_rfl) rfl) T0 T0 T0 (oY (oS bF (kN 124 (YQ c p) (W8 p n f c) (Zf (jN ?_))))))))
 refine ZQ Tryz.results30 (.cellS rfl rfl U71 rfl (z:=16) (by kernel_rfl) rfl (by decide)) (.tmp rfl) ?_
 have hr:(Rd.rdX p n f c)=false:=by simp only [Rd.rdX,Rd.rdB,hs1f,decide_true,decide_false,Bool.and_true,Bool.true_and,Bool.false_and,Bool.and_false,Bool.not_true,Bool.not_false,if_true,if_false,true_or,or_true,or_self,not_true_eq_false,not_false_eq_true,ite_true,ite_false,or_false,false_or]
 rw [show (Rd.rdY p n f c)=false from hr,hr]
 exact rfl
namespace En
def cfV (s:Int) (c:Cf):List AV :=
 [iv s,iv (c.st.getD 0 0),iv (c.st.getD 1 0),iv (c.st.getD 2 0),iv (c.st.getD 3 0),iv (c.st.getD 4 0),iv (c.st.getD 5 0),iv (c.st.getD 6 0),iv (c.st.getD 7 0),
  iv (c.se.getD 0 0),iv (c.se.getD 1 0),iv (c.se.getD 2 0),iv (c.fa.getD 0 0),iv (c.fa.getD 1 0),iv (c.fa.getD 2 0),iv c.val]
theorem plain_cfV (s:Int) (c:Cf):∀ X∈cfV s c,Plain X:=by
 intro X hX
 simp only [cfV,List.mem_cons,List.not_mem_nil,or_false] at hX
 rcases hX with rfl | rfl | rfl | rfl | rfl | rfl | rfl | rfl | rfl | rfl | rfl | rfl | rfl | rfl | rfl | rfl<;>exact .v _
variable {s:Int}{k:Nat}
theorem cfV_st (h:k<8):(cfV s c)[1+k*1]? = some (iv (c.st.getD k 0)):=by
 obtain rfl | rfl | rfl | rfl | rfl | rfl | rfl | rfl:k=0∨k=1∨k=2∨k=3∨k=4∨k=5∨k=6∨k=7:=by omega
 all_goals rfl
theorem cfV_fa (h:k<3):(cfV s c)[12+k*1]? = some (iv (c.fa.getD k 0)):=by
 obtain rfl | rfl | rfl:k=0∨k=1∨k=2:=by omega
 all_goals rfl
theorem cfV_row (h:c.st.length≤8):((cfV s c).drop 1).take c.st.length=c.st.map iv:=by
 apply List.ext_getElem?
 intro j
 rw [List.getElem?_take]
 by_cases hj:j<c.st.length
 ·rw [if_pos hj,List.getElem?_drop,List.getElem?_map,List.getElem?_eq_getElem hj,Option.map_some]
  have:=cfV_st (s:=s) (c:=c) (k:=j) (by omega)
  rw [Nat.mul_one,Ct.getD_at hj] at this
  exact this
 rw [if_neg hj,List.getElem?_map,List.getElem?_eq_none (by omega)];rfl
def hdV (p:Fm) (f:Int) (c:Cf) (m:Nat):Int:=if p.fzz=1∨p.fzz=2 then c.se.getD m 0+c.fa.getD m 0 else if p.fzz=3 then c.se.getD m 0+f else c.se.getD m 0
def hdJ (p:Fm) (f:Int) (c:Cf) (j m:Nat):Int:=if m<j then hdV p f c m else c.se.getD m 0
def msA (g:Nat→Int):List AV:=midF [] 3 (fun m=>iv (g m)) []
theorem plain_msA (g:Nat→Int):∀ X∈msA g,Plain X:=by
 intro X hX
 unfold msA midF at hX
 rw [List.nil_append,List.append_nil] at hX
 obtain ⟨j,_,rfl⟩:=List.mem_map.1 hX;exact .v _
theorem msA_get {g:Nat→Int} (h:k<3):(msA g)[0+k*1]? = some (iv (g k)):=midF_get (i:=k) h (by show 0+k=_;omega)
variable {j:Nat}{x:Int}
theorem msA_step (h:j<3) (hx:x=hdV p f c j):setAll (msA (hdJ p f c j)) (0+j*1) [iv x]=msA (hdJ p f c (j+1)) :=
 midF_set (i:=j) h (by show 0+j=_;omega) (by unfold hdJ;rw [if_pos (by omega),hx]) fun k _ hne=>by
  refine congrArg iv ?_
  unfold hdJ
  by_cases a:k<j
  ·rw [if_pos a,if_pos (by omega)]
  rw [if_neg a,if_neg (by omega)]
theorem hdJ_skip (h1:¬ p.fzz=1) (h2:¬ p.fzz=2) (h3:¬ p.fzz=3):hdJ p f c (j+1)=hdJ p f c j:=by
 funext k
 unfold hdJ
 by_cases a:k<j
 ·rw [if_pos a,if_pos (by omega)]
 rw [if_neg a]
 by_cases b:k<j+1
 ·rw [if_pos b];unfold hdV;rw [if_neg (by omega),if_neg h3]
 rw [if_neg b]
theorem hdJ_at :hdJ p f c j j=c.se.getD j 0:=by unfold hdJ;rw [if_neg (by omega)]
theorem hd_12 (h:p.fzz=1∨p.fzz=2):hdJ p f c j j+c.fa.getD j 0=hdV p f c j:=by rw [hdJ_at];unfold hdV;rw [if_pos h]
theorem hd_3 (h:¬ p.fzz=1) (h2:¬ p.fzz=2) (h3:p.fzz=3):hdJ p f c j j+f=hdV p f c j:=by rw [hdJ_at];unfold hdV;rw [if_neg (by omega),if_pos h3]
def hdG (p:Fm) (f:Int) (c:Cf) (fo:Bool):Nat→Int:=if fo=true then (if p.fzz=1 then hdJ p f c p.msgs.length else fun m=>c.se.getD m 0) else hdJ p f c p.msgs.length
def isP (n:Nat) (i:Int):Bool:=decide (0≤i)&&decide (i<(n:Int))
def ptB (c:Cf) (r:Ru) (i:Nat) (k:Int):Bool:=if r.kind=2∨r.kind=5 then isP c.st.length k && !decide (k=(i:Int))&&decide (c.st.getD k.toNat 0=r.pf) else decide (k = -1)
def rdN (c:Cf) (r:Ru):Bool:=decide (0≤r.rd) && !decide (c.val=r.rd)
def gdN (n t f:Int) (g:Nat→Int) (q:Th):Bool:=decide (q.coef*g q.msg.toNat<evN q.bd.c q.bd.n q.bd.t q.bd.f n t f)
def faN (c:Cf) (r:Ru) (i j:Nat):Bool := !decide (j=i)&&(decide (0<r.fa.length) && !decide (c.st.getD j 0∈r.fa))
def exY (c:Cf) (r:Ru) (i j:Nat):Bool := !decide (j=i)&&decide (c.st.getD j 0∈r.ex)
def exU (c:Cf) (r:Ru) (i J:Nat):Bool:=decide ((r.ex.length:Int)=0)||(List.range J).any (exY c r i)
def noF (c:Cf) (r:Ru) (i J:Nat):Prop:=∀ j,j<J→faN c r i j=false
def loB (n t f:Int) (c:Cf) (r:Ru) (g:Nat→Int) (i:Nat):Bool := !rdN c r&&(!r.gz.any (gdN n t f g)&&(!(List.range c.st.length).any (faN c r i)&&exU c r i c.st.length))
variable {r:Ru}{i:Nat}
theorem noF_zero :noF c r i 0:=fun _ h=>absurd h (by omega)
theorem noF_succ {i J:Nat} (h:noF c r i J) (e:faN c r i J=false):noF c r i (J+1):=fun j hj=>by
 by_cases a:j=J
 ·subst a;exact e
 exact h j (by omega)
theorem exU_zero :exU c r i 0=decide ((r.ex.length:Int)=0):=by unfold exU;simp
theorem Zc3 {i J:Nat}:exU c r i (J+1)=(exU c r i J||exY c r i J):=by unfold exU;rw [List.range_succ,List.any_append];simp [Bool.or_assoc]
theorem exU_same {i J:Nat} (h:J=i):exU c r i (J+1)=exU c r i J:=by rw [Zc3];unfold exY;rw [decide_eq_true h];simp
theorem exU_t {i J:Nat} (h:exU c r i J=true):exU c r i (J+1)=true:=by rw [Zc3,h];rfl
theorem exU_f {i J:Nat} (hJ:J<c.st.length) (h:exU c r i J=false) (hne:¬ J=i):exU c r i (J+1)=decide (c.st[J]∈r.ex):=by rw [Zc3,h];unfold exY;rw [decide_eq_false hne,Ct.getD_at hJ];rfl
theorem lo_rd {g:Nat→Int} (h:rdN c r=true):loB n t f c r g i=false:=by unfold loB;rw [h];rfl
theorem lo_gd {g:Nat→Int} (hk:k<r.gz.length) (h:r.gz[k].coef*g r.gz[k].msg.toNat<gbV r n t f k):loB n t f c r g i=false:=by
 have:r.gz.any (gdN n t f g)=true:=by
  refine Rd.any_one hk ?_
  unfold gdN
  unfold gbV at h
  rw [List.getD_eq_getElem?_getD,List.getElem?_eq_getElem hk,Option.getD_some] at h
  exact decide_eq_true h
 unfold loB
 rw [this]
 simp
theorem gd_no {g:Nat→Int} (hk:k<r.gz.length) (h:¬ r.gz[k].coef*g r.gz[k].msg.toNat<gbV r n t f k):gdN n t f g r.gz[k]=false:=by
 unfold gdN
 unfold gbV at h
 rw [List.getD_eq_getElem?_getD,List.getElem?_eq_getElem hk,Option.getD_some] at h
 exact decide_eq_false h
theorem lo_fa {g:Nat→Int} (hj:j<c.st.length) (h:faN c r i j=true):loB n t f c r g i=false:=by
 have:(List.range c.st.length).any (faN c r i)=true:=List.any_eq_true.2 ⟨j,List.mem_range.2 hj,h⟩
 unfold loB
 rw [this]
 simp
theorem lo_ex {g:Nat→Int} (h:rdN c r=false) (hk:¬ k<r.gz.length) (h2:Rd.noP r.gz (gdN n t f g) k) (hj:¬ j<c.st.length) (hjl:j≤c.st.length) (h3:noF c r i j):loB n t f c r g i=exU c r i j:=by
 obtain rfl:j=c.st.length:=by omega
 have h4:(List.range c.st.length).any (faN c r i)=false:=List.any_eq_false.2 fun x hx=>by
  have:=h3 x (List.mem_range.1 hx)
  simp [this]
 unfold loB
 rw [h,Rd.any_none hk h2,h4]
 rfl
theorem fa_same (h:j=i):faN c r i j=false:=by unfold faN;rw [decide_eq_true h];rfl
theorem fa_none (h:¬ 0<(r.fa.length:Int)):faN c r i j=false:=by unfold faN;rw [decide_eq_false (show ¬ 0<r.fa.length by omega)];simp
theorem fa_in (hj:j<c.st.length) (h:decide (c.st[j]∈r.fa)=true):faN c r i j=false:=by unfold faN;rw [Ct.getD_at hj,h];simp
theorem fa_out (hj:j<c.st.length) (hne:¬ j=i) (h0:0<(r.fa.length:Int)) (h:decide (c.st[j]∈r.fa)=false):faN c r i j=true:=by
 unfold faN;rw [Ct.getD_at hj,h,decide_eq_false hne,decide_eq_true (show 0<r.fa.length by omega)];rfl
def lkP (top:Int) (sh:List Int) (n i:Nat):Int:=if top=4 then (trun sh sh.length).pa i else (rowL top n i).2.2
def fitB (c:Cf) (w:Int) (l:List Int):Bool:=decide ((l.length:Int)=0)||(decide (0≤w)&&decide (c.st.getD w.toNat 0∈l))
def nbB (top:Int) (c:Cf) (r:Ru) (i:Nat):Bool :=
 !(decide (r.pos=1) && !decide ((i:Int)=0))&&(!(decide (r.pos=2)&&decide (0≤Jd.lkS top c.sh c.st.length i)) &&
   (fitB c (Jd.lkF top c.sh c.st.length i) r.left&&(fitB c (Jd.lkS top c.sh c.st.length i) r.right&&fitB c (lkP top c.sh c.st.length i) r.pz)))
def psB (top:Int) (c:Cf) (r:Ru) (i:Nat) (k:Int):Bool :=
 if r.dir=1 then decide (k=Jd.lkS top c.sh c.st.length i) else if r.dir=2 then decide (k=Jd.lkF top c.sh c.st.length i)
 else if r.dir=3 then decide (k=Jd.lkF top c.sh c.st.length i)||decide (k=Jd.lkS top c.sh c.st.length i) else decide (k=lkP top c.sh c.st.length i)
def enR (top n t f:Int) (c:Cf) (g:Nat→Int) (r:Ru) (i:Nat) (k:Int):Bool :=
 decide (c.st.getD i 0=r.frm)&&(ptB c r i k&&(if r.kind=1 then loB n t f c r g i else if r.kind=4 then nbB top c r i else if r.kind=5 then psB top c r i k else decide (r.rd<0)||decide (c.val=r.rd)))
def enB (p:Fm) (n t f:Int) (c:Cf) (g:Nat→Int) (x y k:Int):Bool :=
 isP p.rz.length x&&(isP c.st.length y&&enR p.top n t f c g (p.rz.getD x.toNat default) y.toNat k)
variable {top:Int}{sh:List Int}
theorem lk_el {n i:Nat} (h:i<n):(((List.range (n*3)).map fun j=>iv (Jd.lkC top sh n j)).drop (i*3)).take 3=[iv (Jd.lkF top sh n i),iv (Jd.lkS top sh n i),iv (lkP top sh n i)]:=by
 have e2:Jd.lkC top sh n (i*3+2)=lkP top sh n i:=by
  unfold Jd.lkC lkP
  rw [if_neg (by omega),if_neg (by omega),show (i*3+2) / 3=i by omega,show (((i*3+2:Nat):Int)) / 3=(i:Int) by omega]
 apply List.ext_getElem?
 intro j
 rw [List.getElem?_take]
 by_cases hj:j<3
 ·rw [if_pos hj,List.getElem?_drop,List.getElem?_map,List.getElem?_range (by omega),Option.map_some]
  obtain rfl | rfl | rfl:j=0∨j=1∨j=2:=by omega
  ·rw [Nat.add_zero,Jd.lkC_F];rfl
  ·rw [Jd.lkC_S];rfl
  rw [e2];rfl
 rw [if_neg hj,List.getElem?_eq_none (by simp;omega)]
theorem links_at {n:Nat} (hs:(shS top n)[s.toNat]? = some c.sh) (hn:n=c.st.length):((shS top n).flatMap (cLkS top n))[s.toNat*1]? = some (Jd.lkA top c.sh c.st.length):=by
 obtain ⟨h1,h2⟩:=List.getElem?_eq_some_iff.1 hs
 have:=Wi (z:=1) (f:=cLkS top n) (fun _=>rfl) (shS top n) s.toNat 0 h1 (by decide)
 rw [Nat.add_zero] at this
 rw [this,h2,← hn]
 rfl
variable {a b:Int}
theorem mulW (h1:1≤a) (h2:a≤100) (h3:0≤b) (h4:b≤3000000):IntKind.i64.wrap (a*b)=a*b:=by
 have h5:0≤a*b:=Int.mul_nonneg (by omega) h3
 have h6:a*b≤100*3000000:=Int.mul_le_mul h2 h4 h3 (by omega)
 exact w64 rfl (by omega) (by omega)
structure RuV (p:Fm) (r:Ru):Prop where
 kd:1≤r.kind∧r.kind≤5
 kt:r.kind≤3↔p.top=1
 gd:∀ g∈r.gz,0≤g.msg∧g.msg<p.msgs.length∧1≤g.coef∧g.coef≤100
 gl:r.gz.length≤2
 rd:r.rd = -1∨(0≤r.rd∧r.rd<p.vals.length)
 wr:r.wr = -1∨(0≤r.wr∧r.wr<p.vals.length)
 em:¬ r.kind=1→¬ r.kind=2→¬ r.kind=3→r.rd = -1∧r.wr = -1
 po:r.kind=4→r.pos≠0→p.top≠3
 pi:r.kind=4→0≤r.pos∧r.pos≤2
 dr:r.kind=5→(p.top=4→r.dir=3∨r.dir=4)∧(p.top≠4→r.dir=1∨r.dir=2)
 tf:(0≤r.to∧r.to<p.sz.length)∧(0≤r.frm∧r.frm<p.sz.length)
 pt:r.kind=2∨r.kind=5→0≤r.pt∧r.pt<p.sz.length
 re:r.kind=3→r.resp.length=p.sz.length∧∀ x∈r.resp,0≤x∧x<p.sz.length
 se:∀ x∈r.send,0≤x∧x<p.msgs.length
 sk:¬ r.kind=1→r.send=[]
theorem Zd1 {n:Nat} (h:ixB n x=true):0≤x∧x<n:=by
 unfold ixB inB at h
 simp only [Bool.and_eq_true,decide_eq_true_eq] at h
 omega
variable {xs:List Int}
theorem set_in {n:Nat} (h:setE n xs=0):∀ x∈xs,0≤x∧x<n:=by
 unfold setE at h
 split at h
 ·cases h
 rename_i h1
 intro x hx
 simp only [Bool.not_eq_false,allK,List.take_length,List.all_eq_true] at h1
 exact Zd1 (h1 x hx)
theorem gus_in {n:Nat}:∀ {gs:List Th},gusE n gs=0→∀ g∈gs,guE n g=0
 | [],_,g,hg=>by cases hg
 | a::l,h,g,hg=>by
   unfold gusE at h
   split at h
   ·rename_i h1
    rcases List.mem_cons.1 hg with rfl | hg
    ·exact h1
    exact gus_in h g hg
   rename_i h1;exact absurd h h1
theorem gu_in {n:Nat} {g:Th} (h:guE n g=0):0≤g.msg∧g.msg<n∧1≤g.coef∧g.coef≤100:=by
 unfold guE at h
 split at h
 ·cases h
 rename_i h1
 split at h
 ·cases h
 rename_i h2
 have h3:=Zd1 (by simpa using h1)
 unfold inB at h2
 simp only [Bool.not_eq_false,Bool.and_eq_true,decide_eq_true_eq] at h2
 omega
theorem sh_in {n:Nat} (h:shE n a b=0):(a = -1∨(0≤a∧a<n))∧(b = -1∨(0≤b∧b<n)):=by
 unfold shE at h
 split at h
 ·cases h
 rename_i h1
 simp only [not_or,not_and,Bool.not_eq_false] at h1
 constructor
 ·by_cases e:a = -1
  ·exact .inl e
  exact .inr (Zd1 (h1.1 e))
 by_cases e:b = -1
 ·exact .inl e
 exact .inr (Zd1 (h1.2 e))
theorem val_rule (h:valE p=0) (hr:r∈p.rz):∃ i,rruleE p i r=0:=by
 unfold valE at h
 split at h
 ·cases h
 split at h
 ·cases h
 split at h
 ·cases h
 rename_i hst
 split at h
 ·cases h
 split at h
 ·cases h
 split at h
 ·cases h
 split at h
 ·cases h
 have a3:=ZJ (ZJ (ZJ h).2).2
 obtain ⟨j,hj,rfl⟩:=List.getElem_of_mem hr
 have:=Ns.rulesE_all _ _ a3.1 j (Nat.zero_le _) (by omega)
 rw [List.getD_eq_getElem?_getD,List.getElem?_eq_getElem hj,Option.getD_some] at this
 exact ⟨j,by rw [← rule_eq p j _ (fun e=>hst (by rw [e];rfl))];exact this⟩
theorem rule_in (h:rruleE p i r=0):RuV p r:=by
 unfold rruleE at h
 split at h
 ·cases h
 split at h
 ·cases h
 rename_i h1
 split at h
 ·cases h
 rename_i h2
 have hk:rkindB r p.top=true:=by simpa using h1
 unfold rkindB at hk
 rw [Bool.and_eq_true,Bool.and_eq_true] at hk
 obtain ⟨⟨k1,k2⟩,k3⟩:=hk
 have E:=(Zca r p.top).1 (by simpa using k3)
 have hs:rstB r p.sz.length=true:=by simpa using h2
 unfold rstB at hs
 rw [Bool.and_eq_true,Bool.and_eq_true] at hs
 obtain ⟨⟨s1,s2⟩,s3⟩:=hs
 unfold inB at k1
 simp only [Bool.and_eq_true,decide_eq_true_eq] at k1
 have k2':r.kind≤3↔p.top=1:=by
  have:=eq_of_beq k2
  exact decide_eq_decide.1 this
 unfold rpartE at h
 have a0:=ZJ h
 have a1:=ZJ a0.2
 have a2:=ZJ a1.2
 have a3:=ZJ a2.2
 have a4:=ZJ a3.2
 have a5:=ZJ a4.2
 have a6:=ZJ a5.2
 have a7:=ZJ a6.2
 have a8:=ZJ a7.2
 have a9:=ZJ a8.2
 have hg:=a1.1
 unfold guardE at hg
 refine ⟨k1,k2',fun g hgm => ?_,?_,(sh_in a4.1).1,(sh_in a4.1).2,fun n1 n2 n3=>E.s n1 n2 n3,fun k4 hp => ?_,fun k4 => ?_,fun k5 => ?_,⟨Zd1 s2,Zd1 s1⟩,fun hpp => ?_,fun k3 => ?_,set_in a5.1,fun n1=>(E.g n1).2.2.2⟩
 ·split at hg
  ·rename_i g0
   exact gu_in (gus_in g0 g hgm)
  rename_i g0;exact absurd hg g0
 ·split at hg
  ·split at hg
   ·cases hg
   omega
  rename_i g0;exact absurd hg g0
 ·have hpo:=a9.1
  rw [if_pos k4] at hpo
  unfold posE at hpo
  split at hpo
  ·cases hpo
  rename_i hq
  intro h3
  exact hq (.inr ⟨hp,h3⟩)
 ·have hpo:=a9.1
  rw [if_pos k4] at hpo
  unfold posE at hpo
  split at hpo
  ·cases hpo
  rename_i hq
  have hq1:inB 0 2 r.pos=true:=by
   cases e:inB 0 2 r.pos with
   | true=>rfl
   | false=>exact absurd (.inl e) hq
  unfold inB at hq1
  simpa using hq1
 ·have hd:=a9.2
  rw [if_pos k5] at hd
  unfold dirE at hd
  constructor
  ·intro h4
   rw [if_pos h4] at hd
   split at hd
   ·assumption
   cases hd
  intro h4
  rw [if_neg h4] at hd
  split at hd
  ·assumption
  cases hd
 ·rw [Bool.or_eq_true] at s3
  rcases s3 with s3 | s3
  ·rw [Bool.not_eq_true',Bool.or_eq_false_iff,decide_eq_false_iff_not,decide_eq_false_iff_not] at s3
   omega
  rw [Bool.and_eq_true] at s3
  exact Zd1 s3.2
 have hre:=a0.1
 rw [if_pos k3] at hre
 unfold reE at hre
 split at hre
 ·cases hre
 rename_i hl
 split at hre
 ·cases hre
 rename_i h5
 refine ⟨by simpa using hl,fun x hx => ?_⟩
 simp only [Bool.not_eq_false,allK,List.take_length,List.all_eq_true] at h5
 exact Zd1 (h5 x hx)
theorem val_in (h:valE p=0) (hr:r∈p.rz):RuV p r:=by
 obtain ⟨i,h⟩:=val_rule h hr
 exact rule_in h
theorem val_sizes (h:valE p=0):p.rz.length≤8∧p.sz.length≤6∧p.msgs.length≤3∧p.vals.length≤3:=by
 unfold valE at h
 split at h
 ·cases h
 split at h
 ·cases h
 split at h
 ·cases h
 split at h
 ·cases h
 rename_i g
 exact Zbm (by simpa using g)
structure CfV (p:Fm) (n f:Int) (c:Cf):Prop where
 ln:(c.st.length:Int)=Ns.cntE p n f
 st:∀ x∈c.st,0≤x∧x<p.sz.length
 co:c.cor=n-f
 ls:c.se.length=p.msgs.length
 se:∀ x∈c.se,0≤x∧x≤1048576
 lf:c.fa.length=p.msgs.length
 fa:∀ x∈c.fa,0≤x∧x≤1048576
 fz:¬ p.fzz=1→¬ p.fzz=2→∀ x∈c.fa,x=0
 va:0≤c.val∧c.val<max (p.vals.length:Int) 1
 sh:Rd.shB p.top (Ns.shT p.top (Ns.cntE p n f)) c.sh=true
variable {m:Int}
theorem Zal (h:Rd.belB xs m=true):∀ x∈xs,0≤x∧x<m:=by
 intro x hx
 unfold Rd.belB at h
 rw [Bool.not_eq_true',List.any_eq_false] at h
 have:=h x hx
 unfold Rd.outB at this
 simp only [Bool.or_eq_true,decide_eq_true_eq,not_or] at this
 omega
theorem cf_in (h:Rd.rdX p n f c=true):CfV p n f c:=by
 unfold Rd.rdX Rd.rdB at h
 simp only [Bool.and_eq_true,Bool.not_eq_true',decide_eq_true_eq,decide_eq_false_iff_not] at h
 obtain ⟨⟨⟨⟨⟨⟨⟨⟨⟨h1,h2⟩,h3⟩,h4⟩,h5⟩,h6⟩,h7⟩,h8⟩,h9⟩,h10⟩:=h
 have hm:=Rd.mf_in p
 refine ⟨h2,Zal h3,h4,by omega,fun x hx => ?_,by omega,fun x hx => ?_,fun n1 n2 x hx => ?_,by omega,h1⟩
 ·have:=Zal h6 x hx;omega
 ·have:=Zal h8 x hx;omega
 have:=Zal h8 x hx
 unfold Rd.mfE at this
 rw [if_neg (by omega)] at this
 omega
theorem CfV.se_at (h:CfV p n f c) (m:Nat):0≤c.se.getD m 0∧c.se.getD m 0≤1048576:=by
 by_cases hm:m<c.se.length
 ·rw [Ct.getD_at hm];exact h.se _ (List.getElem_mem hm)
 rw [List.getD_eq_getElem?_getD,List.getElem?_eq_none (by omega)];exact ⟨by decide,by decide⟩
theorem CfV.fa_at (h:CfV p n f c) (m:Nat):0≤c.fa.getD m 0∧c.fa.getD m 0≤1048576:=by
 by_cases hm:m<c.fa.length
 ·rw [Ct.getD_at hm];exact h.fa _ (List.getElem_mem hm)
 rw [List.getD_eq_getElem?_getD,List.getElem?_eq_none (by omega)];exact ⟨by decide,by decide⟩
theorem hdV_in (h:CfV p n f c) (hf:0≤f∧f≤1048576) (m:Nat):0≤hdV p f c m∧hdV p f c m≤3000000:=by
 have h1:=h.se_at m
 have h2:=h.fa_at m
 unfold hdV
 split
 ·omega
 split<;>omega
theorem hdJ_in (h:CfV p n f c) (hf:0≤f∧f≤1048576) (j m:Nat):0≤hdJ p f c j m∧hdJ p f c j m≤3000000:=by
 have h1:=h.se_at m
 have h2:=hdV_in h hf m
 unfold hdJ
 split
 ·exact h2
 omega
theorem hdG_in (h:CfV p n f c) (hf:0≤f∧f≤1048576) (fo:Bool) (m:Nat):0≤hdG p f c fo m∧hdG p f c fo m≤3000000:=by
 have h1:=h.se_at m
 have h2:=hdJ_in h hf p.msgs.length m
 unfold hdG
 split
 ·split
  ·exact h2
  dsimp only;omega
 exact h2
theorem shI_at (h:CfV p n f c) (h1:¬ p.top=1) (ht:1≤p.top∧p.top≤4) (h0:0≤Ns.cntE p n f):0≤Rd.shI p.top (Ns.shT p.top (Ns.cntE p n f)) c.sh∧Rd.shI p.top (Ns.shT p.top (Ns.cntE p n f)) c.sh<(((shS p.top (Ns.cntE p n f).toNat).length:Nat):Int)∧(shS p.top (Ns.cntE p n f).toNat)[(Rd.shI p.top (Ns.shT p.top (Ns.cntE p n f)) c.sh).toNat]? = some c.sh:=by
 have hs:=h.sh
 obtain ⟨m,hm⟩:=Int.eq_ofNat_of_zero_le h0
 rw [hm] at hs ⊢
 rw [Int.toNat_natCast]
 by_cases h4:p.top=4
 ·rw [Rd.shB_tree h4,decide_eq_true_iff] at hs
  rw [Rd.shI_tree h4]
  unfold shS
  rw [if_pos h4]
  rw [Ns.shT_tree h4] at hs ⊢
  rw [Int.max_eq_left hs]
  unfold Rd.ixP at hs ⊢
  split
  ·rename_i i hi
   obtain ⟨a,b,_⟩:=List.findIdx?_eq_some_iff_getElem.1 hi
   refine ⟨by omega,by omega,?_⟩
   rw [Int.toNat_natCast,List.getElem?_eq_getElem a]
   have:=of_decide_eq_true b
   rw [this]
  rename_i hi
  rw [hi] at hs
  exact absurd hs (by decide)
 rw [Rd.shB_no h4,decide_eq_true_iff] at hs
 rw [Rd.shI_no h4]
 unfold shS
 rw [if_neg h4,if_pos (by omega)]
 have:c.sh=[]:=List.eq_nil_of_length_eq_zero (by omega)
 rw [this]
 exact ⟨by decide,by decide,rfl⟩
theorem sh_tree (h:CfV p n f c) (h4:p.top=4):isShp c.sh (c.st.length:Int)=true:=by
 have hs:=h.sh
 have hl:=h.ln
 rw [Rd.shB_tree h4,decide_eq_true_iff,Ns.shT_tree h4,← hl] at hs
 unfold Rd.ixP at hs
 split at hs
 ·rename_i i hi
  obtain ⟨a,b,_⟩:=List.findIdx?_eq_some_iff_getElem.1 hi
  have e:=of_decide_eq_true b
  have:=shX_is _ (List.getElem_mem a)
  rw [← e] at this
  unfold isShp
  rw [this.2,decide_eq_true (by omega)];rfl
 exact absurd hs (by decide)
theorem lk_ok (h:CfV p n f c) (h1:¬ p.top=1) (ht:1≤p.top∧p.top≤4) (hi:i<c.st.length):Jd.lkF p.top c.sh c.st.length i<(c.st.length:Int)∧Jd.lkS p.top c.sh c.st.length i<(c.st.length:Int)∧lkP p.top c.sh c.st.length i<(c.st.length:Int):=by
 by_cases h4:p.top=4
 ·have hs:=sh_tree h h4
  unfold isShp at hs
  simp only [Bool.and_eq_true,decide_eq_true_eq] at hs
  have hl:c.sh.length=c.st.length:=by omega
  have:=Jd.lk_tree hs.2 i (by omega)
  rw [h4,← hl]
  refine ⟨this.1,this.2,?_⟩
  unfold lkP
  rw [if_pos rfl]
  rcases (Zbl c.sh hs.2).1.par i (by omega) with e | ⟨q,hq,e,_⟩<;>omega
 have:=Jd.lk_row (sh:=c.sh) (n:=c.st.length) (show p.top=2∨p.top=3 by omega) i hi
 refine ⟨this.1,this.2,?_⟩
 unfold lkP
 rw [if_neg h4]
 unfold rowL
 dsimp only
 omega
end En
section
variable {P:Program} {o:Oper}
variable {m:Int}
theorem Zdu {t e:TypeId} {len n k off:Nat} {ik:IntKind} (x y:Operand) (ho:o.op = .slice t x none (some y) none) (hu:P.underlying t=some (.array len e)) (hz:(P.info? e).map (·.size)=some 1) (hn:n≤len) (h0:Nat.blt 0 len=true) (hmn:m=(n:Int)) :
 ASpec P J o [(x,.box k off),(y,.v (.int ik m))] [] (.bsl k off n) .no :=
 ZF fun ρ B a w _ ha _=>by
  subst hmn
  obtain ⟨b,c,n1,h1',h2⟩:=(ha (x,.box k off) (by simp)).box_inv
  have hy:=(ha (y,.v (.int ik (n:Int))) (by simp)).v_inv
  obtain ⟨it,hi,_⟩:=Option.map_eq_some_iff.1 hz
  have h0':0<len:=by rwa [Nat.blt_eq] at h0
  refine ⟨.slice (some ⟨b,off,none⟩) n len,?_,.bsl (o:=off) (m:=n) h1' (.inl ⟨b,c,n1,off,len,rfl,rfl,fun _=>rfl⟩)⟩
  simp only [execOp,ho,h2]
  refine Yd ?_
  have r2:(Instr.sliceBound (a.eval y) len .sliceAlen).run P w = .ok n w:=by
   rw [hy];simp [Instr.sliceBound,asIntOf,hn]
  simp [Instr.sliceAt,run_underlying hu,Instr.sureAddr,Instr.sliceBounds,sizeOf,typeInfo,hi,r2,Addr.add_mid]
theorem sp_lenBsl {t e:TypeId} {n k off:Nat} (x:Operand) (ho:o.op = .call { callee := .builtin .len,args := #[x],argTypes := #[t] }) (hu:P.underlying t=some (.slice e)):ASpec P J o [(x,.bsl k off n)] [] (.v (.int .i64 n)) .no :=
 ZF fun ρ B a w _ ha _=>by
  obtain ⟨nm,_,h3⟩:=(ha (x,.bsl k off n) (by simp)).bsl_part
  refine ⟨.int .i64 n,?_,.pu (.v _)⟩
  rcases h3 with ⟨b,c,n1,o',cap,rfl,h4,_⟩ | ⟨rfl,h4⟩<;>simp [execOp,ho,resolve,invoke,builtin,h4,Zbd hu]
theorem ZeA {t e:TypeId} {n k off off':Nat} {ik:IntKind} {i:Int} (x y:Operand) (ho:o.op = .indexAddr t x y) (hu:P.underlying t=some (.slice e)) (hz:(P.info? e).map (·.size)=some 1) (h0:0≤i) (h1:i<n) (he:off+i.toNat*1=off') :
 ASpec P J o [(x,.bsl k off n),(y,.v (.int ik i))] [] (.box k off') .no :=
 ZF fun ρ B a w _ ha _=>by
  obtain ⟨b,c,n1,cp,h1',h2⟩:=(ha (x,.bsl k off n) (by simp)).bsl_inv (by omega)
  have hy:=(ha (y,.v (.int ik i)) (by simp)).v_inv
  refine ⟨_,?_,.box (o:=off') h1'⟩
  simp only [execOp,ho,h2,hy]
  exact Yd (by rw [Zbw hu hz _ _ _ _ _ _ h0 h1,he])
variable {len off:Nat}
theorem Yw {t e:TypeId} {cs ds:List AV} (x:Operand) (ho:o.op = .slice t x none none none) (hu:P.underlying t=some (.array len e)) (hz:(P.info? e).map (·.size)=some 1) (h0:Nat.blt 0 len=true) (hm:Nat.ble len maxLen=true) (hd:(cs.drop off).take len=ds) (hl:ds.length=len) :
 ASpec P J o [(x,.el cs off)] [] (.sl 1 len ds) .no :=
 ZF fun ρ B a w _ ha _=>by
  obtain ⟨b,base,f,h2,hb,hw,hf,hp⟩:=rel_el (ha (x,.el cs off) (by simp))
  obtain ⟨it,hi,_⟩:=Option.map_eq_some_iff.1 hz
  have h0':0<len:=by rwa [Nat.blt_eq] at h0
  refine ⟨.slice (some ⟨b,base+off,none⟩) len len,?_,.pu (.sl (f:=fun j=>f (off+j)) (by omega) (Nat.le_refl _) (Nat.le_of_ble_eq_true hm) hb hw (fun j hj => ?_) fun j hj => ?_)⟩
  ·simp only [execOp,ho,h2]
   refine Yd ?_
   simp [Instr.sliceAt,run_underlying hu,Instr.sureAddr,Instr.sliceBounds,sizeOf,typeInfo,hi,Addr.add_mid]
  ·subst hd
   obtain ⟨h5,_⟩:=Y8 cs off _ j hj
   rw [Nat.add_assoc];exact hf _ h5
  subst hd
  obtain ⟨h5,h6⟩:=Y8 cs off _ j hj
  rw [h6];exact hp _ h5
end
variable {cs:List AV}
theorem Zav {h:AHeap} {t:ATm} (i k o:Nat) {T:TypeId} {t':ATm} (hb:h k=some (.box T cs)) (hi:t.f i = .box k o) (hv:cs.all AV.pu1=true) (ht:(⟨t.n,fun j=>if j=i then .el cs o else (t.f j).wk3 (fun j => !(j==k)) h⟩:ATm)=t') (hk:k<hand:=by decide) :
 Wk h t (fun j=>if j=k then none else (h j).map (ABlk.wk (fun j => !(j==k)) h)) t':=by
 subst ht
 intro J w0 ρ a w s
 refine ⟨kept (fun j => !(j==k)) ρ,?_⟩
 have H:∀ X x,Rel ρ w0.heap.size w X x→Rel (kept (fun j => !(j==k)) ρ) w0.heap.size w (X.wk3 (fun j => !(j==k)) h) x:=fun X x hx=>ZeJ s.wf s.hp hx
 have H1:∀ X x,Rel ρ w0.heap.size w X x→Rel (kept (fun j => !(j==k)) ρ) w0.heap.size w (X.wk1 (fun j => !(j==k)) h) x:=fun X x hx=>Kc s.wf s.hp hx
 have hsub:∀ k' nm,kept (fun j => !(j==k)) ρ k'=some nm→ρ k'=some nm∧k'≠k:=fun k' nm e=>by
  dsimp only [kept] at e
  split at e
  ·rename_i e1;exact ⟨e,by simpa using e1⟩
  cases e
 have hyes:∀ k',k'≠k→kept (fun j => !(j==k)) ρ k'=ρ k':=fun k' e=>KU (by simpa using e)
 refine ⟨⟨fun j k b c d m n hj hk=>s.wf.inj _ _ _ _ _ _ _ (hsub _ _ hj).1 (hsub _ _ hk).1,fun k b c n hk=>s.wf.lo _ _ _ _ (hsub _ _ hk).1⟩,s.hH,s.bel,s.inv,fun j X hj => ?_,fun j hl hj => ?_,fun j hj=>(hyes j (by omega)).trans (s.pin j hj),s.tl,fun j hj => ?_,s.df,fun j hj => ?_⟩
 ·by_cases e:j=k
  ·rw [if_pos e] at hj;cases hj
  rw [if_neg e] at hj
  obtain ⟨Y,hY,rfl⟩:=Option.map_eq_some_iff.1 hj
  obtain ⟨nm,g1,g2⟩:=s.hp j Y hY
  refine ⟨nm,(hyes j e).trans g1,?_⟩
  cases Y with
  | box T cs =>
    obtain ⟨b,c,n,vs,rfl,q1,q2,q3⟩:=g2
    exact ⟨b,c,n,vs,rfl,q1,by simpa using q2,fun j hj=>by rw [List.getElem_map];exact H1 _ _ (q3 j (by simpa using hj))⟩
  | row fr e z n cs =>
    obtain ⟨xs,q1,q2,q3⟩:=g2
    exact ⟨xs,q1,q2,fun j hj=>(q3 j hj).weak fun b hb=>⟨fun k c n hk=>hb.1 _ _ _ (hsub _ _ hk).1,hb.2⟩⟩
 ·by_cases e:j=k
  ·subst e;exact ZeT (by simp)
  rw [if_neg e] at hj
  rw [hyes j e]
  exact s.dom j hl (by simpa using hj)
 ·show Rel _ _ _ (if j=i then _ else _) _
  by_cases e:j=i
  ·subst e
   rw [if_pos rfl]
   have h1:=s.tm j hj
   rw [hi] at h1
   obtain ⟨b,c,n,g1,g2⟩:=h1.box_inv
   obtain ⟨nm,g3,b',c',n',vs,e0,q1,q2,q3⟩:=s.hp k _ hb
   rw [g1] at g3;cases g3;cases e0
   have hnk:okOf (kept (fun j => !(j==k)) ρ) b:=fun k' c' n' hk'=>by
    have:=hsub _ _ hk'
    exact this.2 (s.wf.inj _ _ _ _ _ _ _ this.1 g1)
   rw [g2]
   have:=(Pu.el (F:=(w0.heap.size ≤ ·)) (w:=w) (ok:=okOf (kept (fun j => !(j==k)) ρ)) (off:=0) (o:=o) (cs:=cs) (f:=fun j=>vs.getD j undef) hnk (s.wf.lo _ _ _ _ g1).2 (fun j hj => ?_) fun j hj => ?_)
   ·rw [Nat.zero_add] at this
    exact .pu this
   ·have hj2:j<vs.size:=by omega
    rw [Nat.zero_add]
    simp [World.cell?,q1,Array.getD,hj2]
   exact ((q3 j hj).pu1 (List.all_eq_true.1 hv _ (List.getElem_mem hj))).weak fun b hb k' c' n' hk'=>hb _ _ _ (hsub _ _ hk').1
  rw [if_neg e];exact H _ _ (s.tm j hj)
 show (if j=k then _ else _)=none
 by_cases e:j=k
 ·rw [if_pos e]
 rw [if_neg e,s.gh j hj];rfl
namespace Ap
open En
variable {l:List Int}{i:Nat}{x:Int}
theorem ZaJ (h:i<l.length) (j:Nat):(l.set i x).getD j 0=if i=j then x else l.getD j 0:=by
 rw [List.getD_eq_getElem?_getD,List.getD_eq_getElem?_getD]
 by_cases e:i=j
 ·subst e;rw [if_pos rfl,List.getElem?_set_self h];rfl
 rw [if_neg e,List.getElem?_set_ne e]
def wst (c:Cf) (l:List Int):Cf:=⟨c.sh,l,c.cor,c.se,c.fa,c.val⟩
def wse (c:Cf) (l:List Int):Cf:=⟨c.sh,c.st,c.cor,l,c.fa,c.val⟩
def wfa (c:Cf) (l:List Int):Cf:=⟨c.sh,c.st,c.cor,c.se,l,c.val⟩
variable {s:Int}
theorem cfV_setSt (h:i<8) (hl:i<c.st.length):setAll (cfV s c) (1+i*1) [iv x]=cfV s (wst c (c.st.set i x)):=by
 obtain rfl | rfl | rfl | rfl | rfl | rfl | rfl | rfl:i=0∨i=1∨i=2∨i=3∨i=4∨i=5∨i=6∨i=7:=by omega
 all_goals (unfold cfV wst;simp only [ZaJ hl];rfl)
theorem cfV_setSe (h:i<3) (hl:i<c.se.length):setAll (cfV s c) (9+i*1) [iv x]=cfV s (wse c (c.se.set i x)):=by
 obtain rfl | rfl | rfl:i=0∨i=1∨i=2:=by omega
 all_goals (unfold cfV wse;simp only [ZaJ hl];rfl)
theorem cfV_setFa (h:i<3) (hl:i<c.fa.length):setAll (cfV s c) (12+i*1) [iv x]=cfV s (wfa c (c.fa.set i x)):=by
 obtain rfl | rfl | rfl:i=0∨i=1∨i=2:=by omega
 all_goals (unfold cfV wfa;simp only [ZaJ hl];rfl)
variable {k:Nat}
theorem cfV_se (h:k<3):(cfV s c)[9+k*1]? = some (iv (c.se.getD k 0)):=by
 obtain rfl | rfl | rfl:k=0∨k=1∨k=2:=by omega
 all_goals rfl
def brd (r:Ru) (s:Int):Int:=r.resp.getD s.toNat 0
def brL (r:Ru) (l:List Int) (j:Nat):List Int:=(List.range l.length).map fun q=>if q<j then brd r (l.getD q 0) else l.getD q 0
theorem brL_len (r:Ru) (l:List Int) (j:Nat):(brL r l j).length=l.length:=by simp [brL]
variable {r:Ru}
theorem Zeq {j q:Nat} (h:q<l.length):(brL r l j)[q]'(by rw [brL_len];exact h)=if q<j then brd r (l.getD q 0) else l.getD q 0:=by simp [brL]
theorem brL_zero (r:Ru) (l:List Int):brL r l 0=l:=by
 refine List.ext_getElem (brL_len _ _ _) fun q h1 h2 => ?_
 rw [Zeq h2,if_neg (by omega),Ct.getD_at h2]
variable {j:Nat}
theorem brL_all (r:Ru) (l:List Int) (h:l.length≤j):brL r l j=l.map (brd r):=by
 refine List.ext_getElem (by rw [brL_len,List.length_map]) fun q h1 h2 => ?_
 have hq:q<l.length:=by rw [brL_len] at h1;exact h1
 rw [Zeq hq,if_pos (by omega),Ct.getD_at hq,List.getElem_map]
theorem brL_get (h:j<l.length):(brL r l j).getD j 0=l.getD j 0:=by
 rw [Ct.getD_at (by rw [brL_len];exact h),Zeq h,if_neg (by omega)]
theorem brL_set :(brL r l j).set j (brd r (l.getD j 0))=brL r l (j+1):=by
 refine List.ext_getElem (by rw [List.length_set,brL_len,brL_len]) fun q h1 h2 => ?_
 have hq:q<l.length:=by rw [brL_len] at h2;exact h2
 rw [List.getElem_set,Zeq hq,Zeq hq]
 by_cases e:j=q
 ·subst e;rw [if_pos rfl,if_pos (by omega)]
 rw [if_neg e]
 by_cases e2:q<j
 ·rw [if_pos e2,if_pos (by omega)]
 rw [if_neg e2,if_neg (by omega)]
theorem br_step (h:j<c.st.length) (h8:c.st.length≤8) (hx:x=brd r (c.st.getD j 0)):setAll (cfV s (wst c (brL r c.st j))) (1+j*1) [iv x]=cfV s (wst c (brL r c.st (j+1))):=by
 rw [cfV_setSt (c:=wst c (brL r c.st j)) (by omega) (by show j<(brL r c.st j).length;rw [brL_len];exact h)]
 show cfV s (wst c ((brL r c.st j).set j x))=_
 rw [hx,brL_set]
theorem br_load (h:j<c.st.length) (h8:c.st.length≤8):(cfV s (wst c (brL r c.st j)))[1+j*1]? = some (iv (c.st.getD j 0)):=by
 rw [cfV_st (by omega)]
 show some (iv ((brL r c.st j).getD j 0))=_
 rw [brL_get h]
theorem brd_at (h:x.toNat<r.resp.length):r.resp[x.toNat]=brd r x:=by
 unfold brd;rw [Ct.getD_at h]
theorem cst_in (h:CfV p n f c) (hj:j<c.st.length):0≤c.st.getD j 0∧c.st.getD j 0<p.sz.length:=by
 rw [Ct.getD_at hj];exact h.st _ (List.getElem_mem hj)
def st0 (c:Cf) (r:Ru):List Int:=if r.kind=3 then c.st.map (brd r) else c.st
def st1 (c:Cf) (r:Ru) (i:Nat):List Int:=(st0 c r).set i r.to
def stA (c:Cf) (r:Ru) (i:Nat) (k:Int):List Int:=if r.kind=2∨r.kind=5 then (st1 c r i).set k.toNat r.pt else st1 c r i
theorem st0_len (c:Cf) (r:Ru):(st0 c r).length=c.st.length:=by unfold st0;split<;>simp
theorem st1_len (c:Cf) (r:Ru) (i:Nat):(st1 c r i).length=c.st.length:=by unfold st1;rw [List.length_set,st0_len]
theorem Zbo (c:Cf) (r:Ru) (i:Nat) (k:Int):(stA c r i k).length=c.st.length:=by unfold stA;split<;>simp [st1_len]
def snd (l ms:List Int):List Int:=ms.foldl (fun l m=>l.set m.toNat (l.getD m.toNat 0+1)) l
theorem snd_len (ms:List Int):∀ l:List Int,(snd l ms).length=l.length:=by
 induction ms with
 | nil=>intro l;rfl
 | cons m ms ih=>intro l;show (snd _ ms).length=_;rw [ih,List.length_set]
theorem Zbc (l ms:List Int) (h:k<ms.length):snd l (ms.take (k+1))=(snd l (ms.take k)).set ms[k].toNat ((snd l (ms.take k)).getD ms[k].toNat 0+1):=by
 unfold snd
 rw [List.take_succ_eq_append_getElem h,List.foldl_append]
 rfl
variable {a:Int}
theorem getD_in (h:∀ x∈l,0≤x∧x≤a) (ha:0≤a) (j:Nat):0≤l.getD j 0∧l.getD j 0≤a:=by
 by_cases hj:j<l.length
 ·rw [Ct.getD_at hj];exact h _ (List.getElem_mem hj)
 rw [List.getD_eq_getElem?_getD,List.getElem?_eq_none (by omega)];exact ⟨by decide,ha⟩
theorem snd_in (ms:List Int):∀ (l:List Int) (a:Int),0≤a→(∀ x∈l,0≤x∧x≤a)→∀ x∈snd l ms,0≤x∧x≤a+ms.length:=by
 induction ms with
 | nil=>intro l a ha h x hx;have:=h x hx;simp;exact this
 | cons m ms ih =>
   intro l a ha h x hx
   have:=ih (l.set m.toNat (l.getD m.toNat 0+1)) (a+1) (by omega) (fun y hy => ?_) x hx
   ·rw [List.length_cons];omega
   rcases List.mem_or_eq_of_mem_set hy with h1 | rfl
   ·have:=h y h1;omega
   have:=getD_in h ha m.toNat;omega
def seA (cor:Int) (c:Cf) (r:Ru) (i k:Nat):List Int:=if (i:Int)<cor then snd c.se (r.send.take k) else c.se
def faA (cor:Int) (c:Cf) (r:Ru) (i k:Nat):List Int:=if (i:Int)<cor then c.fa else snd c.fa (r.send.take k)
def mid (cor:Int) (c:Cf) (r:Ru) (i:Nat) (kp:Int) (k:Nat):Cf:=⟨c.sh,stA c r i kp,c.cor,seA cor c r i k,faA cor c r i k,c.val⟩
def af (cor:Int) (c:Cf) (r:Ru) (i:Nat) (kp:Int):Cf:=⟨c.sh,stA c r i kp,c.cor,seA cor c r i r.send.length,faA cor c r i r.send.length,if 0≤r.wr then r.wr else c.val⟩
theorem mid_zero (cor:Int) (c:Cf) (r:Ru) (i:Nat) (kp:Int):mid cor c r i kp 0=wst c (stA c r i kp):=by
 unfold mid wst seA faA snd
 simp
theorem seA_len (cor:Int) (c:Cf) (r:Ru) (i k:Nat):(seA cor c r i k).length=c.se.length:=by unfold seA;split<;>simp [snd_len]
theorem faA_len (cor:Int) (c:Cf) (r:Ru) (i k:Nat):(faA cor c r i k).length=c.fa.length:=by unfold faA;split<;>simp [snd_len]
variable {cor:Int}
theorem seA_in (h:∀ x∈c.se,0≤x∧x≤1048576):∀ x∈seA cor c r i k,0≤x∧x≤1048576+r.send.length:=by
 intro x hx
 unfold seA at hx
 split at hx
 ·have:=snd_in (r.send.take k) c.se 1048576 (by decide) h x hx
  have hl:(r.send.take k).length≤r.send.length:=by simp;omega
  omega
 have:=h x hx;omega
theorem faA_in (h:∀ x∈c.fa,0≤x∧x≤1048576):∀ x∈faA cor c r i k,0≤x∧x≤1048576+r.send.length:=by
 intro x hx
 unfold faA at hx
 split at hx
 ·have:=h x hx;omega
 have:=snd_in (r.send.take k) c.fa 1048576 (by decide) h x hx
 have hl:(r.send.take k).length≤r.send.length:=by simp;omega
 omega
variable {kp:Int}
theorem se_step (hc:(i:Int)<cor) (hk:k<r.send.length) (h3:r.send[k].toNat<3) (hl:r.send[k].toNat<c.se.length) :
 setAll (cfV s (mid cor c r i kp k)) (9+r.send[k].toNat*1) [iv ((seA cor c r i k).getD r.send[k].toNat 0+1)]=cfV s (mid cor c r i kp (k+1)):=by
 rw [cfV_setSe (c:=mid cor c r i kp k) h3 (by show _<(seA cor c r i k).length;rw [seA_len];exact hl)]
 refine congrArg (cfV s) ?_
 unfold wse mid
 have e1:seA cor c r i (k+1)=(seA cor c r i k).set r.send[k].toNat ((seA cor c r i k).getD r.send[k].toNat 0+1):=by
  unfold seA;rw [if_pos hc,if_pos hc,Zbc _ _ hk]
 have e2:faA cor c r i (k+1)=faA cor c r i k:=by unfold faA;rw [if_pos hc,if_pos hc]
 rw [e1,e2]
theorem fa_step (hc:¬ (i:Int)<cor) (hk:k<r.send.length) (h3:r.send[k].toNat<3) (hl:r.send[k].toNat<c.fa.length) :
 setAll (cfV s (mid cor c r i kp k)) (12+r.send[k].toNat*1) [iv ((faA cor c r i k).getD r.send[k].toNat 0+1)]=cfV s (mid cor c r i kp (k+1)):=by
 rw [cfV_setFa (c:=mid cor c r i kp k) h3 (by show _<(faA cor c r i k).length;rw [faA_len];exact hl)]
 refine congrArg (cfV s) ?_
 unfold wfa mid
 have e1:faA cor c r i (k+1)=(faA cor c r i k).set r.send[k].toNat ((faA cor c r i k).getD r.send[k].toNat 0+1):=by
  unfold faA;rw [if_neg hc,if_neg hc,Zbc _ _ hk]
 have e2:seA cor c r i (k+1)=seA cor c r i k:=by unfold seA;rw [if_neg hc,if_neg hc]
 rw [e1,e2]
theorem cfV_rowSe (h:c.se.length≤3):((cfV s c).drop 9).take c.se.length=c.se.map iv:=by
 apply List.ext_getElem?
 intro j
 rw [List.getElem?_take]
 by_cases hj:j<c.se.length
 ·rw [if_pos hj,List.getElem?_drop,List.getElem?_map,List.getElem?_eq_getElem hj,Option.map_some]
  have:=cfV_se (s:=s) (c:=c) (k:=j) (by omega)
  rw [Nat.mul_one,Ct.getD_at hj] at this
  exact this
 rw [if_neg hj,List.getElem?_map,List.getElem?_eq_none (by omega)];rfl
theorem cfV_rowFa (h:c.fa.length≤3):((cfV s c).drop 12).take c.fa.length=c.fa.map iv:=by
 apply List.ext_getElem?
 intro j
 rw [List.getElem?_take]
 by_cases hj:j<c.fa.length
 ·rw [if_pos hj,List.getElem?_drop,List.getElem?_map,List.getElem?_eq_getElem hj,Option.map_some]
  have:=cfV_fa (s:=s) (c:=c) (k:=j) (by omega)
  rw [Nat.mul_one,Ct.getD_at hj] at this
  exact this
 rw [if_neg hj,List.getElem?_map,List.getElem?_eq_none (by omega)];rfl
variable {m:Int}
theorem bel3 (h:l.length≤3) (hm:0<m):Rd.belB [l.getD 0 0,l.getD 1 0,l.getD 2 0] m=Rd.belB l m:=by
 have h0:Rd.outB m 0=false:=by unfold Rd.outB;simp;omega
 match l,h with
 | [],_=>simp [Rd.belB,h0]
 | [a],_=>simp [Rd.belB,h0]
 | [a,b],_=>simp [Rd.belB,h0]
 | [a,b,d],_=>rfl
theorem flat_li (L:List (List Int)):L.flatMap cLi=L.map Zb:=by
 induction L with
 | nil=>rfl
 | cons a l ih=>rw [List.flatMap_cons,ih];rfl
variable {sh:List Int}
theorem sh_at {L:List (List Int)} (h:L[i]? = some sh):(L.flatMap cLi)[i*1]? = some (Zb sh):=by
 rw [flat_li,Nat.mul_one,List.getElem?_map,h];rfl
variable {top:Int}
theorem shT_top (h:0<(((Ns.shT top n).length:Nat):Int)):top=4:=by
 by_cases e:top=4
 ·exact e
 rw [Ns.shT_no e] at h;simp at h
def z16:List AV:=[iv 0,iv 0,iv 0,iv 0,iv 0,iv 0,iv 0,iv 0,iv 0,iv 0,iv 0,iv 0,iv 0,iv 0,iv 0,iv 0]
def zC:Cf:=⟨[],[],0,[],[],0⟩
theorem en_at {g:Nat→Int} {x y k:Int} (h:enB p n t f c g x y k=true):∃ (r i:Nat),r<p.rz.length∧i<c.st.length∧x=(r:Int)∧y=(i:Int):=by
 unfold enB at h
 rw [Bool.and_eq_true,Bool.and_eq_true] at h
 obtain ⟨a,b,_⟩:=h
 unfold isP at a b
 simp only [Bool.and_eq_true,decide_eq_true_eq] at a b
 exact ⟨x.toNat,y.toNat,by omega,by omega,by omega,by omega⟩
theorem rule_get {r:Nat} (hr:r<p.rz.length):p.rz.getD r default=p.rz[r]:=by
 rw [List.getD_eq_getElem?_getD,List.getElem?_eq_getElem hr];rfl
theorem pt_of {g:Nat→Int} {r i:Nat} {k:Int} {hr:r<p.rz.length} (h:enB p n t f c g (r:Int) (i:Int) k=true):ptB c p.rz[r] i k=true:=by
 unfold enB at h
 rw [Bool.and_eq_true,Bool.and_eq_true,Int.toNat_natCast,Int.toNat_natCast,rule_get hr] at h
 have h2:=h.2.2
 unfold enR at h2
 rw [Bool.and_eq_true,Bool.and_eq_true] at h2
 exact h2.2.1
theorem hpt_of {g:Nat→Int} {r i:Nat} {k:Int} {hr:r<p.rz.length} (h:enB p n t f c g (r:Int) (i:Int) k=true) (h25:p.rz[r].kind=2∨p.rz[r].kind=5):0≤k∧k<(c.st.length:Int):=by
 have h2:=pt_of (hr:=hr) h
 unfold ptB at h2
 rw [if_pos h25,Bool.and_eq_true,Bool.and_eq_true] at h2
 have:=h2.1.1
 unfold isP at this
 simp only [Bool.and_eq_true,decide_eq_true_eq] at this
 exact this
theorem ZeR (h:x∈l.set i a):x∈l∨x=a:=List.mem_or_eq_of_mem_set h
theorem st_in (hc:CfV p n f c) (R:RuV p r) {k:Int}:∀ x∈stA c r i k,0≤x∧x<p.sz.length:=by
 have h0:∀ x∈st0 c r,0≤x∧x<p.sz.length:=fun x hx=>by
  unfold st0 at hx
  split at hx
  ·rename_i h3
   obtain ⟨y,hy,rfl⟩:=List.mem_map.1 hx
   have h4:=hc.st y hy
   have h5:=R.re h3
   have h6:y.toNat<r.resp.length:=by omega
   rw [← brd_at h6]
   exact h5.2 _ (List.getElem_mem h6)
  exact hc.st x hx
 have h1:∀ x∈st1 c r i,0≤x∧x<p.sz.length:=fun x hx=>by
  rcases ZeR hx with h | rfl
  ·exact h0 x h
  exact R.tf.1
 intro x hx
 unfold stA at hx
 split at hx
 ·rename_i h25
  rcases ZeR hx with h | rfl
  ·exact h1 x h
  exact R.pt h25
 exact h1 x hx
theorem af_ok (HL:FamLen p) (hc:CfV p n f c) (hv:valE p=0) (HC:Rd.CgOk c) (l8:c.st.length≤8) {r:Nat} (hr:r<p.rz.length) (_:i<c.st.length) :Rd.CgOk (af (n-f) c p.rz[r] i kp):=by
 have R:=val_in hv (List.getElem_mem hr)
 have hz:=val_sizes hv
 have h6:=HL.sz
 have hsl:=(HL.rz _ (List.getElem_mem hr)).send
 have hls:=hc.ls
 have hlf:=hc.lf
 refine ⟨HC.sh,fun x hx => ?_,fun x hx => ?_,fun x hx => ?_,HC.lsh,?_,?_,?_⟩
 ·have:=st_in hc R x hx;unfold I64;omega
 ·have:=seA_in hc.se x hx;unfold I64;omega
 ·have:=faA_in hc.fa x hx;unfold I64;omega
 ·show (stA _ _ _ _).length≤100
  rw [Zbo];omega
 ·show (seA _ _ _ _ _).length≤100
  rw [seA_len];omega
 show (faA _ _ _ _ _).length≤100
 rw [faA_len];omega
theorem shI_T (hc:CfV p n f c) (_:valE p=0) (h4:p.top=4):0≤Rd.shI p.top (Ns.shT p.top (Ns.cntE p n f)) c.sh∧Rd.shI p.top (Ns.shT p.top (Ns.cntE p n f)) c.sh<(((Ns.shT p.top (Ns.cntE p n f)).length:Nat):Int)∧(Ns.shT p.top (Ns.cntE p n f))[(Rd.shI p.top (Ns.shT p.top (Ns.cntE p n f)) c.sh).toNat]? = some c.sh:=by
 have h0:0≤Ns.cntE p n f:=by have:=hc.ln;omega
 have h:=shI_at hc (by omega) (by omega) h0
 have e:shS p.top (Ns.cntE p n f).toNat=Ns.shT p.top (Ns.cntE p n f):=by
  unfold shS;rw [if_pos h4,Ns.shT_tree h4,Int.toNat_of_nonneg h0]
 rwa [e] at h
theorem sh_no (hc:CfV p n f c) (h4:¬ p.top=4):c.sh=[]:=by
 have h:=hc.sh
 rw [Rd.shB_no h4,decide_eq_true_iff] at h
 exact List.eq_nil_of_length_eq_zero (by omega)
def afX (p:Fm) (n f:Int) (c:Cf) (x y k:Int):Cf:=af (n-f) c (p.rz.getD x.toNat default) y.toNat k
def lgB (c:Cf):Bool:=Rd.belB c.se 1048577&&Rd.belB c.fa 1048577
def apE (p:Fm) (n t f:Int) (c:Cf) (x y k:Int):Int :=
 if Rd.vcE p n t f c=0 then (if enB p n t f c (hdJ p f c p.msgs.length) x y k=true then (if lgB (afX p n f c x y k)=true then 0 else 4) else 9) else Rd.vcE p n t f c
def apC (p:Fm) (n t f:Int) (c:Cf) (x y k:Int):Cf:=if apE p n t f c x y k=0 then afX p n f c x y k else zC
section
variable {p:Fm} {n t f:Int} {c:Cf} {x y k:Int} {r i:Nat}
theorem afX_at (hr:r<p.rz.length):afX p n f c (r:Int) (i:Int) k=af (n-f) c p.rz[r] i k:=by
 unfold afX;rw [Int.toNat_natCast,Int.toNat_natCast,rule_get hr]
theorem lg_and {c:Cf}:lgB c=true↔Rd.belB c.se 1048577=true∧Rd.belB c.fa 1048577=true:=by unfold lgB;rw [Bool.and_eq_true]
theorem apE_err (hz:¬ Rd.vcE p n t f c=0):apE p n t f c x y k=Rd.vcE p n t f c:=by unfold apE;rw [if_neg hz]
theorem apC_err (hz:¬ Rd.vcE p n t f c=0):apC p n t f c x y k=zC:=by unfold apC;rw [apE_err hz,if_neg hz]
theorem apE_no (hz:Rd.vcE p n t f c=0) (he:enB p n t f c (hdJ p f c p.msgs.length) x y k=false):apE p n t f c x y k=9:=by unfold apE;rw [if_pos hz,he];rfl
theorem apC_no (hz:Rd.vcE p n t f c=0) (he:enB p n t f c (hdJ p f c p.msgs.length) x y k=false):apC p n t f c x y k=zC:=by unfold apC;rw [apE_no hz he];rfl
theorem apE_ok (hz:Rd.vcE p n t f c=0) (he:enB p n t f c (hdJ p f c p.msgs.length) (r:Int) (i:Int) k=true) (hr:r<p.rz.length) (hl:Rd.belB (af (n-f) c p.rz[r] i k).se 1048577=true∧Rd.belB (af (n-f) c p.rz[r] i k).fa 1048577=true):apE p n t f c (r:Int) (i:Int) k=0:=by
 unfold apE;rw [if_pos hz,if_pos he,afX_at hr,if_pos (lg_and.2 hl)]
theorem apE_lg (hz:Rd.vcE p n t f c=0) (he:enB p n t f c (hdJ p f c p.msgs.length) (r:Int) (i:Int) k=true) (hr:r<p.rz.length) (hl:¬ (Rd.belB (af (n-f) c p.rz[r] i k).se 1048577=true∧Rd.belB (af (n-f) c p.rz[r] i k).fa 1048577=true)):apE p n t f c (r:Int) (i:Int) k=4:=by
 unfold apE;rw [if_pos hz,if_pos he,afX_at hr,if_neg (fun h=>hl (lg_and.1 h))]
end
end Ap
set_option maxHeartbeats 12800000
variable {top:Int}
set_option maxRecDepth 100000 in
theorem En.place_x {c:Nat} (hc:c≤8) (xs:Nat→Value):CtrW Tryz.prog J 49 [bx 1000000] 1000000 (.box 102 [.v (xs 0),iv top,.v (xs 2),.v (xs 3),.v (xs 4),.v (xs 5),.v (xs 6),.v (xs 7),.v (xs 8),.v (xs 9),.v (xs 10),.v (xs 11),.v (xs 12),iv c,.v (xs 14),.v (xs 15),.v (xs 16),.v (xs 17),.v (xs 18),.v (xs 19),.v (xs 20),.v (xs 21),.v (xs 22),.v (xs 23),.v (xs 24),.v (xs 25),.v (xs 26),.v (xs 27),.v (xs 28),.v (xs 29),.v (xs 30),nz,nz]) (.box 102 [.v (xs 0),iv top,.v (xs 2),.v (xs 3),.v (xs 4),.v (xs 5),.v (xs 6),.v (xs 7),.v (xs 8),.v (xs 9),.v (xs 10),.v (xs 11),.v (xs 12),iv c,.v (xs 14),.v (xs 15),.v (xs 16),.v (xs 17),.v (xs 18),.v (xs 19),.v (xs 20),.v (xs 21),.v (xs 22),.v (xs 23),.v (xs 24),.v (xs 25),.v (xs 26),.v (xs 27),.v (xs 28),.v (xs 29),.v (xs 30),.fr (slA 1 cLi (Ns.shT top (c:Int))),.fr ((En.lkS top c))]) (.v (.tuple #[])):=by
 have hsh:=Sh_pos (c:=c)
 have hsl:=Sh.shX_len (c:Int)
 refine Ze0 (by decide) Tryz.func49 rfl (n:=64) rfl (by simp) (fun w0 => ?_)
 refine kW 64 [(1000000,.box 102 [.v (xs 0),iv top,.v (xs 2),.v (xs 3),.v (xs 4),.v (xs 5),.v (xs 6),.v (xs 7),.v (xs 8),.v (xs 9),.v (xs 10),.v (xs 11),.v (xs 12),iv c,.v (xs 14),.v (xs 15),.v (xs 16),.v (xs 17),.v (xs 18),.v (xs 19),.v (xs 20),.v (xs 21),.v (xs 22),.v (xs 23),.v (xs 24),.v (xs 25),.v (xs 26),.v (xs 27),.v (xs 28),.v (xs 29),.v (xs 30),nz,nz])] [(0,bx 1000000)] (jB (oW (oW (oW (oF (iv top) (jA (Zo (jM ?_))))))))
 by_cases hs1:top=2
 refine Za (oe (dT hs1) (oS bT (jH (Zq (Zf (Yb rfl ?_))))))
 refine tD (dW (dW (dW (dW (dW (dW (dW (dW (dW (dW (dk (ZbI (.inl hs1) hc) [iv top,nz,iv c] rfl rfl (dR (Wv (z:=1) (k:=1) (fr:=true) (cs:=[.sl 3 c (Ns.lkZ top c c)]) [.tmp 22] [.fr (.sl 3 c (Ns.lkZ top c c))] rfl U100 (by kernel_rfl) (by decide) (by decide) rfl rfl rfl (by kernel_rfl) (by decide) (fun _=>by simp [AV.cellsOf,AV.isNew,cLn,cTh]) (by kernel_rfl)) ⟨I0,T0⟩ T0 rfl (dW (dW (dY (eD ?_))))))))))))))))
 refine kW 64 [(1,.row true 93 1 1 ([.sl 3 c (Ns.lkZ top c c)])),(1000000,.box 102 [.v (xs 0),iv top,.v (xs 2),.v (xs 3),.v (xs 4),.v (xs 5),.v (xs 6),.v (xs 7),.v (xs 8),.v (xs 9),.v (xs 10),.v (xs 11),.v (xs 12),iv c,.v (xs 14),.v (xs 15),.v (xs 16),.v (xs 17),.v (xs 18),.v (xs 19),.v (xs 20),.v (xs 21),.v (xs 22),.v (xs 23),.v (xs 24),.v (xs 25),.v (xs 26),.v (xs 27),.v (xs 28),.v (xs 29),.v (xs 30),nz,.own 1])] [] (Zv ?_)
 refine KA ?_
 rw [Ns.shT_no (n:=(c:Int)) (by omega),← En.lkS_row (c:=c) (top:=top) (by omega)]
 refine kW 64 [(1000000,.box 102 [.v (xs 0),iv top,.v (xs 2),.v (xs 3),.v (xs 4),.v (xs 5),.v (xs 6),.v (xs 7),.v (xs 8),.v (xs 9),.v (xs 10),.v (xs 11),.v (xs 12),iv c,.v (xs 14),.v (xs 15),.v (xs 16),.v (xs 17),.v (xs 18),.v (xs 19),.v (xs 20),.v (xs 21),.v (xs 22),.v (xs 23),.v (xs 24),.v (xs 25),.v (xs 26),.v (xs 27),.v (xs 28),.v (xs 29),.v (xs 30),nz,.fr ((.sl 1 1 [.sl 3 c (Ns.lkZ top c c)]))])] [] ?_
 refine Yk (WO 1000000 1 [0,0,0,0,0,0,0,0,0,0,0,0,0,0,0,0,0,0,0,0,0,0,0,0,0,0,0,0,0,0,0,2,0] rfl (ds:=[.v (xs 0),iv top,.v (xs 2),.v (xs 3),.v (xs 4),.v (xs 5),.v (xs 6),.v (xs 7),.v (xs 8),.v (xs 9),.v (xs 10),.v (xs 11),.v (xs 12),iv c,.v (xs 14),.v (xs 15),.v (xs 16),.v (xs 17),.v (xs 18),.v (xs 19),.v (xs 20),.v (xs 21),.v (xs 22),.v (xs 23),.v (xs 24),.v (xs 25),.v (xs 26),.v (xs 27),.v (xs 28),.v (xs 29),.v (xs 30),.fr (.sl 1 0 []),.fr ((.sl 1 1 [.sl 3 c (Ns.lkZ top c c)]))]) (by kernel_rfl) (by kernel_rfl)) ?_
 exact Zaz Tryz.results49 (by decide) (by kernel_rfl)
 refine Za (oe (dF hs1) (oS bF (jI ?_)))
 by_cases hs2:top=3
 refine Za (oe (dT hs2) (oS bT (jH ?_)))
 refine tD (dW (dW (dW (dW (dW (dW (dW (dW (dW (dW (dk (ZbI (.inr hs2) hc) [iv top,nz,iv c] rfl rfl (dR (Wv (z:=1) (k:=1) (fr:=true) (cs:=[.sl 3 c (Ns.lkZ top c c)]) [.tmp 22] [.fr (.sl 3 c (Ns.lkZ top c c))] rfl U100 (by kernel_rfl) (by decide) (by decide) rfl rfl rfl (by kernel_rfl) (by decide) (fun _=>by simp [AV.cellsOf,AV.isNew,cLn,cTh]) (by kernel_rfl)) ⟨I0,T0⟩ T0 rfl (dW (dW (dY (eD ?_))))))))))))))))
 refine kW 64 [(1,.row true 93 1 1 ([.sl 3 c (Ns.lkZ top c c)])),(1000000,.box 102 [.v (xs 0),iv top,.v (xs 2),.v (xs 3),.v (xs 4),.v (xs 5),.v (xs 6),.v (xs 7),.v (xs 8),.v (xs 9),.v (xs 10),.v (xs 11),.v (xs 12),iv c,.v (xs 14),.v (xs 15),.v (xs 16),.v (xs 17),.v (xs 18),.v (xs 19),.v (xs 20),.v (xs 21),.v (xs 22),.v (xs 23),.v (xs 24),.v (xs 25),.v (xs 26),.v (xs 27),.v (xs 28),.v (xs 29),.v (xs 30),nz,.own 1])] [] (Zv ?_)
 refine KA ?_
 rw [Ns.shT_no (n:=(c:Int)) (by omega),← En.lkS_row (c:=c) (top:=top) (by omega)]
 refine kW 64 [(1000000,.box 102 [.v (xs 0),iv top,.v (xs 2),.v (xs 3),.v (xs 4),.v (xs 5),.v (xs 6),.v (xs 7),.v (xs 8),.v (xs 9),.v (xs 10),.v (xs 11),.v (xs 12),iv c,.v (xs 14),.v (xs 15),.v (xs 16),.v (xs 17),.v (xs 18),.v (xs 19),.v (xs 20),.v (xs 21),.v (xs 22),.v (xs 23),.v (xs 24),.v (xs 25),.v (xs 26),.v (xs 27),.v (xs 28),.v (xs 29),.v (xs 30),nz,.fr ((.sl 1 1 [.sl 3 c (Ns.lkZ top c c)]))])] [] ?_
 refine Yk (WO 1000000 1 [0,0,0,0,0,0,0,0,0,0,0,0,0,0,0,0,0,0,0,0,0,0,0,0,0,0,0,0,0,0,0,2,0] rfl (ds:=[.v (xs 0),iv top,.v (xs 2),.v (xs 3),.v (xs 4),.v (xs 5),.v (xs 6),.v (xs 7),.v (xs 8),.v (xs 9),.v (xs 10),.v (xs 11),.v (xs 12),iv c,.v (xs 14),.v (xs 15),.v (xs 16),.v (xs 17),.v (xs 18),.v (xs 19),.v (xs 20),.v (xs 21),.v (xs 22),.v (xs 23),.v (xs 24),.v (xs 25),.v (xs 26),.v (xs 27),.v (xs 28),.v (xs 29),.v (xs 30),.fr (.sl 1 0 []),.fr ((.sl 1 1 [.sl 3 c (Ns.lkZ top c c)]))]) (by kernel_rfl) (by kernel_rfl)) ?_
 exact Zaz Tryz.results49 (by decide) (by kernel_rfl)
 refine Za (oe (dF hs2) (oS bF (jI (Zl ?_))))
 by_cases hs3:top=4
 refine Za (oe (dT hs3) (oS bT (jG (oW (oW (oW (oW (oW (oK (Sh.Shapes_n _) [iv c] rfl rfl (oS (.tup [.fr (slA 1 cLi (Sh.shX (c:Int))),iv (Sh.shZ (c:Int))]) (oW (oS (iv (Sh.shZ (c:Int))) (oW (oW (oY (kN 64 [(1000000,.box 102 [.v (xs 0),iv top,.v (xs 2),.v (xs 3),.v (xs 4),.v (xs 5),.v (xs 6),.v (xs 7),.v (xs 8),.v (xs 9),.v (xs 10),.v (xs 11),.v (xs 12),iv c,.v (xs 14),.v (xs 15),.v (xs 16),.v (xs 17),.v (xs 18),.v (xs 19),.v (xs 20),.v (xs 21),.v (xs 22),.v (xs 23),.v (xs 24),.v (xs 25),.v (xs 26),.v (xs 27),.v (xs 28),.v (xs 29),.v (xs 30),.fr (slA 1 cLi (Sh.shX (c:Int))),nz])] [(0,bx 1000000)] (jC (Za ?_))))))))))))))))))
 refine oW (oW (oF (.fr (slA 1 cLi (Sh.shX (c:Int)))) (Y6 rfl (nLs 42 U61) ⟨.inr (.inl rfl),T0⟩ T0 T0 (oS (iv 0) (kN 64 [(1000000,.box 102 [.v (xs 0),iv top,.v (xs 2),.v (xs 3),.v (xs 4),.v (xs 5),.v (xs 6),.v (xs 7),.v (xs 8),.v (xs 9),.v (xs 10),.v (xs 11),.v (xs 12),iv c,.v (xs 14),.v (xs 15),.v (xs 16),.v (xs 17),.v (xs 18),.v (xs 19),.v (xs 20),.v (xs 21),.v (xs 22),.v (xs 23),.v (xs 24),.v (xs 25),.v (xs 26),.v (xs 27),.v (xs 28),.v (xs 29),.v (xs 30),.fr (slA 1 cLi (Sh.shX (c:Int))),nz])] [(0,bx 1000000),(42,.fr (slA 1 cLi (Sh.shX (c:Int)))),(43,iv ((Sh.shX (c:Int)).length:Nat)),(44,iv 0)] (Zf (Zo ?_)))))))
 refine Yk (Yp 1000000 32 1 true 93 1 rfl rfl rfl rfl) ?_
 refine ZL (σ:={j:Nat // j≤(Sh.shX (c:Int)).length}) (fun s=>(ofL [(1,.row true 93 1 (((Sh.shX (c:Int)).take s.1).length) (((Sh.shX (c:Int)).take s.1).flatMap Ns.cLk)),(1000000,.box 102 [.v (xs 0),iv top,.v (xs 2),.v (xs 3),.v (xs 4),.v (xs 5),.v (xs 6),.v (xs 7),.v (xs 8),.v (xs 9),.v (xs 10),.v (xs 11),.v (xs 12),iv c,.v (xs 14),.v (xs 15),.v (xs 16),.v (xs 17),.v (xs 18),.v (xs 19),.v (xs 20),.v (xs 21),.v (xs 22),.v (xs 23),.v (xs 24),.v (xs 25),.v (xs 26),.v (xs 27),.v (xs 28),.v (xs 29),.v (xs 30),.fr (slA 1 cLi (Sh.shX (c:Int))),.own 1])],ofT 64 [(0,bx 1000000),(42,.fr (slA 1 cLi (Sh.shX (c:Int)))),(43,iv ((Sh.shX (c:Int)).length:Nat)),(44,iv s.1)])) (fun s=>(Sh.shX (c:Int)).length-s.1) ⟨0,Nat.zero_le _⟩ (Zp _ _) (fun s => ?_)
 obtain ⟨j,hj0⟩:=s
 show ETri J w0 (ofL [(1,.row true 93 1 (((Sh.shX (c:Int)).take j).length) (((Sh.shX (c:Int)).take j).flatMap Ns.cLk)),(1000000,.box 102 [.v (xs 0),iv top,.v (xs 2),.v (xs 3),.v (xs 4),.v (xs 5),.v (xs 6),.v (xs 7),.v (xs 8),.v (xs 9),.v (xs 10),.v (xs 11),.v (xs 12),iv c,.v (xs 14),.v (xs 15),.v (xs 16),.v (xs 17),.v (xs 18),.v (xs 19),.v (xs 20),.v (xs 21),.v (xs 22),.v (xs 23),.v (xs 24),.v (xs 25),.v (xs 26),.v (xs 27),.v (xs 28),.v (xs 29),.v (xs 30),.fr (slA 1 cLi (Sh.shX (c:Int))),.own 1])]) (ofT 64 [(0,bx 1000000),(42,.fr (slA 1 cLi (Sh.shX (c:Int)))),(43,iv ((Sh.shX (c:Int)).length:Nat)),(44,iv j)]) _
 have l1:((Sh.shX (c:Int)).take j).length≤j:=List.length_take_le _ _
 refine Zl ?_
 by_cases hs4:(j:Int)<(((Sh.shX (c:Int)).length:Nat):Int)
 have hj1:j<(Sh.shX (c:Int)).length:=by omega
 have hx0:0<(Sh.shX (c:Int))[j].length:=hsh _ (List.getElem_mem hj1)
 have hx1:(Sh.shX (c:Int))[j].length≤100:=Nat.le_trans (Sh.shX_mem _ _ (List.getElem_mem hj1)).1 (by decide)
 refine Za (ol (dT hs4) (jD (Yb rfl (Zq (jC (Zo (jB (Y6 rfl (xS (j*1) 42 44 U61) ⟨.inr (.inl rfl),I0,T0⟩ T0 T0 (oL (Zb ((Sh.shX (c:Int))[j])) (fT lenLi (Sh.shX (c:Int)) j 0) (oS (Zb ((Sh.shX (c:Int))[j])) (jA ?_)))))))))))
 refine tD (dW (dW (dW (dW (dS (.own 1) (dW (dW (dW (dW (dW (dk (ZdX (Sh.shX_mem _ _ (List.getElem_mem (by omega))).2 hx0 hx1) [iv 4,Zb ((Sh.shX (c:Int))[j]),iv c] rfl rfl (dR (Wv (z:=1) (k:=2) (fr:=false) (cs:=[.fr (Ns.lkT ((Sh.shX (c:Int))[j]))]) [.tmp 58] [.fr (Ns.lkT ((Sh.shX (c:Int))[j]))] rfl U100 (by kernel_rfl) (by decide) (by decide) rfl rfl rfl (by kernel_rfl) (by decide) (fun h=>Bool.noConfusion h) (by kernel_rfl)) ⟨I0,T0⟩ T0 rfl (dR (WU (n:=((Sh.shX (c:Int)).take j).length) (cs:=(((Sh.shX (c:Int)).take j).flatMap Ns.cLk)) (fr:=true) (m:=1) (ds:=[.fr (Ns.lkT ((Sh.shX (c:Int))[j]))]) (⟨U100,by kernel_rfl,by decide⟩:Elt Tryz.prog 100 93 1 24) (.tmp 52) (.tmp 59) rfl (fun _=>Ns.newLk (Sh.shX (c:Int))[j]) (by unfold maxLen;omega) (by omega) (Ns.cellLk (Sh.shX (c:Int))[j]) (es:=(((Sh.shX (c:Int)).take (j+1)).flatMap Ns.cLk)) (Ns.snocLk (by omega))) ⟨I0,I0,T0⟩ ⟨rfl,rfl,T0⟩ rfl (dW (dW (dY (eD ?_)))))))))))))))))
 refine kW 64 [(1,.row true 93 1 (((Sh.shX (c:Int)).take j).length+1) (((Sh.shX (c:Int)).take (j+1)).flatMap Ns.cLk)),(1000000,.box 102 [.v (xs 0),iv top,.v (xs 2),.v (xs 3),.v (xs 4),.v (xs 5),.v (xs 6),.v (xs 7),.v (xs 8),.v (xs 9),.v (xs 10),.v (xs 11),.v (xs 12),iv c,.v (xs 14),.v (xs 15),.v (xs 16),.v (xs 17),.v (xs 18),.v (xs 19),.v (xs 20),.v (xs 21),.v (xs 22),.v (xs 23),.v (xs 24),.v (xs 25),.v (xs 26),.v (xs 27),.v (xs 28),.v (xs 29),.v (xs 30),.fr (slA 1 cLi (Sh.shX (c:Int))),.own 1])] [(0,bx 1000000),(3,Zb ((Sh.shX (c:Int))[j])),(42,.fr (slA 1 cLi (Sh.shX (c:Int)))),(43,iv ((Sh.shX (c:Int)).length:Nat)),(44,iv j),(45,bT)] (Zv (Zf (Za (oV ((j+1:Nat):Int) (oS (iv (j+1:Nat)) (kN 64 [(1,.row true 93 1 (((Sh.shX (c:Int)).take j).length+1) (((Sh.shX (c:Int)).take (j+1)).flatMap Ns.cLk)),(1000000,.box 102 [.v (xs 0),iv top,.v (xs 2),.v (xs 3),.v (xs 4),.v (xs 5),.v (xs 6),.v (xs 7),.v (xs 8),.v (xs 9),.v (xs 10),.v (xs 11),.v (xs 12),iv c,.v (xs 14),.v (xs 15),.v (xs 16),.v (xs 17),.v (xs 18),.v (xs 19),.v (xs 20),.v (xs 21),.v (xs 22),.v (xs 23),.v (xs 24),.v (xs 25),.v (xs 26),.v (xs 27),.v (xs 28),.v (xs 29),.v (xs 30),.fr (slA 1 cLi (Sh.shX (c:Int))),.own 1])] [(0,bx 1000000),(3,Zb ((Sh.shX (c:Int))[j])),(42,.fr (slA 1 cLi (Sh.shX (c:Int)))),(43,iv ((Sh.shX (c:Int)).length:Nat)),(44,iv (j+1:Nat)),(45,bT)] (Zf ?_)))))))
 refine Zs ⟨j+1,by omega⟩ (show (Sh.shX (c:Int)).length-(j+1)<(Sh.shX (c:Int)).length-j by omega) ?_
 show Wk _ _ (ofL [(1,.row true 93 1 (((Sh.shX (c:Int)).take (j+1)).length) (((Sh.shX (c:Int)).take (j+1)).flatMap Ns.cLk)),(1000000,.box 102 [.v (xs 0),iv top,.v (xs 2),.v (xs 3),.v (xs 4),.v (xs 5),.v (xs 6),.v (xs 7),.v (xs 8),.v (xs 9),.v (xs 10),.v (xs 11),.v (xs 12),iv c,.v (xs 14),.v (xs 15),.v (xs 16),.v (xs 17),.v (xs 18),.v (xs 19),.v (xs 20),.v (xs 21),.v (xs 22),.v (xs 23),.v (xs 24),.v (xs 25),.v (xs 26),.v (xs 27),.v (xs 28),.v (xs 29),.v (xs 30),.fr (slA 1 cLi (Sh.shX (c:Int))),.own 1])]) (ofT 64 [(0,bx 1000000),(42,.fr (slA 1 cLi (Sh.shX (c:Int)))),(43,iv ((Sh.shX (c:Int)).length:Nat)),(44,iv ((j+1):Nat))])
 rw [show ((Sh.shX (c:Int)).take (j+1)).length=((Sh.shX (c:Int)).take j).length+1 by rw [List.length_take,List.length_take];omega]
 exact Zp _ _
 refine Za (ol (dF hs4) (kN 64 [(1,.row true 93 1 (((Sh.shX (c:Int)).take j).length) (((Sh.shX (c:Int)).take j).flatMap Ns.cLk)),(1000000,.box 102 [.v (xs 0),iv top,.v (xs 2),.v (xs 3),.v (xs 4),.v (xs 5),.v (xs 6),.v (xs 7),.v (xs 8),.v (xs 9),.v (xs 10),.v (xs 11),.v (xs 12),iv c,.v (xs 14),.v (xs 15),.v (xs 16),.v (xs 17),.v (xs 18),.v (xs 19),.v (xs 20),.v (xs 21),.v (xs 22),.v (xs 23),.v (xs 24),.v (xs 25),.v (xs 26),.v (xs 27),.v (xs 28),.v (xs 29),.v (xs 30),.fr (slA 1 cLi (Sh.shX (c:Int))),.own 1])] [(0,bx 1000000),(42,.fr (slA 1 cLi (Sh.shX (c:Int)))),(43,iv ((Sh.shX (c:Int)).length:Nat)),(44,iv j),(45,bF)] (jC (ZA rfl (jO (Zv ?_))))))
 refine KA ?_
 have hj2:j=(Sh.shX (c:Int)).length:=by omega
 have ht:(Sh.shX (c:Int)).take j=(Sh.shX (c:Int)):=by rw [hj2,List.take_length]
 rw [ht]
 rw [Ns.shT_tree (n:=(c:Int)) hs3,hs3,← En.lkS_tree]
 refine kW 64 [(1000000,.box 102 [.v (xs 0),iv 4,.v (xs 2),.v (xs 3),.v (xs 4),.v (xs 5),.v (xs 6),.v (xs 7),.v (xs 8),.v (xs 9),.v (xs 10),.v (xs 11),.v (xs 12),iv c,.v (xs 14),.v (xs 15),.v (xs 16),.v (xs 17),.v (xs 18),.v (xs 19),.v (xs 20),.v (xs 21),.v (xs 22),.v (xs 23),.v (xs 24),.v (xs 25),.v (xs 26),.v (xs 27),.v (xs 28),.v (xs 29),.v (xs 30),.fr (slA 1 cLi (Sh.shX (c:Int))),.fr ((.sl 1 (Sh.shX (c:Int)).length ((Sh.shX (c:Int)).flatMap Ns.cLk)))])] [] ?_
 exact Zaz Tryz.results49 (by decide) (by kernel_rfl)
 refine Za (oe (dF hs3) (oS bF (kN 64 [(1000000,.box 102 [.v (xs 0),iv top,.v (xs 2),.v (xs 3),.v (xs 4),.v (xs 5),.v (xs 6),.v (xs 7),.v (xs 8),.v (xs 9),.v (xs 10),.v (xs 11),.v (xs 12),iv c,.v (xs 14),.v (xs 15),.v (xs 16),.v (xs 17),.v (xs 18),.v (xs 19),.v (xs 20),.v (xs 21),.v (xs 22),.v (xs 23),.v (xs 24),.v (xs 25),.v (xs 26),.v (xs 27),.v (xs 28),.v (xs 29),.v (xs 30),nz,nz])] [(0,bx 1000000),(26,bF)] (Zf (ZA rfl (Zq (Zv ?_)))))))
 refine KA ?_
 rw [Ns.shT_no (n:=(c:Int)) (by omega),← En.lkS_no (c:=c) hs1 hs2 hs3]
 refine Yk (WO 1000000 1 [0,0,0,0,0,0,0,0,0,0,0,0,0,0,0,0,0,0,0,0,0,0,0,0,0,0,0,0,0,0,0,2,2] rfl (ds:=[.v (xs 0),iv top,.v (xs 2),.v (xs 3),.v (xs 4),.v (xs 5),.v (xs 6),.v (xs 7),.v (xs 8),.v (xs 9),.v (xs 10),.v (xs 11),.v (xs 12),iv c,.v (xs 14),.v (xs 15),.v (xs 16),.v (xs 17),.v (xs 18),.v (xs 19),.v (xs 20),.v (xs 21),.v (xs 22),.v (xs 23),.v (xs 24),.v (xs 25),.v (xs 26),.v (xs 27),.v (xs 28),.v (xs 29),.v (xs 30),.fr (.sl 1 0 []),.fr (.sl 1 0 [])]) (by kernel_rfl) (by kernel_rfl)) ?_
 exact Zaz Tryz.results49 (by decide) (by kernel_rfl)
namespace En
theorem place_cx {top c:Int} (h0:0≤c) (h8:c≤8) (xs:Nat→Value):CtrW Tryz.prog J 49 [bx 1000000] 1000000 (.box 102 [.v (xs 0),iv top,.v (xs 2),.v (xs 3),.v (xs 4),.v (xs 5),.v (xs 6),.v (xs 7),.v (xs 8),.v (xs 9),.v (xs 10),.v (xs 11),.v (xs 12),iv c,.v (xs 14),.v (xs 15),.v (xs 16),.v (xs 17),.v (xs 18),.v (xs 19),.v (xs 20),.v (xs 21),.v (xs 22),.v (xs 23),.v (xs 24),.v (xs 25),.v (xs 26),.v (xs 27),.v (xs 28),.v (xs 29),.v (xs 30),nz,nz]) (.box 102 [.v (xs 0),iv top,.v (xs 2),.v (xs 3),.v (xs 4),.v (xs 5),.v (xs 6),.v (xs 7),.v (xs 8),.v (xs 9),.v (xs 10),.v (xs 11),.v (xs 12),iv c,.v (xs 14),.v (xs 15),.v (xs 16),.v (xs 17),.v (xs 18),.v (xs 19),.v (xs 20),.v (xs 21),.v (xs 22),.v (xs 23),.v (xs 24),.v (xs 25),.v (xs 26),.v (xs 27),.v (xs 28),.v (xs 29),.v (xs 30),.fr (slA 1 cLi (Ns.shT top c)),.fr ((lkS top c.toNat))]) (.v (.tuple #[])):=by
 obtain ⟨m,rfl⟩:=Int.eq_ofNat_of_zero_le h0
 exact place_x (by omega) xs
theorem place_mx (b:Nat→AV) (h0:0≤Ns.cntE p n f) (h8:Ns.cntE p n f≤8):∀ xs':Nat→Value,CtrW Tryz.prog J 49 [bx 1000000] 1000000 (.box 102 (maskC [true,false,true,true,true,true,true,true,true,true,true,true,true,false,true,true,true,true,true,true,true,true,true,true,true,true,true,true,true,true,true,false,false] xs' [sv p.nm,iv p.top,ZW p.sz,ZW p.msgs,ZW p.vals,iv p.fzz,slA 4 cLn p.res,Zb p.init,Zb p.lz,slA 18 cRu p.rz,iv n,iv t,iv f,iv (Ns.cntE p n f),iv (n-f),b 0,b 1,b 2,b 3,b 4,b 5,b 6,b 7,b 8,b 9,b 10,b 11,b 12,b 13,b 14,b 15,nz,nz])) (.box 102 (maskC [true,false,true,true,true,true,true,true,true,true,true,true,true,false,true,true,true,true,true,true,true,true,true,true,true,true,true,true,true,true,true,false,false] xs' [sv p.nm,iv p.top,ZW p.sz,ZW p.msgs,ZW p.vals,iv p.fzz,slA 4 cLn p.res,Zb p.init,Zb p.lz,slA 18 cRu p.rz,iv n,iv t,iv f,iv (Ns.cntE p n f),iv (n-f),b 0,b 1,b 2,b 3,b 4,b 5,b 6,b 7,b 8,b 9,b 10,b 11,b 12,b 13,b 14,b 15,.fr (slA 1 cLi (Ns.shT p.top (Ns.cntE p n f))),.fr (En.lkS p.top (Ns.cntE p n f).toNat)])) (.v (.tuple #[])):=fun xs=>place_cx h0 h8 xs
end En
abbrev XEn2_h1 (x0:Int) (x1:Int) (x2:Int) (x3:Fm) (x4:Nat) (x5:Ru):List (Nat × ABlk):=[(2,.box 29 (cSz x0 x1 x2)),(3,.box 102 (En.sysB x3 x0 x1 x2 x4 0 (nz) (nz))),(4,.box 57 (cRu x5))]
abbrev XEn2_h2 (x0:Int) (x1:Int) (x2:Int) (x3:Fm) (x4:Nat) (x5:Nat) (x6:Ru):List (Nat × ABlk):=[(2,.box 29 (cSz x0 x1 x2)),(3,.box 102 (En.sysB x3 x0 x1 x2 x4 x5 (nz) (nz))),(4,.box 57 (cRu x6))]
abbrev XEn2_h3 (x0:Nat) (x1:Nat) (x2:Fm) (x3:Ru):List (Nat × AV):=[(3,bx 2),(4,.v (.pointer none)),(5,iv 0),(7,bx 3),(8,iv x0),(9,bx 4),(10,iv x1),(11,bx 5),(46,slA 18 cRu x2.rz),(47,iv x2.rz.length),(48,iv x0),(49,bT),(54,slA 6 cTh x3.gz),(55,iv (x3.gz.length:Nat)),(56,iv x1),(57,bT)]
set_option maxRecDepth 100000 in
theorem ZbH (HP:FmOk p) (hs:Ns.sysE p n t f=0):CtrA Tryz.prog J 29 [.agg (cFm p),.agg (cSz n t f)] (.tup [.el (En.sysP p n t f) 0,iv 0]):=by
 obtain ⟨hv,ha,h8⟩:=Ns.sys_ok hs
 obtain ⟨hr8,hg2⟩:=Ns.val_lims hv
 have hai:=Ns.adm_in ha
 have hc0:=Ns.cnt_lo (p:=p) hai
 have hc8:=Ns.cnt_hi (p:=p) hai h8
 refine Zau Tryz.func29 rfl (pN (Zh (ZS p)) (pN (Zh (Ya n t f)) pZ)) (n:=80) rfl (by simp) (fun w0 => ?_)
 refine kW 80 [] [(0,.agg (cFm p)),(1,.agg (cSz n t f))] (jB (oX 1 (.agg (cFm p)) (oX 2 (.agg (cSz n t f)) (oS (.v (.pointer none)) (oS (iv 0) (jD (jB (oW (oK (ZbF HP) [.agg (cFm p)] rfl rfl (oS (iv (valE p)) (jD (Za (oS (iv (valE p)) (oC (YJ rfl (dT' hv)) I0 I0 (jI ?_)))))))))))))))
 refine Zq (jC (jB (oW (oW (oK (Zr (Ns.adm_c HP hv) ha) [.agg (cFm p),.agg (cSz n t f)] rfl rfl (oS bF (jF (jM (Za (oF (iv n) (oC (Zdw rfl (dF h8)) I0 I0 (jF ?_))))))))))))
 refine jB (oS (.agg (cFm p)) (oS (.agg (cSz n t f)) (oF (iv n) (oF (iv n) (oF (iv f) (oU (n-f) (Y6 rfl (sp_bldG [0,1,2,3] [.tmp 24,.tmp 25,.tmp 27,.tmp 32] [.agg (cFm p),.agg (cSz n t f),iv n,iv (n-f)] [.inr 0,.inr 1,.inr 2,.inr 3,.inr 4,.inr 5,.inr 6,.inr 7,.inr 8,.inr 9,.inr 10,.inr 11,.inr 12,.inr 13,.inr 14,.inl (.int .i64 0),.inl (.int .i64 0),.inl (.int .i64 0),.inl (.int .i64 0),.inl (.int .i64 0),.inl (.int .i64 0),.inl (.int .i64 0),.inl (.int .i64 0),.inl (.int .i64 0),.inl (.int .i64 0),.inl (.int .i64 0),.inl (.int .i64 0),.inl (.int .i64 0),.inl (.int .i64 0),.inl (.int .i64 0),.inl (.int .i64 0),.inl (.slice none 0 0),.inl (.slice none 0 0)] rfl rfl rfl rfl rfl (fun _=>by kernel_rfl) rfl (ds:=[sv p.nm,iv p.top,ZW p.sz,ZW p.msgs,ZW p.vals,iv p.fzz,slA 4 cLn p.res,Zb p.init,Zb p.lz,slA 18 cRu p.rz,iv n,iv t,iv f,iv n,iv (n-f),iv 0,iv 0,iv 0,iv 0,iv 0,iv 0,iv 0,iv 0,iv 0,iv 0,iv 0,iv 0,iv 0,iv 0,iv 0,iv 0,nz,nz]) rfl) ⟨I0,I0,I0,I0,T0⟩ T0 T0 (oX 3 (.agg [sv p.nm,iv p.top,ZW p.sz,ZW p.msgs,ZW p.vals,iv p.fzz,slA 4 cLn p.res,Zb p.init,Zb p.lz,slA 18 cRu p.rz,iv n,iv t,iv f,iv n,iv (n-f),iv 0,iv 0,iv 0,iv 0,iv 0,iv 0,iv 0,iv 0,iv 0,iv 0,iv 0,iv 0,iv 0,iv 0,iv 0,iv 0,nz,nz]) (oS (bx 3) (jD (jB (oF (iv p.fzz) (oC (ZM rfl rfl) I0 I0 (kN 80 [(1,.box 27 (cFm p)),(2,.box 29 (cSz n t f)),(3,.box 102 [sv p.nm,iv p.top,ZW p.sz,ZW p.msgs,ZW p.vals,iv p.fzz,slA 4 cLn p.res,Zb p.init,Zb p.lz,slA 18 cRu p.rz,iv n,iv t,iv f,iv n,iv (n-f),iv 0,iv 0,iv 0,iv 0,iv 0,iv 0,iv 0,iv 0,iv 0,iv 0,iv 0,iv 0,iv 0,iv 0,iv 0,iv 0,nz,nz])] [(2,bx 1),(3,bx 2),(4,.v (.pointer none)),(5,iv 0),(7,bx 3),(37,bv (decide (p.fzz=3)))] (Zf ?_)))))))))))))))
 refine Ym (True) (ofL [(1,.box 27 (cFm p)),(2,.box 29 (cSz n t f)),(3,.box 102 [sv p.nm,iv p.top,ZW p.sz,ZW p.msgs,ZW p.vals,iv p.fzz,slA 4 cLn p.res,Zb p.init,Zb p.lz,slA 18 cRu p.rz,iv n,iv t,iv f,iv (Ns.cntE p n f),iv (n-f),iv 0,iv 0,iv 0,iv 0,iv 0,iv 0,iv 0,iv 0,iv 0,iv 0,iv 0,iv 0,iv 0,iv 0,iv 0,iv 0,nz,nz])]) (ofT 80 [(2,bx 1),(3,bx 2),(4,.v (.pointer none)),(5,iv 0),(7,bx 3)]) ?_ (fun _ => ?_)
 by_cases hs1:p.fzz=3
 rw [dT hs1]
 refine kW 80 [(1,.box 27 (cFm p)),(2,.box 29 (cSz n t f)),(3,.box 102 [sv p.nm,iv p.top,ZW p.sz,ZW p.msgs,ZW p.vals,iv p.fzz,slA 4 cLn p.res,Zb p.init,Zb p.lz,slA 18 cRu p.rz,iv n,iv t,iv f,iv n,iv (n-f),iv 0,iv 0,iv 0,iv 0,iv 0,iv 0,iv 0,iv 0,iv 0,iv 0,iv 0,iv 0,iv 0,iv 0,iv 0,iv 0,nz,nz])] [(2,bx 1),(3,bx 2),(4,.v (.pointer none)),(5,iv 0),(7,bx 3),(37,bT)] (Yb rfl (Za (oW (oW (oW (oW (oW (oW (oW (oY (kN 80 [(1,.box 27 (cFm p)),(2,.box 29 (cSz n t f)),(3,.box 102 [sv p.nm,iv p.top,ZW p.sz,ZW p.msgs,ZW p.vals,iv p.fzz,slA 4 cLn p.res,Zb p.init,Zb p.lz,slA 18 cRu p.rz,iv n,iv t,iv f,iv (n-f),iv (n-f),iv 0,iv 0,iv 0,iv 0,iv 0,iv 0,iv 0,iv 0,iv 0,iv 0,iv 0,iv 0,iv 0,iv 0,iv 0,iv 0,nz,nz])] [(2,bx 1),(3,bx 2),(4,.v (.pointer none)),(5,iv 0),(7,bx 3)] ?_)))))))))))
 rw [show Ns.cntE p n f=n-f from if_pos hs1]
 exact tM T0
 rw [dF hs1]
 refine kW 80 [(1,.box 27 (cFm p)),(2,.box 29 (cSz n t f)),(3,.box 102 [sv p.nm,iv p.top,ZW p.sz,ZW p.msgs,ZW p.vals,iv p.fzz,slA 4 cLn p.res,Zb p.init,Zb p.lz,slA 18 cRu p.rz,iv n,iv t,iv f,iv n,iv (n-f),iv 0,iv 0,iv 0,iv 0,iv 0,iv 0,iv 0,iv 0,iv 0,iv 0,iv 0,iv 0,iv 0,iv 0,iv 0,iv 0,nz,nz])] [(2,bx 1),(3,bx 2),(4,.v (.pointer none)),(5,iv 0),(7,bx 3),(37,bF)] (ZA rfl (Zq ?_))
 rw [show Ns.cntE p n f=n from if_neg hs1]
 exact tM T0
 refine jC (jB (oF (slA 18 cRu p.rz) (oS (iv p.rz.length) (oS (iv 0) (kN 80 [(2,.box 29 (cSz n t f)),(3,.box 102 [sv p.nm,iv p.top,ZW p.sz,ZW p.msgs,ZW p.vals,iv p.fzz,slA 4 cLn p.res,Zb p.init,Zb p.lz,slA 18 cRu p.rz,iv n,iv t,iv f,iv (Ns.cntE p n f),iv (n-f),iv 0,iv 0,iv 0,iv 0,iv 0,iv 0,iv 0,iv 0,iv 0,iv 0,iv 0,iv 0,iv 0,iv 0,iv 0,iv 0,nz,nz])] [(3,bx 2),(4,.v (.pointer none)),(5,iv 0),(7,bx 3),(46,slA 18 cRu p.rz),(47,iv p.rz.length),(48,iv 0)] (Zf (Zo ?_)))))))
 refine ZL (σ:={j:Nat // j≤p.rz.length}) (fun s=>(ofL [(2,.box 29 (cSz n t f)),(3,.box 102 (En.sysB p n t f s.1 0 (nz) (nz)))],ofT 80 [(3,bx 2),(4,.v (.pointer none)),(5,iv 0),(7,bx 3),(46,slA 18 cRu p.rz),(47,iv p.rz.length),(48,iv s.1)])) (fun s=>p.rz.length-s.1) ⟨0,Nat.zero_le _⟩ (Zp _ _) (fun s => ?_)
 obtain ⟨j,hj0⟩:=s
 show ETri J w0 (ofL [(2,.box 29 (cSz n t f)),(3,.box 102 (En.sysB p n t f j 0 (nz) (nz)))]) (ofT 80 [(3,bx 2),(4,.v (.pointer none)),(5,iv 0),(7,bx 3),(46,slA 18 cRu p.rz),(47,iv p.rz.length),(48,iv j)]) _
 refine Zl ?_
 by_cases hs2:(j:Int)<(p.rz.length:Int)
 have hj1:j<p.rz.length:=by omega
 have hgj:=hg2 _ (List.getElem_mem hj1)
 refine Za (ol (dT hs2) (jD (Yb rfl (Zq (jC (Zo (jB (oW (oC (xS (j*18) 46 48 U25) I0 I0 (oA (Zj (z:=18) (.tmp 51) rfl U57 rfl (by kernel_rfl) (Z9 lenRu p.rz j (by omega)) rfl) I0 (oZ 4 Z57 (oS (iv j) (oY (kN 80 (XEn2_h1 n t f p j p.rz[j]) [(3,bx 2),(4,.v (.pointer none)),(5,iv 0),(7,bx 3),(8,iv j),(9,bx 4),(46,slA 18 cRu p.rz),(47,iv p.rz.length),(48,iv j),(49,bT)] (jC (Za (oF (slA 6 cTh p.rz[j].gz) (oS (iv (p.rz[j].gz.length:Nat)) ?_))))))))))))))))))
 refine oS (iv 0) (kN 80 (XEn2_h1 n t f p j p.rz[j]) [(3,bx 2),(4,.v (.pointer none)),(5,iv 0),(7,bx 3),(8,iv j),(9,bx 4),(46,slA 18 cRu p.rz),(47,iv p.rz.length),(48,iv j),(49,bT),(54,slA 6 cTh p.rz[j].gz),(55,iv (p.rz[j].gz.length:Nat)),(56,iv 0)] (Zf (Zo ?_)))
 refine ZL (σ:={k:Nat // k≤p.rz[j].gz.length}) (fun s=>(ofL [(2,.box 29 (cSz n t f)),(3,.box 102 (En.sysB p n t f j s.1 (nz) (nz))),(4,.box 57 (cRu p.rz[j]))],ofT 80 [(3,bx 2),(4,.v (.pointer none)),(5,iv 0),(7,bx 3),(8,iv j),(9,bx 4),(46,slA 18 cRu p.rz),(47,iv p.rz.length),(48,iv j),(49,bT),(54,slA 6 cTh p.rz[j].gz),(55,iv (p.rz[j].gz.length:Nat)),(56,iv s.1)])) (fun s=>p.rz[j].gz.length-s.1) ⟨0,Nat.zero_le _⟩ (Zp _ _) (fun s => ?_)
 obtain ⟨k,hk0⟩:=s
 show ETri J w0 (ofL (XEn2_h2 n t f p j k p.rz[j])) (ofT 80 [(3,bx 2),(4,.v (.pointer none)),(5,iv 0),(7,bx 3),(8,iv j),(9,bx 4),(46,slA 18 cRu p.rz),(47,iv p.rz.length),(48,iv j),(49,bT),(54,slA 6 cTh p.rz[j].gz),(55,iv (p.rz[j].gz.length:Nat)),(56,iv k)]) _
 refine Zl ?_
 by_cases hs3:(k:Int)<((p.rz[j].gz.length:Nat):Int)
 have hk1:k<p.rz[j].gz.length:=by omega
 refine Za (ol (dT hs3) (jD (Yb rfl (Zq (jC (Zo (jB (oW (oC (xS (k*6) 54 56 U55) I0 I0 (oA (Zj (z:=6) (.tmp 59) rfl U111 rfl (by kernel_rfl) (Z9 lenTh p.rz[j].gz k (by omega)) rfl) I0 (oZ 5 Z111 (oS (iv k) (oY (kN 80 [(2,.box 29 (cSz n t f)),(3,.box 102 (En.sysB p n t f j k (nz) (nz))),(4,.box 57 (cRu p.rz[j])),(5,.box 111 (cTh p.rz[j].gz[k]))] (XEn2_h3 j k p p.rz[j]) (Zf ?_)))))))))))))))
 refine tD (dW (dS (iv j) (dS (iv k) (dW (dW (dW (dk (Ns.Evaluate_c (l:=p.rz[j].gz[k].bd)) [.agg [iv p.rz[j].gz[k].bd.c,iv p.rz[j].gz[k].bd.n,iv p.rz[j].gz[k].bd.t,iv p.rz[j].gz[k].bd.f],.agg (cSz n t f)] rfl rfl (dS (.tup [iv (evN p.rz[j].gz[k].bd.c p.rz[j].gz[k].bd.n p.rz[j].gz[k].bd.t p.rz[j].gz[k].bd.f n t f),iv (evE p.rz[j].gz[k].bd.c p.rz[j].gz[k].bd.n p.rz[j].gz[k].bd.t p.rz[j].gz[k].bd.f n t f)]) (dS (iv (evN p.rz[j].gz[k].bd.c p.rz[j].gz[k].bd.n p.rz[j].gz[k].bd.t p.rz[j].gz[k].bd.f n t f)) (dS (iv (evE p.rz[j].gz[k].bd.c p.rz[j].gz[k].bd.n p.rz[j].gz[k].bd.t p.rz[j].gz[k].bd.f n t f)) (dW (dS (.box 3 15) (dC (Z6 (off':=15+j*2) (.tmp 72) (.tmp 63) rfl U99 (by kernel_rfl) (by omega) (by omega) rfl) I0 I0 (dC (Z6 (off':=15+j*2+k*1) (.tmp 73) (.tmp 64) rfl U98 (by kernel_rfl) (by omega) (by omega) rfl) I0 I0 (dR (Yo (T0:=102) (X:=iv (evN p.rz[j].gz[k].bd.c p.rz[j].gz[k].bd.n p.rz[j].gz[k].bd.t p.rz[j].gz[k].bd.f n t f)) (off:=15+j*2+k*1) (cs:=En.sysB p n t f j k (nz) (nz)) (ds:=En.sysB p n t f j (k+1) (nz) (nz)) (z:=1) (.tmp 74) (.tmp 69) rfl (by kernel_rfl) (by kernel_rfl) (by kernel_rfl) (by rw [En.sysB_len];omega) (En.sysB_step hj1 hr8 hk1 (by omega) rfl)) ⟨I0,I0,T0⟩ ⟨rfl,T0⟩ rfl (eD ?_))))))))))))))))
 refine kW 80 [(2,.box 29 (cSz n t f)),(3,.box 102 (En.sysB p n t f j (k+1) (nz) (nz))),(4,.box 57 (cRu p.rz[j])),(5,.box 111 (cTh p.rz[j].gz[k]))] (XEn2_h3 j k p p.rz[j]) (Zv (Zf (Za (oV ((k+1:Nat):Int) (oS (iv (k+1:Nat)) (kN 80 [(2,.box 29 (cSz n t f)),(3,.box 102 (En.sysB p n t f j (k+1) (nz) (nz))),(4,.box 57 (cRu p.rz[j])),(5,.box 111 (cTh p.rz[j].gz[k]))] [(3,bx 2),(4,.v (.pointer none)),(5,iv 0),(7,bx 3),(8,iv j),(9,bx 4),(10,iv k),(11,bx 5),(46,slA 18 cRu p.rz),(47,iv p.rz.length),(48,iv j),(49,bT),(54,slA 6 cTh p.rz[j].gz),(55,iv (p.rz[j].gz.length:Nat)),(56,iv (k+1:Nat)),(57,bT)] (Zf ?_)))))))
 refine Zs ⟨k+1,by omega⟩ (show p.rz[j].gz.length-(k+1)<p.rz[j].gz.length-k by omega) ?_
 exact Zp _ _
 refine Za (ol (dF hs3) (jD (ZA rfl (jO (Zv (Zf (Za (oV ((j+1:Nat):Int) (oS (iv (j+1:Nat)) (kN 80 (XEn2_h2 n t f p j k p.rz[j]) [(3,bx 2),(4,.v (.pointer none)),(5,iv 0),(7,bx 3),(8,iv j),(9,bx 4),(46,slA 18 cRu p.rz),(47,iv p.rz.length),(48,iv (j+1:Nat)),(49,bT),(54,slA 6 cTh p.rz[j].gz),(55,iv (p.rz[j].gz.length:Nat)),(56,iv k),(57,bF)] (Zf ?_)))))))))))
 refine Zs ⟨j+1,by omega⟩ (show p.rz.length-(j+1)<p.rz.length-j by omega) ?_
 show Wk _ _ (ofL [(2,.box 29 (cSz n t f)),(3,.box 102 (En.sysB p n t f (j+1) 0 (nz) (nz)))]) (ofT 80 [(3,bx 2),(4,.v (.pointer none)),(5,iv 0),(7,bx 3),(46,slA 18 cRu p.rz),(47,iv p.rz.length),(48,iv ((j+1):Nat))])
 rw [En.sysB_row hj1 (by omega:¬ k<p.rz[j].gz.length)]
 exact Zp _ _
 refine Za (ol (dF hs2) (kN 80 [(2,.box 29 (cSz n t f)),(3,.box 102 (En.sysB p n t f j 0 (nz) (nz)))] [(3,bx 2),(4,.v (.pointer none)),(5,iv 0),(7,bx 3),(46,slA 18 cRu p.rz),(47,iv p.rz.length),(48,iv j),(49,bF)] (jC (ZA rfl (jO (jC (kW 80 [(3,.box 102 (En.sysB p n t f j 0 (nz) (nz)))] [(4,.v (.pointer none)),(5,iv 0),(7,bx 3)] ?_)))))))
 rw [show j=p.rz.length by omega]
 refine Za (oS (bx 3) (Y6 rfl (sp_callWB (T:=102) (cs:=En.sysB p n t f p.rz.length 0 (nz) (nz)) (ds:=En.sysB p n t f p.rz.length 0 (.fr (slA 1 cLi (Ns.shT p.top (Ns.cntE p n f)))) (.fr ((En.lkS p.top (Ns.cntE p n f).toNat)))) (c := .func 49) (xs := #[.tmp 77]) (k:=3) 1000000 [true,false,true,true,true,true,true,true,true,true,true,true,true,false,true,true,true,true,true,true,true,true,true,true,true,true,true,true,true,true,true,false,false] [] (fun xs_=>(En.place_mx (p:=p) (n:=n) (t:=t) (f:=f) (fun q=>iv (En.bdP p n t f p.rz.length 0 q)) hc0 hc8 xs_)) rfl (by kernel_rfl) rfl (Xs:=[bx 3]) rfl rfl (Ns.pw1) rfl rfl rfl (Ns.plain_mask (fun _=>by kernel_rfl)) rfl rfl rfl) ⟨I0,I0,T0⟩ ⟨rfl,T0⟩ rfl (jD (Za (oF (bx 3) (oS (iv 0) (jE ?_)))))))
 refine Zay [(3,.box 102 (En.sysB p n t f p.rz.length 0 (.fr (slA 1 cLi (Ns.shT p.top (Ns.cntE p n f)))) (.fr ((En.lkS p.top (Ns.cntE p n f).toNat)))))] Tryz.results29 (.tmp rfl) (.tmp rfl) (by kernel_rfl) rfl rfl rfl ?_ ?_ ?_
 ·exact (show Plain (.el (En.sysP p n t f) 0) from .el (ZN (En.plain_sysP p n t f)))
 ·exact .v _
 kernel_rfl
end Go.Proofs.YtdbehgbggaaipaaGreat
