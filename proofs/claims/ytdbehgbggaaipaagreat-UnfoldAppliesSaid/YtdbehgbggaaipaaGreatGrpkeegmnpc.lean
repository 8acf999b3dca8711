import Derived.ChangeArms
import Derived.ChangeMaps5
import Derived.Test.YtdbehgbggaaipaaGreatGrpdmbijldf
import Derived.Test.YtdbehgbggaaipaaGreatGrpiiicjbhn
import Derived.Test.YtdbehgbggaaipaaGreatGrpbifnacna
import Derived.Test.YtdbehgbggaaipaaGreatGrplbpfbmck
import Derived.Test.YtdbehgbggaaipaaGreatGrphfmjapok
import Derived.Test.YtdbehgbggaaipaaGreatGrpodlhbjnj
import Derived.Test.YtdbehgbggaaipaaGreatGrpkplpgadp
import Derived.Test.YtdbehgbggaaipaaGreatGrpeoaddfic
import Derived.Test.YtdbehgbggaaipaaGreatGrpjdolihil
import Derived.Test.YtdbehgbggaaipaaGreatGrpeicohafj
set_option linter.all false
namespace Go.Proofs.YtdbehgbggaaipaaGreat
open Go.RowKit Go.Deep
variable {J:World→Prop}
def Rd.rdW (p:Fm) (n t f:Int) (c:Cf):Bool:=decide (Ns.sysE p n t f=0)&&Rd.rdX p n f c
abbrev XRd4_h1 (x0:Cf):List (Nat × ABlk):=[(3,.box 31 (Rd.cCg x0)),(4,.box 71 [iv 0,iv 0,iv 0,iv 0,iv 0,iv 0,iv 0,iv 0,iv 0,iv 0,iv 0,iv 0,iv 0,iv 0,iv 0,iv 0])]
variable {p:Fm}{n t f:Int}{c:Cf}
set_option maxRecDepth 100000 in
set_option maxHeartbeats 6400000 in
theorem open_err (HP:FmOk p) (HC:Rd.CgOk c) (hs:¬ Ns.sysE p n t f=0):Ctr Tryz.prog J 22 [.agg (cFm p),.agg (cSz n t f),.agg (Rd.cCg c)] (.tup [.any,.agg (Rd.cfZ (Rd.rdW p n t f c) (Rd.shI p.top (Ns.shT p.top (Ns.cntE p n f)) c.sh) c),iv (Rd.vcE p n t f c)]):=by
 refine Zm Tryz.func22 rfl (pN (Zh (ZQ p)) (pN (Zh (Z0 n t f)) (pN (Zh (Rd.plain_cg c)) pZ))) (n:=34) rfl (by simp) (fun w0 => ?_)
 refine kW 34 [] [(0,.agg (cFm p)),(1,.agg (cSz n t f)),(2,.agg (Rd.cCg c))] (jB (oX 1 (.agg (cFm p)) (oX 2 (.agg (cSz n t f)) (oX 3 (.agg (Rd.cCg c)) (oS (.v (.pointer none)) (oZ 4 Z71 (oS (iv 0) (jD (Za (oS (.agg (cFm p)) (oS (.agg (cSz n t f)) (oD (KS (c := .func 29) (xs := #[.tmp 14,.tmp 15]) (ZcY HP hs) rfl (by kernel_rfl) rfl (Xs:=[.agg (cFm p),.agg (cSz n t f)]) rfl rfl) I0 I0 I0 (oS (.tup [.v (.pointer none),iv (Ns.sysE p n t f)]) (oW (oW (oS (.v (.pointer none)) (oS (iv (Ns.sysE p n t f)) (jD ?_))))))))))))))))))
 refine jB (oS (iv (Ns.sysE p n t f)) (oC (Yq rfl (dF' hs)) I0 I0 (jG (Yz rfl (YV [] #[.int .i64 0,.int .i64 0,.int .i64 0,.int .i64 0,.int .i64 0,.int .i64 0,.int .i64 0,.int .i64 0,.int .i64 0,.int .i64 0,.int .i64 0,.int .i64 0,.int .i64 0,.int .i64 0,.int .i64 0,.int .i64 0] rfl rfl (by kernel_rfl) rfl) T0 T0 T0 (oW (oS (.v (.pointer none)) (oY (oS (iv (Ns.sysE p n t f)) (kN 34 (XRd4_h1 c) [(5,bx 3),(6,.v (.pointer none)),(7,bx 4),(8,iv (Ns.sysE p n t f)),(9,.v (.pointer none))] (Ze (jN (kW 34 (XRd4_h1 c) [(5,bx 3),(7,bx 4),(8,iv (Ns.sysE p n t f)),(9,.v (.pointer none))] ?_))))))))))))
 refine Ky Tryz.results22 (.tmp rfl) (.cellS rfl rfl U71 rfl (z:=16) (by kernel_rfl) rfl (by decide)) (.tmp rfl) ?_
 have hw:(Rd.rdW p n t f c)=false:=by unfold Rd.rdW;rw [decide_eq_false hs];rfl
 have hr:Rd.vcE p n t f c=Ns.sysE p n t f:=by unfold Rd.vcE;rw [if_neg hs]
 rw [hw,hr]
 exact rfl
set_option maxRecDepth 100000
set_option maxHeartbeats 6400000
theorem Ku {x lo hi:Int}:Ctr Tryz.prog J 42 [iv x,iv lo,iv hi] (bv (Rd.inW lo hi x)):=by
 refine Zm Tryz.func42 rfl (pN (.v _) (pN (.v _) (pN (.v _) pZ))) (n:=15) rfl (by simp) (fun w0 => ?_)
 refine kW 15 [] [(0,iv x),(1,iv lo),(2,iv hi)] (jB (oS bF (jD ?_)))
 by_cases hs1:lo≤x
 refine Za (oW (oW (oh (dT hs1) (oS bT (oS (iv x) (oS (iv hi) (gC (sp_leq rfl rfl) I0 I0 (oF (bv (decide (x≤hi))) (jE ?_)))))))))
 refine Zg Tryz.results42 (.tmp rfl) ?_
 exact cB ((by simp only [Rd.inW,hs1,decide_true,decide_false,Bool.and_true,Bool.true_and,Bool.false_and,Bool.and_false,Bool.not_true,Bool.not_false]))
 refine Za (oW (oW (oh (dF hs1) (oS bF (qK (qK (qK (oF bF (jE ?_)))))))))
 refine Zg Tryz.results42 (.tmp rfl) ?_
 exact cB ((by simp only [Rd.inW,hs1,decide_true,decide_false,Bool.and_true,Bool.true_and,Bool.false_and,Bool.and_false,Bool.not_true,Bool.not_false]))
abbrev ZaV (x0:Fm):List (Nat × ABlk):=[(1,.box 27 (cFm x0))]
theorem Zaz (lst:p.sz.length≤9223372036854775807) (xs:List Int) (lx:xs.length≤100):Ctr Tryz.prog J 54 [.agg (cFm p),Zb xs] (bv (Rd.belB xs (p.sz.length:Int))):=by
 refine Zm Tryz.func54 rfl (pN (Zh (ZQ p)) (pN (ZM _) pZ)) (n:=22) rfl (by simp) (fun w0 => ?_)
 refine kW 22 [] [(0,.agg (cFm p)),(1,Zb xs)] (jB (oX 1 (.agg (cFm p)) (oS bF (jD (jB (oS (iv 0) (kN 22 (ZaV p) [(1,Zb xs),(2,bx 1),(4,bF),(5,iv 0)] (Ze (Zn ?_)))))))))
 refine ZK (σ:={k:Nat // k≤xs.length∧Rd.noP xs (Rd.outB (p.sz.length:Int)) k}) (fun s=>(ofL (ZaV p),ofT 22 [(1,Zb xs),(2,bx 1),(5,iv s.1)])) (fun s=>xs.length-s.1) ⟨0,Nat.zero_le _,Rd.noP_zero _ _⟩ (Zp _ _) (fun s => ?_)
 obtain ⟨k,hk0,hs0⟩:=s
 show ETri J w0 (ofL (ZaV p)) (ofT 22 [(1,Zb xs),(2,bx 1),(5,iv k)]) _
 refine jM ?_
 by_cases hs1:(k:Int)<(xs.length:Int)
 refine Za (oW (oW (oW (ol (dT hs1) (jH (Zq (jC (Zn (Zl ?_)))))))))
 by_cases hs2:(Rd.inW 0 ((p.sz.length:Int)-1) xs[k])=true
 refine tD (dS (Zb xs) (dS (iv k) (dC (xS (k*1) 12 13 U24) I0 I0 (dL (iv xs[k]) (Zw xs (by omega)) (dW (dW (dS (iv p.sz.length) (dC (KL (c:=(p.sz.length:Int)-1) rfl (w64 (by omega) (by omega) (by omega))) I0 I0 (dk (Zr Ku hs2) [iv xs[k],iv 0,iv ((p.sz.length:Int)-1)] rfl rfl (dS bF (eD ?_)))))))))))
 refine kW 22 (ZaV p) [(1,Zb xs),(2,bx 1),(5,iv k),(9,bT),(21,bF)] (Ze (ZD rfl (Zq (Zv (Ze (Za (oS (iv k) (oV ((k+1:Nat):Int) (oS (iv (k+1:Nat)) (kN 22 (ZaV p) [(1,Zb xs),(2,bx 1),(5,iv (k+1:Nat)),(9,bT),(21,bF)] (Ze ?_)))))))))))
 refine Zs ⟨k+1,by omega,Rd.noP_succ (by omega) hs0 (Rd.inW_in hs2 (by omega))⟩ (show xs.length-(k+1)<xs.length-k by omega) ?_
 exact Zp _ _
 have hs2f:(Rd.inW 0 ((p.sz.length:Int)-1) xs[k])=false:=by simpa using hs2
 refine tD (dS (Zb xs) (dS (iv k) (dC (xS (k*1) 12 13 U24) I0 I0 (dL (iv xs[k]) (Zw xs (by omega)) (dW (dW (dS (iv p.sz.length) (dC (KL (c:=(p.sz.length:Int)-1) rfl (w64 (by omega) (by omega) (by omega))) I0 I0 (dk (Zr Ku hs2f) [iv xs[k],iv 0,iv ((p.sz.length:Int)-1)] rfl rfl (dS bT (eD ?_)))))))))))
 refine kW 22 (ZaV p) [(1,Zb xs),(2,bx 1),(5,iv k),(9,bT),(21,bT)] (Ze (jK (oS bF (jE (Zo (Zd (Zd (Zo (Zd ?_)))))))))
 refine Zg Tryz.results54 (.tmp rfl) ?_
 exact cB ((Rd.bel_bad (by omega) (Rd.inW_out hs2f (by omega))).symm)
 refine Za (oW (oW (oW (ol (dF hs1) (jI (jO (jC (Za (oS bT (jE ?_))))))))))
 refine Zg Tryz.results54 (.tmp rfl) ?_
 exact cB ((Rd.bel_all (k:=k) (by omega) hs0).symm)
variable {m:Int}
theorem WX (xs:List Int) (lx:xs.length≤100) :Ctr Tryz.prog J 55 [Zb xs,iv m] (bv (decide ((xs.length:Int)=m)&&Rd.belB xs 1048577)):=by
 refine Zm Tryz.func55 rfl (pN (ZM _) (pN (.v _) pZ)) (n:=22) rfl (by simp) (fun w0 => ?_)
 refine kW 22 [] [(0,Zb xs),(1,iv m)] (jB (oS bF (jD (Zl ?_))))
 by_cases hs1:(xs.length:Int)=m
 refine Za (oW (oW (oW (on (dT' hs1) (jF (jM (Za (oS (iv 0) (kN 22 [] [(0,Zb xs),(4,bF),(5,iv 0)] (Ze (Zn ?_)))))))))))
 refine ZK (σ:={k:Nat // k≤xs.length∧Rd.noP xs (Rd.outB 1048577) k}) (fun s=>(ofL [],ofT 22 [(0,Zb xs),(5,iv s.1)])) (fun s=>xs.length-s.1) ⟨0,Nat.zero_le _,Rd.noP_zero _ _⟩ (Zp [] _) (fun s => ?_)
 obtain ⟨k,hk0,hs0⟩:=s
 show ETri J w0 (ofL []) (ofT 22 [(0,Zb xs),(5,iv k)]) _
 refine jM ?_
 by_cases hs2:(k:Int)<(xs.length:Int)
 refine Za (oW (oW (oW (ol (dT hs2) (jH (Zq (jC (Zn (Zl ?_)))))))))
 by_cases hs3:(Rd.inW 0 1048576 xs[k])=true
 refine Za (oS (Zb xs) (oS (iv k) (oC (xS (k*1) 16 17 U24) I0 I0 (oL (iv xs[k]) (Zw xs (by omega)) (oK (Zr Ku hs3) [iv xs[k],iv 0,iv 1048576] rfl rfl (oS bF (jI (Zq (Zv (Ze (Za (oS (iv k) (oV ((k+1:Nat):Int) (oS (iv (k+1:Nat)) (kN 22 [] [(0,Zb xs),(5,iv (k+1:Nat)),(13,bT),(21,bF)] (Ze ?_))))))))))))))))
 refine Zs ⟨k+1,by omega,Rd.noP_succ (by omega) hs0 (Rd.inW_in hs3 (by omega))⟩ (show xs.length-(k+1)<xs.length-k by omega) ?_
 exact Zp [] _
 have hs3f:(Rd.inW 0 1048576 xs[k])=false:=by simpa using hs3
 refine Za (oS (Zb xs) (oS (iv k) (oC (xS (k*1) 16 17 U24) I0 I0 (oL (iv xs[k]) (Zw xs (by omega)) (oK (Zr Ku hs3f) [iv xs[k],iv 0,iv 1048576] rfl rfl (oS bT (jG (oS bF (jE (Zo (Zd (Zd (Zo (Zd ?_))))))))))))))
 refine Zg Tryz.results55 (.tmp rfl) ?_
 exact cB ((by rw [Rd.bel_bad (by omega) (Rd.inW_out hs3f (by omega)),Bool.and_false]))
 refine Za (oW (oW (oW (ol (dF hs2) (jI (jO (jC (Za (oS bT (jE ?_))))))))))
 refine Zg Tryz.results55 (.tmp rfl) ?_
 exact cB ((by rw [Rd.bel_all (k:=k) (by omega) hs0,decide_eq_true hs1];rfl))
 refine Za (oW (oW (oW (on (dF' hs1) (jG (oS bF (jE (Zd ?_))))))))
 refine Zg Tryz.results55 (.tmp rfl) ?_
 exact cB ((by rw [decide_eq_false hs1];rfl))
theorem loose_c :Ctr Tryz.prog J 56 [.agg (cFm p)] (bv (Rd.looseB p)):=by
 refine Zm Tryz.func56 rfl (pN (Zh (ZQ p)) pZ) (n:=11) rfl (by simp) (fun w0 => ?_)
 refine kW 11 [] [(0,.agg (cFm p))] (jB (oX 1 (.agg (cFm p)) (oS bF (jD ?_))))
 by_cases hs1:p.fzz=1
 refine Za (oW (oW (oe (dT hs1) (oS bT (qK (qK (qK (oF bT (jE ?_)))))))))
 refine Zg Tryz.results56 (.tmp rfl) ?_
 exact cB ((by simp only [Rd.looseB,hs1,decide_true,decide_false,Bool.true_or,Bool.false_or,Bool.or_true]))
 refine Za (oW (oW (oe (dF hs1) (oS bF (oF (iv p.fzz) (gC (ZF rfl rfl) I0 I0 (oF (bv (decide (p.fzz=2))) (jE ?_))))))))
 refine Zg Tryz.results56 (.tmp rfl) ?_
 exact cB ((by simp only [Rd.looseB,hs1,decide_true,decide_false,Bool.true_or,Bool.false_or,Bool.or_true]))
theorem Sized_c (HP:FmOk p) :Ctr Tryz.prog J 31 [.agg (cFm p),.agg (cSz n t f)] (iv (Ns.sysE p n t f)):=by
 refine Zm Tryz.func31 rfl (pN (Zh (ZQ p)) (pN (Zh (Z0 n t f)) pZ)) (n:=18) rfl (by simp) (fun w0 => ?_)
 refine kW 18 [] [(0,.agg (cFm p)),(1,.agg (cSz n t f))] (jB (oX 1 (.agg (cFm p)) (oX 2 (.agg (cSz n t f)) (oS (iv 0) (jD (jB (oW (oK (ZeH HP) [.agg (cFm p)] rfl rfl (oS (iv (valE p)) (jD ?_))))))))))
 by_cases hs1:valE p=0
 refine Za (oW (on (dT' hs1) (jF (jM ?_))))
 by_cases hs2:(admB p n t f)=true
 refine Za (oW (oW (oK (Zr (ZaC HP n t f) hs2) [.agg (cFm p),.agg (cSz n t f)] rfl rfl (oS bF (jF (jM ?_))))))
 by_cases hs3:8<n
 refine Za (oW (oW (og (dT hs3) (kN 18 [] [(4,iv 0),(17,bT)] (Ze (jK (oS (iv 4) (jE (Zd ?_)))))))))
 refine Zg Tryz.results31 (.tmp rfl) ?_
 rw [Ns.sys_e3 hs1 hs2 hs3]
 exact rfl
 refine Za (oW (oW (og (dF hs3) (kN 18 [] [(4,iv 0),(17,bF)] (jJ (jB (oS (iv 0) (jE ?_))))))))
 refine Zg Tryz.results31 (.tmp rfl) ?_
 rw [Ns.sys_e4 hs1 hs2 hs3]
 exact rfl
 have hs2f:(admB p n t f)=false:=by simpa using hs2
 refine Za (oW (oW (oK (Zr (ZaC HP n t f) hs2f) [.agg (cFm p),.agg (cSz n t f)] rfl rfl (oS bT (jG (oS (iv 8) (jE (Zd ?_))))))))
 refine Zg Tryz.results31 (.tmp rfl) ?_
 rw [Ns.sys_e2 hs1 hs2f]
 exact rfl
 refine Za (oW (on (dF' hs1) (jG (oF (iv (valE p)) (jE (Zd ?_))))))
 refine Zg Tryz.results31 (.tmp rfl) ?_
 rw [Ns.sys_e1 hs1]
 exact rfl
theorem Wf (hai:1≤n∧n≤1048576∧0≤f∧f≤n):Ctr Tryz.prog J 53 [.agg (cFm p),.agg (cSz n t f)] (iv (Ns.cntE p n f)):=by
 refine Zm Tryz.func53 rfl (pN (Zh (ZQ p)) (pN (Zh (Z0 n t f)) pZ)) (n:=15) rfl (by simp) (fun w0 => ?_)
 refine kW 15 [] [(0,.agg (cFm p)),(1,.agg (cSz n t f))] (jB (oX 1 (.agg (cFm p)) (oX 2 (.agg (cSz n t f)) (oS (iv 0) (jD (Zl ?_))))))
 by_cases hs1:p.fzz=3
 refine Za (oW (oW (oe (dT hs1) (jG (oF (iv n) (oF (iv f) (oU (n-f) (oS (iv (n-f)) (jE (Zd ?_))))))))))
 refine Zg Tryz.results53 (.tmp rfl) ?_
 rw [show Ns.cntE p n f=n-f from if_pos hs1]
 exact rfl
 refine Za (oW (oW (oe (dF hs1) (jF (jB (oW (oF (iv n) (jE ?_))))))))
 refine Zg Tryz.results53 (.tmp rfl) ?_
 rw [show Ns.cntE p n f=n from if_neg hs1]
 exact rfl
set_option maxRecDepth 100000 in
set_option maxHeartbeats 6400000 in
theorem ZcJ (HP:FmOk p) (HC:Rd.CgOk c) (hai:1≤n∧n≤1048576∧0≤f∧f≤n) (g0:¬ ((c.st.length:Int)=(Ns.cntE p n f))):Ctr Tryz.prog J 32 [.agg (cFm p),.agg (cSz n t f),.agg (Rd.cCg c)] (bv (Rd.rvB p n f c)):=by
 have hlv:=HP.lvals
 have hlf:=HC.lfa
 refine Zm Tryz.func32 rfl (pN (Zh (ZQ p)) (pN (Zh (Z0 n t f)) (pN (Zh (Rd.plain_cg c)) pZ))) (n:=95) rfl (by simp) (fun w0 => ?_)
 refine kW 95 [] [(0,.agg (cFm p)),(1,.agg (cSz n t f)),(2,.agg (Rd.cCg c))] (jB (oX 1 (.agg (cFm p)) (oX 2 (.agg (cSz n t f)) (oX 3 (.agg (Rd.cCg c)) (oS bF (jD (Zl ?_)))))))
 refine tD (dW (dW (dS (iv c.st.length) (dW (dW (dk (Wf hai) [.agg (cFm p),.agg (cSz n t f)] rfl rfl (dC (Yq rfl (dF' g0)) I0 I0 (dS bT (dK (dK (dK (dK (dK (dW (dS bT (dK (dK (dK (dK (dK (dK (dK (dK (dW (dS bT (dK (dK (dK (dK (dK (dK (dK (dW (dS bT (dK (dK (dK (dK (dK (dK (dK (dS bT (eD ?_)))))))))))))))))))))))))))))))))))))))))))
 refine kW 95 [(1,.box 27 (cFm p)),(2,.box 29 (cSz n t f)),(3,.box 31 (Rd.cCg c))] [(3,bx 1),(4,bx 2),(5,bx 3),(6,bF),(49,bT)] (Ze (jK (oS bF (jE (Zd ?_)))))
 refine Zg Tryz.results32 (.tmp rfl) ?_
 exact cB ((by simp only [Rd.rvB,g0,decide_true,decide_false,Bool.and_true,Bool.true_and,Bool.false_and,Bool.and_false,Bool.not_true,Bool.not_false,if_true,if_false,eq_self,ite_true,ite_false]))
set_option maxRecDepth 100000 in
set_option maxHeartbeats 6400000 in
theorem ZcI (HP:FmOk p) (HC:Rd.CgOk c) (hai:1≤n∧n≤1048576∧0≤f∧f≤n) (g0:(c.st.length:Int)=(Ns.cntE p n f)) (g1:Rd.belB c.st (p.sz.length:Int)=false):Ctr Tryz.prog J 32 [.agg (cFm p),.agg (cSz n t f),.agg (Rd.cCg c)] (bv (Rd.rvB p n f c)):=by
 have hlv:=HP.lvals
 have hlf:=HC.lfa
 refine Zm Tryz.func32 rfl (pN (Zh (ZQ p)) (pN (Zh (Z0 n t f)) (pN (Zh (Rd.plain_cg c)) pZ))) (n:=95) rfl (by simp) (fun w0 => ?_)
 refine kW 95 [] [(0,.agg (cFm p)),(1,.agg (cSz n t f)),(2,.agg (Rd.cCg c))] (jB (oX 1 (.agg (cFm p)) (oX 2 (.agg (cSz n t f)) (oX 3 (.agg (Rd.cCg c)) (oS bF (jD (Zl ?_)))))))
 refine tD (dW (dW (dS (iv c.st.length) (dW (dW (dk (Wf hai) [.agg (cFm p),.agg (cSz n t f)] rfl rfl (dC (Yq rfl (dT' g0)) I0 I0 (dS bF (dW (dW (dW (dk (Zr (Zaz HP.lstates c.st HC.lst) g1) [.agg (cFm p),Zb c.st] rfl rfl (dW (dW (dS bT (dK (dK (dK (dK (dK (dK (dK (dK (dW (dS bT (dK (dK (dK (dK (dK (dK (dK (dW (dS bT (dK (dK (dK (dK (dK (dK (dK (dS bT (eD ?_)))))))))))))))))))))))))))))))))))))))))))
 refine kW 95 [(1,.box 27 (cFm p)),(2,.box 29 (cSz n t f)),(3,.box 31 (Rd.cCg c))] [(3,bx 1),(4,bx 2),(5,bx 3),(6,bF),(49,bT)] (Ze (jK (oS bF (jE (Zd ?_)))))
 refine Zg Tryz.results32 (.tmp rfl) ?_
 exact cB ((by simp only [Rd.rvB,g0,g1,decide_true,decide_false,Bool.and_true,Bool.true_and,Bool.false_and,Bool.and_false,Bool.not_true,Bool.not_false,if_true,if_false,eq_self,ite_true,ite_false]))
set_option maxRecDepth 100000 in
set_option maxHeartbeats 6400000 in
theorem ZcH (HP:FmOk p) (HC:Rd.CgOk c) (hai:1≤n∧n≤1048576∧0≤f∧f≤n) (g0:(c.st.length:Int)=(Ns.cntE p n f)) (g1:Rd.belB c.st (p.sz.length:Int)=true) (g2:¬ (c.cor=n-f)):Ctr Tryz.prog J 32 [.agg (cFm p),.agg (cSz n t f),.agg (Rd.cCg c)] (bv (Rd.rvB p n f c)):=by
 have hlv:=HP.lvals
 have hlf:=HC.lfa
 refine Zm Tryz.func32 rfl (pN (Zh (ZQ p)) (pN (Zh (Z0 n t f)) (pN (Zh (Rd.plain_cg c)) pZ))) (n:=95) rfl (by simp) (fun w0 => ?_)
 refine kW 95 [] [(0,.agg (cFm p)),(1,.agg (cSz n t f)),(2,.agg (Rd.cCg c))] (jB (oX 1 (.agg (cFm p)) (oX 2 (.agg (cSz n t f)) (oX 3 (.agg (Rd.cCg c)) (oS bF (jD (Zl ?_)))))))
 refine tD (dW (dW (dS (iv c.st.length) (dW (dW (dk (Wf hai) [.agg (cFm p),.agg (cSz n t f)] rfl rfl (dC (Yq rfl (dT' g0)) I0 I0 (dS bF (dW (dW (dW (dk (Zr (Zaz HP.lstates c.st HC.lst) g1) [.agg (cFm p),Zb c.st] rfl rfl (dW (dW (dS bF (dW (dS (iv c.cor) (dW (dS (iv n) (dW (dS (iv f) (dC (KL (c:=n-f) rfl (w64 (by omega) (by omega) (by omega))) I0 I0 (dC (Yq rfl (dF' g2)) I0 I0 (dW (dS bT (dK (dK (dK (dK (dK (dK (dK (dW (dS bT (dK (dK (dK (dK (dK (dK (dK (dS bT (eD ?_)))))))))))))))))))))))))))))))))))))))))))
 refine kW 95 [(1,.box 27 (cFm p)),(2,.box 29 (cSz n t f)),(3,.box 31 (Rd.cCg c))] [(3,bx 1),(4,bx 2),(5,bx 3),(6,bF),(49,bT)] (Ze (jK (oS bF (jE (Zd ?_)))))
 refine Zg Tryz.results32 (.tmp rfl) ?_
 exact cB ((by simp only [Rd.rvB,g0,g1,g2,decide_true,decide_false,Bool.and_true,Bool.true_and,Bool.false_and,Bool.and_false,Bool.not_true,Bool.not_false,if_true,if_false,eq_self,ite_true,ite_false]))
set_option maxRecDepth 100000 in
set_option maxHeartbeats 6400000 in
theorem ZcG (HP:FmOk p) (HC:Rd.CgOk c) (hai:1≤n∧n≤1048576∧0≤f∧f≤n) (g0:(c.st.length:Int)=(Ns.cntE p n f)) (g1:Rd.belB c.st (p.sz.length:Int)=true) (g2:c.cor=n-f) (g3:(decide ((c.se.length:Int)=(p.msgs.length:Int))&&Rd.belB c.se 1048577)=false):Ctr Tryz.prog J 32 [.agg (cFm p),.agg (cSz n t f),.agg (Rd.cCg c)] (bv (Rd.rvB p n f c)):=by
 have hlv:=HP.lvals
 have hlf:=HC.lfa
 refine Zm Tryz.func32 rfl (pN (Zh (ZQ p)) (pN (Zh (Z0 n t f)) (pN (Zh (Rd.plain_cg c)) pZ))) (n:=95) rfl (by simp) (fun w0 => ?_)
 refine kW 95 [] [(0,.agg (cFm p)),(1,.agg (cSz n t f)),(2,.agg (Rd.cCg c))] (jB (oX 1 (.agg (cFm p)) (oX 2 (.agg (cSz n t f)) (oX 3 (.agg (Rd.cCg c)) (oS bF (jD (Zl ?_)))))))
 refine tD (dW (dW (dS (iv c.st.length) (dW (dW (dk (Wf hai) [.agg (cFm p),.agg (cSz n t f)] rfl rfl (dC (Yq rfl (dT' g0)) I0 I0 (dS bF (dW (dW (dW (dk (Zr (Zaz HP.lstates c.st HC.lst) g1) [.agg (cFm p),Zb c.st] rfl rfl (dW (dW (dS bF (dW (dS (iv c.cor) (dW (dS (iv n) (dW (dS (iv f) (dC (KL (c:=n-f) rfl (w64 (by omega) (by omega) (by omega))) I0 I0 (dC (Yq rfl (dT' g2)) I0 I0 (dW (dS bF (dW (dW (dW (dW (dW (dk (Zr (WX c.se HC.lse) g3) [Zb c.se,iv p.msgs.length] rfl rfl (dW (dW (dS bT (dK (dK (dK (dK (dK (dK (dK (dS bT (eD ?_)))))))))))))))))))))))))))))))))))))))))))
 refine kW 95 [(1,.box 27 (cFm p)),(2,.box 29 (cSz n t f)),(3,.box 31 (Rd.cCg c))] [(3,bx 1),(4,bx 2),(5,bx 3),(6,bF),(49,bT)] (Ze (jK (oS bF (jE (Zd ?_)))))
 refine Zg Tryz.results32 (.tmp rfl) ?_
 exact cB ((by simp only [Rd.rvB,g0,g1,g2,g3,decide_true,decide_false,Bool.and_true,Bool.true_and,Bool.false_and,Bool.and_false,Bool.not_true,Bool.not_false,if_true,if_false,eq_self,ite_true,ite_false]))
set_option maxRecDepth 100000 in
set_option maxHeartbeats 6400000 in
theorem ZcF (HP:FmOk p) (HC:Rd.CgOk c) (hai:1≤n∧n≤1048576∧0≤f∧f≤n) (g0:(c.st.length:Int)=(Ns.cntE p n f)) (g1:Rd.belB c.st (p.sz.length:Int)=true) (g2:c.cor=n-f) (g3:(decide ((c.se.length:Int)=(p.msgs.length:Int))&&Rd.belB c.se 1048577)=true) (g4:(decide ((c.fa.length:Int)=(p.msgs.length:Int))&&Rd.belB c.fa 1048577)=false):Ctr Tryz.prog J 32 [.agg (cFm p),.agg (cSz n t f),.agg (Rd.cCg c)] (bv (Rd.rvB p n f c)):=by
 have hlv:=HP.lvals
 have hlf:=HC.lfa
 refine Zm Tryz.func32 rfl (pN (Zh (ZQ p)) (pN (Zh (Z0 n t f)) (pN (Zh (Rd.plain_cg c)) pZ))) (n:=95) rfl (by simp) (fun w0 => ?_)
 refine kW 95 [] [(0,.agg (cFm p)),(1,.agg (cSz n t f)),(2,.agg (Rd.cCg c))] (jB (oX 1 (.agg (cFm p)) (oX 2 (.agg (cSz n t f)) (oX 3 (.agg (Rd.cCg c)) (oS bF (jD (Zl ?_)))))))
 refine tD (dW (dW (dS (iv c.st.length) (dW (dW (dk (Wf hai) [.agg (cFm p),.agg (cSz n t f)] rfl rfl (dC (Yq rfl (dT' g0)) I0 I0 (dS bF (dW (dW (dW (dk (Zr (Zaz HP.lstates c.st HC.lst) g1) [.agg (cFm p),Zb c.st] rfl rfl (dW (dW (dS bF (dW (dS (iv c.cor) (dW (dS (iv n) (dW (dS (iv f) (dC (KL (c:=n-f) rfl (w64 (by omega) (by omega) (by omega))) I0 I0 (dC (Yq rfl (dT' g2)) I0 I0 (dW (dS bF (dW (dW (dW (dW (dW (dk (Zr (WX c.se HC.lse) g3) [Zb c.se,iv p.msgs.length] rfl rfl (dW (dW (dS bF (dW (dW (dW (dW (dW (dk (Zr (WX c.fa HC.lfa) g4) [Zb c.fa,iv p.msgs.length] rfl rfl (dW (dS bT (eD ?_)))))))))))))))))))))))))))))))))))))))))))
 refine kW 95 [(1,.box 27 (cFm p)),(2,.box 29 (cSz n t f)),(3,.box 31 (Rd.cCg c))] [(3,bx 1),(4,bx 2),(5,bx 3),(6,bF),(49,bT)] (Ze (jK (oS bF (jE (Zd ?_)))))
 refine Zg Tryz.results32 (.tmp rfl) ?_
 exact cB ((by simp only [Rd.rvB,g0,g1,g2,g3,g4,decide_true,decide_false,Bool.and_true,Bool.true_and,Bool.false_and,Bool.and_false,Bool.not_true,Bool.not_false,if_true,if_false,eq_self,ite_true,ite_false]))
abbrev ZaU (x0:Fm) (x1:Int) (x2:Int) (x3:Int) (x4:Cf):List (Nat × ABlk):=[(1,.box 27 (cFm x0)),(2,.box 29 (cSz x1 x2 x3)),(3,.box 31 (Rd.cCg x4))]
abbrev XRw5_h2 (x0:Nat):List (Nat × AV):=[(3,bx 1),(4,bx 2),(5,bx 3),(7,iv (x0+1:Nat)),(54,bT),(67,bF)]
set_option maxRecDepth 100000 in
set_option maxHeartbeats 6400000 in
theorem ZcE (HP:FmOk p) (HC:Rd.CgOk c) (hai:1≤n∧n≤1048576∧0≤f∧f≤n) (g0:(c.st.length:Int)=(Ns.cntE p n f)) (g1:Rd.belB c.st (p.sz.length:Int)=true) (g2:c.cor=n-f) (g3:(decide ((c.se.length:Int)=(p.msgs.length:Int))&&Rd.belB c.se 1048577)=true) (g4:(decide ((c.fa.length:Int)=(p.msgs.length:Int))&&Rd.belB c.fa 1048577)=true):Ctr Tryz.prog J 32 [.agg (cFm p),.agg (cSz n t f),.agg (Rd.cCg c)] (bv (Rd.rvB p n f c)):=by
 have hlv:=HP.lvals
 have hlf:=HC.lfa
 refine Zm Tryz.func32 rfl (pN (Zh (ZQ p)) (pN (Zh (Z0 n t f)) (pN (Zh (Rd.plain_cg c)) pZ))) (n:=95) rfl (by simp) (fun w0 => ?_)
 refine kW 95 [] [(0,.agg (cFm p)),(1,.agg (cSz n t f)),(2,.agg (Rd.cCg c))] (jB (oX 1 (.agg (cFm p)) (oX 2 (.agg (cSz n t f)) (oX 3 (.agg (Rd.cCg c)) (oS bF (jD (Zl ?_)))))))
 refine tD (dW (dW (dS (iv c.st.length) (dW (dW (dk (Wf hai) [.agg (cFm p),.agg (cSz n t f)] rfl rfl (dC (Yq rfl (dT' g0)) I0 I0 (dS bF (dW (dW (dW (dk (Zr (Zaz HP.lstates c.st HC.lst) g1) [.agg (cFm p),Zb c.st] rfl rfl (dW (dW (dS bF (dW (dS (iv c.cor) (dW (dS (iv n) (dW (dS (iv f) (dC (KL (c:=n-f) rfl (w64 (by omega) (by omega) (by omega))) I0 I0 (dC (Yq rfl (dT' g2)) I0 I0 (dW (dS bF (dW (dW (dW (dW (dW (dk (Zr (WX c.se HC.lse) g3) [Zb c.se,iv p.msgs.length] rfl rfl (dW (dW (dS bF (dW (dW (dW (dW (dW (dk (Zr (WX c.fa HC.lfa) g4) [Zb c.fa,iv p.msgs.length] rfl rfl (dW (dS bF (eD ?_)))))))))))))))))))))))))))))))))))))))))))
 refine kW 95 (ZaU p n t f c) [(3,bx 1),(4,bx 2),(5,bx 3),(6,bF),(49,bF)] (jJ (jM (Za (oS (iv 0) (kN 95 (ZaU p n t f c) [(3,bx 1),(4,bx 2),(5,bx 3),(6,bF),(7,iv 0)] (Ze (Zn ?_)))))))
 refine ZK (σ:={k:Nat // k≤c.fa.length∧Rd.noP c.fa (Rd.badF p) k}) (fun s=>(ofL (ZaU p n t f c),ofT 95 [(3,bx 1),(4,bx 2),(5,bx 3),(7,iv s.1)])) (fun s=>c.fa.length-s.1) ⟨0,Nat.zero_le _,Rd.noP_zero _ _⟩ (Zp _ _) (fun s => ?_)
 obtain ⟨k,hk0,hs0⟩:=s
 show ETri J w0 (ofL (ZaU p n t f c)) (ofT 95 [(3,bx 1),(4,bx 2),(5,bx 3),(7,iv k)]) _
 refine jM ?_
 by_cases hs1:(k:Int)<(c.fa.length:Int)
 refine Za (oW (oW (oW (oW (ol (dT hs1) (jH (Zq (jC (Zn (Zl ?_))))))))))
 by_cases hs2:c.fa[k]=0
 refine Za (oF (Zb c.fa) (oS (iv k) (oC (xS (k*1) 58 59 U24) I0 I0 (oL (iv c.fa[k]) (Zw c.fa (by omega)) (on (dT' hs2) (oS bF (qK (qK (qK (oS bF (jI (Zq (Zv (Ze (Za (oS (iv k) (oV ((k+1:Nat):Int) (oS (iv (k+1:Nat)) (kN 95 (ZaU p n t f c) (XRw5_h2 k) (Ze ?_))))))))))))))))))))
 refine Zs ⟨k+1,by omega,Rd.noP_succ (by omega) hs0 (Rd.badF_z hs2)⟩ (show c.fa.length-(k+1)<c.fa.length-k by omega) ?_
 exact Zp _ _
 by_cases hs3:(Rd.looseB p)=true
 refine Za (oF (Zb c.fa) (oS (iv k) (oC (xS (k*1) 58 59 U24) I0 I0 (oL (iv c.fa[k]) (Zw c.fa (by omega)) (on (dF' hs2) (oS bT (oW (oK (Zr loose_c hs3) [.agg (cFm p)] rfl rfl (oW (oS bF (jI (Zq (Zv (Ze (Za (oS (iv k) (oV ((k+1:Nat):Int) (oS (iv (k+1:Nat)) (kN 95 (ZaU p n t f c) (XRw5_h2 k) (Ze ?_))))))))))))))))))))
 refine Zs ⟨k+1,by omega,Rd.noP_succ (by omega) hs0 (Rd.badF_l hs3)⟩ (show c.fa.length-(k+1)<c.fa.length-k by omega) ?_
 exact Zp _ _
 have hs3f:(Rd.looseB p)=false:=by simpa using hs3
 refine Za (oF (Zb c.fa) (oS (iv k) (oC (xS (k*1) 58 59 U24) I0 I0 (oL (iv c.fa[k]) (Zw c.fa (by omega)) (on (dF' hs2) (oS bT (oW (oK (Zr loose_c hs3f) [.agg (cFm p)] rfl rfl (oW (oS bT (jG (oS bF (jE (Zo (Zd (Zd (Zo ?_)))))))))))))))))
 refine Zd ?_
 refine Zg Tryz.results32 (.tmp rfl) ?_
 have hF:c.fa.any (Rd.badF p)=true:=Rd.any_one (by omega) (Rd.badF_y hs2 hs3f)
 exact cB ((by simp only [Rd.rvB,g0,g1,g2,g3,g4,hF,decide_true,decide_false,Bool.and_true,Bool.true_and,Bool.false_and,Bool.and_false,Bool.not_true,Bool.not_false,if_true,if_false,eq_self,ite_true,ite_false]))
 refine Za (oW (oW (oW (oW (ol (dF hs1) (jI (jO (jC (Zl ?_)))))))))
 by_cases hs4:(Rd.inW 0 (max 0 ((p.vals.length:Int)-1)) c.val)=true
 refine Za (oW (oW (oW (oF (iv p.vals.length) (oU ((p.vals.length:Int)-1) (oC (Zdv (.const (.int .i64 0)) (.tmp 73) rfl) I0 I0 (oK (Zr Ku hs4) [iv c.val,iv 0,iv (max 0 ((p.vals.length:Int)-1))] rfl rfl (oS bF (jF (jM ?_))))))))))
 by_cases hs5:p.top=4
 refine Za (oW (oW (oe (dT hs5) (jH (Zl ?_)))))
 by_cases hs6:(c.sh.length:Int)=n
 refine Za (oW (oW (oW (oW (oW (oe (dT hs6) (oS bT (oW (oW (oK (Rd.IsShape_c HC.sh HC.lsh) [Zb c.sh] rfl rfl (oF (bv (shp c.sh)) (jE (Zd ?_)))))))))))))
 refine Zg Tryz.results32 (.tmp rfl) ?_
 have hF:c.fa.any (Rd.badF p)=false:=Rd.any_none (k:=k) (by omega) hs0
 exact cB ((by simp only [Rd.rvB,g0,g1,g2,g3,g4,hs4,hs5,hs6,hF,decide_true,decide_false,Bool.and_true,Bool.true_and,Bool.false_and,Bool.and_false,Bool.not_true,Bool.not_false,if_true,if_false,eq_self,ite_true,ite_false]))
 refine Za (oW (oW (oW (oW (oW (oe (dF hs6) (oS bF (qK (qK (qK (oF bF (jE (Zd ?_)))))))))))))
 refine Zg Tryz.results32 (.tmp rfl) ?_
 have hF:c.fa.any (Rd.badF p)=false:=Rd.any_none (k:=k) (by omega) hs0
 exact cB ((by simp only [Rd.rvB,g0,g1,g2,g3,g4,hs4,hs5,hs6,hF,decide_true,decide_false,Bool.and_true,Bool.true_and,Bool.false_and,Bool.and_false,Bool.not_true,Bool.not_false,if_true,if_false,eq_self,ite_true,ite_false]))
 refine Za (oW (oW (oe (dF hs5) (jF (jB (oW (oF (iv c.sh.length) (oC (ZF rfl rfl) I0 I0 (oS (bv (decide ((c.sh.length:Int)=0))) (jE ?_))))))))))
 refine Zg Tryz.results32 (.tmp rfl) ?_
 have hF:c.fa.any (Rd.badF p)=false:=Rd.any_none (k:=k) (by omega) hs0
 exact cB ((by simp only [Rd.rvB,g0,g1,g2,g3,g4,hs4,hs5,hF,decide_true,decide_false,Bool.and_true,Bool.true_and,Bool.false_and,Bool.and_false,Bool.not_true,Bool.not_false,if_true,if_false,eq_self,ite_true,ite_false]))
 have hs4f:(Rd.inW 0 (max 0 ((p.vals.length:Int)-1)) c.val)=false:=by simpa using hs4
 refine Za (oW (oW (oW (oF (iv p.vals.length) (oU ((p.vals.length:Int)-1) (oC (Zdv (.const (.int .i64 0)) (.tmp 73) rfl) I0 I0 (oK (Zr Ku hs4f) [iv c.val,iv 0,iv (max 0 ((p.vals.length:Int)-1))] rfl rfl (oS bT (jG (oS bF (jE (Zd ?_))))))))))))
 refine Zg Tryz.results32 (.tmp rfl) ?_
 have hF:c.fa.any (Rd.badF p)=false:=Rd.any_none (k:=k) (by omega) hs0
 exact cB ((by simp only [Rd.rvB,g0,g1,g2,g3,g4,hs4f,hF,decide_true,decide_false,Bool.and_true,Bool.true_and,Bool.false_and,Bool.and_false,Bool.not_true,Bool.not_false,if_true,if_false,eq_self,ite_true,ite_false]))
theorem Zav (HP:FmOk p) (HC:Rd.CgOk c) (hai:1≤n∧n≤1048576∧0≤f∧f≤n):Ctr Tryz.prog J 32 [.agg (cFm p),.agg (cSz n t f),.agg (Rd.cCg c)] (bv (Rd.rvB p n f c)):=by
 by_cases g0:(c.st.length:Int)=(Ns.cntE p n f)
 case neg=>exact ZcJ HP HC hai  g0
 by_cases g1:Rd.belB c.st (p.sz.length:Int)=true
 case neg=>exact ZcI HP HC hai g0 (by simpa only [Bool.not_eq_true] using g1)
 by_cases g2:c.cor=n-f
 case neg=>exact ZcH HP HC hai g0 g1 g2
 by_cases g3:(decide ((c.se.length:Int)=(p.msgs.length:Int))&&Rd.belB c.se 1048577)=true
 case neg=>exact ZcG HP HC hai g0 g1 g2 (by simpa only [Bool.not_eq_true] using g3)
 by_cases g4:(decide ((c.fa.length:Int)=(p.msgs.length:Int))&&Rd.belB c.fa 1048577)=true
 case neg=>exact ZcF HP HC hai g0 g1 g2 g3 (by simpa only [Bool.not_eq_true] using g4)
 exact ZcE HP HC hai g0 g1 g2 g3 g4
set_option maxRecDepth 100000 in
set_option maxHeartbeats 6400000 in
theorem Zb6 (HP:FmOk p) (HC:Rd.CgOk c):Ctr Tryz.prog J 25 [.agg (cFm p),.agg (cSz n t f),.agg (Rd.cCg c)] (iv (Rd.vcE p n t f c)):=by
 refine Zm Tryz.func25 rfl (pN (Zh (ZQ p)) (pN (Zh (Z0 n t f)) (pN (Zh (Rd.plain_cg c)) pZ))) (n:=19) rfl (by simp) (fun w0 => ?_)
 refine kW 19 [] [(0,.agg (cFm p)),(1,.agg (cSz n t f)),(2,.agg (Rd.cCg c))] (jB (oX 1 (.agg (cFm p)) (oX 2 (.agg (cSz n t f)) (oX 3 (.agg (Rd.cCg c)) (oS (iv 0) (jD (jB (oW (oW (oK (Sized_c HP) [.agg (cFm p),.agg (cSz n t f)] rfl rfl (oS (iv (Ns.sysE p n t f)) (jD ?_))))))))))))
 by_cases hs1:(Ns.sysE p n t f)=0
 refine Za (oW (on (dT' hs1) (jF (jM ?_))))
 by_cases hs2:(Rd.rvB p n f c)=true
 refine Za (oW (oW (oW (oK (Zr (Zav HP HC (Ns.adm_in (Ns.sys_ok hs1).2.1)) hs2) [.agg (cFm p),.agg (cSz n t f),.agg (Rd.cCg c)] rfl rfl (oS bF (kN 19 [] [(6,iv 0),(18,bF)] (jJ (jB (oS (iv 0) (jE ?_))))))))))
 refine Zg Tryz.results25 (.tmp rfl) ?_
 have hx:Rd.rdX p n f c=true:=by rw [← Rd.rv_rd hs1];simpa using hs2
 have hr:Rd.vcE p n t f c=0:=by unfold Rd.vcE;rw [if_pos hs1,hx];rfl
 rw [hr]
 exact rfl
 have hs2f:(Rd.rvB p n f c)=false:=by simpa using hs2
 refine Za (oW (oW (oW (oK (Zr (Zav HP HC (Ns.adm_in (Ns.sys_ok hs1).2.1)) hs2f) [.agg (cFm p),.agg (cSz n t f),.agg (Rd.cCg c)] rfl rfl (oS bT (kN 19 [] [(6,iv 0),(18,bT)] (Ze (jK (oS (iv 1) (jE (Zd ?_)))))))))))
 refine Zg Tryz.results25 (.tmp rfl) ?_
 have hx:Rd.rdX p n f c=false:=by rw [← Rd.rv_rd hs1];simpa using hs2f
 have hr:Rd.vcE p n t f c=1:=by unfold Rd.vcE;rw [if_pos hs1,hx];rfl
 rw [hr]
 exact rfl
 refine Za (oW (on (dF' hs1) (jG (oF (iv (Ns.sysE p n t f)) (jE (Zd ?_))))))
 refine Zg Tryz.results25 (.tmp rfl) ?_
 have hr:Rd.vcE p n t f c=Ns.sysE p n t f:=by unfold Rd.vcE;rw [if_neg hs1]
 rw [hr]
 exact rfl
theorem Kd (xs:List Int) (hx:xs.length≤17592186044416):Ctr Tryz.prog J 21 [Zb xs] (Zb xs):=by
 refine Zm Tryz.func21 rfl (by intro X hX;simp at hX;subst hX;exact ZM _) (n:=6) rfl (by simp) (fun w0 => ?_)
 refine kW 6 [] [(0,Zb xs)] (jB (oS (nz) (jD (Za (Yz rfl (Zbt (z:=1) (k:=1) true rfl U24 (by kernel_rfl)) T0 T0 rfl (oS (Zb xs) (Yz rfl (WU (n:=0) (cs:=[]) (fr:=true) (m:=xs.length) (ds:=(xs.map iv)) (⟨U24,by kernel_rfl,by decide⟩:Elt Tryz.prog 24 3 1 8) (.tmp 3) (.tmp 4) rfl (fun _ d hd=>by obtain ⟨x,_,rfl⟩:=List.mem_map.1 hd;rfl) (by unfold maxLen;omega) (by omega) (fun d hd=>by obtain ⟨x,_,rfl⟩:=List.mem_map.1 hd;rfl) (es:=(xs.map iv)) (by rw [Zdq];rfl)) ⟨I0,I0,T0⟩ ⟨rfl,T0⟩ rfl (oS (.own 1) (jE ?_)))))))))
 refine Zg Tryz.results21 (.tmp rfl) ?_
 show AV.sl 1 (0+xs.length) (xs.map iv)=Zb xs
 rw [Nat.zero_add];rfl
theorem CopyCf_c (HC:Rd.CgOk c):Ctr Tryz.prog J 8 [.agg (Rd.cCg c)] (.agg (Rd.cCg c)):=by
 refine Zm Tryz.func8 rfl (pN (Zh (Rd.plain_cg c)) pZ) (n:=20) rfl (by simp) (fun w0 => ?_)
 refine kW 20 [] [(0,.agg (Rd.cCg c))] (jB (oX 1 (.agg (Rd.cCg c)) (oZ 2 Z31 (jD ?_))))
 refine tD (dW (dW (dk (Kd c.sh (Nat.le_trans HC.lsh (by decide))) [Zb c.sh] rfl rfl (dW (dW (dk (Kd c.st (Nat.le_trans HC.lst (by decide))) [Zb c.st] rfl rfl (dW (dS (iv c.cor) (dW (dW (dk (Kd c.se (Nat.le_trans HC.lse (by decide))) [Zb c.se] rfl rfl (dW (dW (dk (Kd c.fa (Nat.le_trans HC.lfa (by decide))) [Zb c.fa] rfl rfl (dW (dS (iv c.val) (dR (Zbu [0,1,2,3,4,5] [.tmp 5,.tmp 8,.tmp 10,.tmp 13,.tmp 16,.tmp 18] [.fr (Zb c.sh),.fr (Zb c.st),iv c.cor,.fr (Zb c.se),.fr (Zb c.fa),iv c.val] [.inr 0,.inr 1,.inr 2,.inr 3,.inr 4,.inr 5] rfl rfl rfl rfl rfl (fun _=>by kernel_rfl) rfl (ds:=[.fr (Zb c.sh),.fr (Zb c.st),iv c.cor,.fr (Zb c.se),.fr (Zb c.fa),iv c.val]) rfl) ⟨I0,I0,I0,I0,I0,I0,T0⟩ T0 T0 (dY (eD ?_)))))))))))))))))))
 refine kW 20 [(2,.box 31 [.fr (Zb c.sh),.fr (Zb c.st),iv c.cor,.fr (Zb c.se),.fr (Zb c.fa),iv c.val])] [(2,bx 2)] (Ze (ZV ?_))
 refine Zg Tryz.results8 (.cellS rfl rfl U31 rfl (z:=6) (by kernel_rfl) rfl (by decide)) ?_
 exact rfl
variable {ρ:Names}{B:Nat}{w:World}
theorem Rel.bsl_part {k off n:Nat} {x:Value} (h:Rel ρ B w (.bsl k off n) x):∃ nm,ρ k=some nm∧PartV nm off n x:=by
 cases h with
 | pu h=>cases h
 | bsl h hx=>exact ⟨_,h,hx⟩
section
variable {P:Program} {o:Oper}
end
section
variable {P:Program} {o:Oper}
variable {cs:List AV}{off:Nat}{v:Value}
theorem rel_el (h:Rel ρ B w (.el cs off) v) :
 ∃ b base,∃ f:Nat→Value,v = .pointer (some ⟨b,base+off,none⟩)∧okOf ρ b∧b<w.heap.size∧(∀ j,j<cs.length→w.cell? ⟨b,base+j,none⟩=some (f j))∧∀ j (hj:j<cs.length),Pu (B ≤ ·) w (okOf ρ) cs[j] (f j):=by
 cases h with
 | pu h=>cases h with | el hb hw hf h=>exact ⟨_,_,_,rfl,hb,hw,hf,h⟩
theorem ZZ {t e:TypeId} {z len off off':Nat} {ik:IntKind} {i:Int} (x y:Operand) (ho:o.op = .indexAddr t x y) (hu:P.underlying t=some (.array len e)) (hz:(P.info? e).map (·.size)=some z) (h0:0≤i) (h1:i<len) (he:off+i.toNat*z=off') :
 ASpec P J o [(x,.el cs off),(y,.v (.int ik i))] [] (.el cs off') .no :=
 ZH fun ρ B a w _ ha _=>by
  obtain ⟨b,base,f,h2,hb,hw,hf,hp⟩:=rel_el (ha (x,.el cs off) (by simp))
  have hy:=(ha (y,.v (.int ik i)) (by simp)).v_inv
  refine ⟨.pointer (some ⟨b,base+off',none⟩),?_,.pu (.el hb hw hf hp)⟩
  simp only [execOp,ho,h2,hy]
  exact Yb (by rw [Za3 hu hz _ _ _ _ _ h0 h1,← he,Nat.add_assoc])
theorem YH {t e:TypeId} {len n off:Nat} {cs ds:List AV} {ik:IntKind} (x y:Operand) (ho:o.op = .slice t x none (some y) none) (hu:P.underlying t=some (.array len e)) (hz:(P.info? e).map (·.size)=some 1) (hn:n≤len) (h0:Nat.blt 0 len=true) (hm:len≤maxLen) (hl:off+n≤cs.length) (hd:(cs.drop off).take n=ds) (hmn:m=(n:Int)) :
 ASpec P J o [(x,.el cs off),(y,.v (.int ik m))] [] (.sl 1 n ds) .no :=
 ZH fun ρ B a w _ ha _=>by
  subst hmn
  obtain ⟨b,base,f,h2,hb,hw,hf,hp⟩:=rel_el (ha (x,.el cs off) (by simp))
  have hy:=(ha (y,.v (.int ik (n:Int))) (by simp)).v_inv
  obtain ⟨it,hi,_⟩:=Option.map_eq_some_iff.1 hz
  have h0':0<len:=by rwa [Nat.blt_eq] at h0
  have hlen:ds.length=n*1:=by subst hd;rw [List.length_take,List.length_drop];omega
  refine ⟨.slice (some ⟨b,base+off,none⟩) n len,?_,.pu (.sl (f:=fun j=>f (off+j)) hlen hn hm hb hw (fun j hj => ?_) fun j hj => ?_)⟩
  ·simp only [execOp,ho,h2]
   refine Yb ?_
   have r2:(Instr.sliceBound (a.eval y) len .sliceAlen).run P w = .ok n w:=by
    rw [hy];simp [Instr.sliceBound,asIntOf,hn]
   simp [Instr.sliceAt,run_underlying hu,Instr.sureAddr,Instr.sliceBounds,sizeOf,typeInfo,hi,r2,Addr.add_mid]
  ·subst hd
   obtain ⟨h5,_⟩:=Kb cs off _ j hj
   rw [Nat.add_assoc];exact hf _ h5
  subst hd
  obtain ⟨h5,h6⟩:=Kb cs off _ j hj
  rw [h6];exact hp _ h5
end
def midF (A:List AV) (n:Nat) (g:Nat→AV) (C:List AV):List AV:=A++((List.range n).map g++C)
variable {A C:List AV}
theorem midF_len {n:Nat} {g:Nat→AV}:(midF A n g C).length=A.length+(n+C.length):=by simp [midF]
theorem midF_get {n i o:Nat} {g:Nat→AV} (hi:i<n) (ho:A.length+i=o):(midF A n g C)[o]? = some (g i):=by
 subst ho
 unfold midF
 rw [List.getElem?_append_right (by omega),Nat.add_sub_cancel_left,List.getElem?_append_left (by simpa using hi),List.getElem?_map,List.getElem?_range hi]
 rfl
theorem midF_set {n i o:Nat} {g g':Nat→AV} {X:AV} (hi:i<n) (ho:A.length+i=o) (h1:g' i=X) (h2:∀ j,j<n→j≠i→g' j=g j):setAll (midF A n g C) o [X]=midF A n g' C:=by
 subst ho
 show (midF A n g C).set (A.length+i) X=_
 unfold midF
 rw [List.set_append_right _ _ (by omega),Nat.add_sub_cancel_left,List.set_append_left _ _ (by simpa using hi)]
 congr 2
 apply List.ext_getElem (by simp)
 intro j a b
 have hj:j<n:=by simpa using b
 rw [List.getElem_set]
 split
 ·subst_vars;simp
 rename_i hne;simp [h2 j hj (fun e=>hne e.symm)]
theorem midF_congr {n:Nat} {g g':Nat→AV} (h:∀ j,j<n→g' j=g j):midF A n g' C=midF A n g C:=by
 unfold midF
 congr 2
 apply List.map_congr_left
 intro j hj
 exact h j (List.mem_range.1 hj)
namespace Ct
def bump (L:List Int) (x:Int):List Int:=L.set x.toNat (L.getD x.toNat 0+1)
def cnt (S:Nat) (xs:List Int):List Int:=xs.foldl bump (List.replicate S 0)
def two (sh A B se fa:List Int) (val:Int):Cf:=⟨sh,A++B,(A.length:Int),se,fa,val⟩
variable {L:List Int}{i:Nat}
theorem row_at (h:i<L.length):(L.map iv)[i*1]? = some (iv (L.getD i 0)):=by
 rw [Nat.mul_one,List.getElem?_map,List.getD_eq_getElem?_getD,List.getElem?_eq_getElem h]
 rfl
theorem getD_at (h:i<L.length):L.getD i 0=L[i]:=by
 rw [List.getD_eq_getElem?_getD,List.getElem?_eq_getElem h];rfl
def srt (xs:List Int):List Int:=xs.mergeSort fun x y=>decide (x≤y)
theorem srt_perm (xs:List Int):(srt xs).Perm xs:=List.mergeSort_perm _ _
theorem srt_pw (xs:List Int):List.Pairwise (fun a b=>a≤b) (srt xs):=by
 have:=List.pairwise_mergeSort (le:=fun x y:Int=>decide (x≤y)) (fun a b c h1 h2=>by simp at *;omega) (fun a b=>by simp;omega) xs
 exact this.imp fun h=>by simpa using h
variable {xs:List Int}
theorem srt_eq (hp:L.Perm xs) (hs:∀ a b,(h:a<b)→(hb:b<L.length)→L[a]≤L[b]):L=srt xs :=
 List.Perm.eq_of_pairwise (le:=fun a b:Int=>a≤b) (fun a b _ _ h1 h2=>by omega) (List.pairwise_iff_getElem.2 fun i j _ hj hij=>hs i j hij hj) (srt_pw xs) (hp.trans (srt_perm xs).symm)
structure Ins (xs L:List Int) (i k:Nat):Prop where
 perm:L.Perm xs
 le:k≤i
 ord:∀ a b,(h1:a<b)→b≤i→(hb:b<L.length)→a≠k→b≠k→L[a]'(by omega)≤L[b]
 low:∀ b,(h1:k<b)→b≤i→(hb:b<L.length)→L[k]'(by omega)<L[b]
structure Srd (xs L:List Int) (i:Nat):Prop where
 perm:L.Perm xs
 ord:∀ a b,(h1:a<b)→b<i→(hb:b<L.length)→L[a]'(by omega)≤L[b]
theorem Srd.one (xs:List Int):Srd xs xs 1:=⟨List.Perm.refl _,fun a b h1 h2 _=>by omega⟩
variable {k:Nat}
theorem Ins.out (h:Ins xs L i k) (hi:i<L.length) (hk:0<k→L[k-1]'(by have:=h.le;omega)≤L[k]'(by have:=h.le;omega)):Srd xs L (i+1):=by
 have hle:=h.le
 refine ⟨h.perm,fun a b h1 h2 hb => ?_⟩
 by_cases ea:a=k
 ·subst ea;exact Int.le_of_lt (h.low b h1 (by omega) hb)
 by_cases eb:b=k
 ·subst eb
  have h3:=hk (by omega)
  by_cases e:a=b-1
  ·subst e;exact h3
  exact Int.le_trans (h.ord a (b-1) (by omega) (by omega) (by omega) ea (by omega)) h3
 exact h.ord a b h1 (by omega) hb ea eb
def swp (L:List Int) (k:Nat):List Int:=(L.set (k-1) (L.getD k 0)).set k (L.getD (k-1) 0)
variable {j:Nat}
theorem swp_at (hk:0<k) (hj:j<(swp L k).length) (hkl:k<L.length):(swp L k)[j]=if j=k then L[k-1] else if j=k-1 then L[k] else L[j]'(by simpa [swp] using hj):=by
 show ((L.set (k-1) (L.getD k 0)).set k (L.getD (k-1) 0))[j]'(by simpa [swp] using hj)=_
 rw [List.getElem_set,List.getElem_set]
 by_cases e:k=j
 ·subst e;simp [List.getD_eq_getElem?_getD,List.getElem?_eq_getElem (show k-1<L.length by omega)]
 rw [if_neg e,if_neg (Ne.symm e)]
 by_cases e2:k-1=j
 ·rw [if_pos e2,if_pos e2.symm];simp [List.getD_eq_getElem?_getD,List.getElem?_eq_getElem hkl]
 rw [if_neg e2,if_neg (Ne.symm e2)]
theorem swp_perm (hkl:k<L.length):(swp L k).Perm L:=by
 have h1:k-1<L.length:=by omega
 have:=List.set_set_perm h1 hkl
 unfold swp
 rw [List.getD_eq_getElem?_getD,List.getD_eq_getElem?_getD,List.getElem?_eq_getElem hkl,List.getElem?_eq_getElem h1]
 exact this
theorem Ins.step (h:Ins xs L i k) (hi:i<L.length) (hk:0<k) (hgt:L[k]'(by have:=h.le;omega)<L[k-1]'(by have:=h.le;omega)):Ins xs (swp L k) i (k-1):=by
 have hle:=h.le
 have hkl:k<L.length:=by omega
 refine ⟨(swp_perm hkl).trans h.perm,by omega,fun a b h1 h2 hb ha hb' => ?_,fun b h1 h2 hb => ?_⟩
 ·have hb2:b<L.length:=by simpa [swp] using hb
  rw [swp_at hk _ hkl,swp_at hk _ hkl]
  by_cases eb:b=k
  ·rw [if_neg (by omega),if_neg ha,if_pos eb]
   exact h.ord a (k-1) (by omega) (by omega) (by omega) (by omega) (by omega)
  rw [if_neg eb,if_neg hb']
  by_cases ea:a=k
  ·rw [if_pos ea]
   exact h.ord (k-1) b (by omega) h2 hb2 (by omega) eb
  rw [if_neg ea,if_neg ha]
  exact h.ord a b h1 h2 hb2 ea eb
 have hb2:b<L.length:=by simpa [swp] using hb
 rw [swp_at hk _ hkl,swp_at hk _ hkl]
 rw [if_neg (by omega),if_pos rfl]
 by_cases eb:b=k
 ·rw [if_pos eb];exact hgt
 rw [if_neg eb,if_neg (by omega)]
 exact h.low b (by omega) h2 hb2
theorem Srd.eq (h:Srd xs L i) (hi:L.length≤i):L=srt xs:=srt_eq h.perm fun a b h1 hb=>h.ord a b h1 (by omega) hb
end Ct
abbrev Rw:=List Int × Int
def IsRows (lo:Nat) (w:World) (v:Value) (rs:List Rw):Prop :=
 ∃ (a:Option Addr) (cap:Nat),v = .slice a rs.length cap∧rs.length≤cap∧cap≤maxLen ∧
  (rs=[]∨∃ b off,a=some ⟨b,off,none⟩∧lo≤b∧b<w.heap.size ∧
   ∀ i (hi:i<rs.length),∃ sv,w.cell? ⟨b,off+i*2,none⟩=some sv∧w.cell? ⟨b,off+i*2+1,none⟩=some (.int .i64 rs[i].2)∧IsInts lo w sv rs[i].1∧I64 rs[i].2)
theorem IsRows.below {lo:Nat} {w w':World} {v:Value} {rs:List Rw} (h:IsRows lo w v rs) (hb:Below w.heap.size w w'):IsRows lo w' v rs:=by
 obtain ⟨a,cap,hv,hl,hm,hc⟩:=h
 refine ⟨a,cap,hv,hl,hm,?_⟩
 rcases hc with hc | ⟨b,off,ha,hlo,hbk,hcell⟩
 ·exact .inl hc
 refine .inr ⟨b,off,ha,hlo,Nat.lt_of_lt_of_le hbk hb.size,fun i hi => ?_⟩
 obtain ⟨sv,h1,h2,h3,h4⟩:=hcell i hi
 exact ⟨sv,(hb.cell (p:=⟨b,off+i*2,none⟩) hbk).trans h1,(hb.cell (p:=⟨b,off+i*2+1,none⟩) hbk).trans h2,h3.below hb,h4⟩
theorem IsRows.mono {lo lo':Nat} {w:World} {v:Value} {rs:List Rw} (h:IsRows lo w v rs) (hl:lo'≤lo):IsRows lo' w v rs:=by
 obtain ⟨a,cap,hv,h1,hm,hc⟩:=h
 refine ⟨a,cap,hv,h1,hm,?_⟩
 rcases hc with hc | ⟨b,off,ha,hlo,hbk,r⟩
 ·exact .inl hc
 exact .inr ⟨b,off,ha,Nat.le_trans hl hlo,hbk,fun i hi=>by obtain ⟨sv,h1,h2,h3,h4⟩:=r i hi;exact ⟨sv,h1,h2,h3.mono hl,h4⟩⟩
variable {lo:Nat}{v:Value}
theorem IsRows.shape {rs:List Rw} (h:IsRows lo w v rs):∃ a cap,v = .slice a rs.length cap:=by
 obtain ⟨a,cap,hv,_⟩:=h
 exact ⟨a,cap,hv⟩
theorem IsRows.bound {rs:List Rw} (h:IsRows lo w v rs):rs.length≤9223372036854775807:=by
 obtain ⟨a,cap,_,h1,hm,_⟩:=h
 unfold maxLen at hm;omega
theorem IsRows.at {lo:Nat} {w:World} {a:Option Addr} {n cap:Nat} {rs:List Rw} (h:IsRows lo w (.slice a n cap) rs) (k:Nat) (hk:k<rs.length) :
 ∃ b off sv,a=some ⟨b,off,none⟩∧b<w.heap.size∧w.cell? ⟨b,off+k*2,none⟩=some sv∧w.cell? ⟨b,off+k*2+1,none⟩=some (.int .i64 rs[k].2)∧IsInts lo w sv rs[k].1∧I64 rs[k].2:=by
 obtain ⟨a',cap',hv,_,_,hc⟩:=h
 simp only [Value.slice.injEq] at hv
 rcases hc with rfl | ⟨b,off,ha,_,hb,hc⟩
 ·simp at hk
 obtain ⟨sv,h1,h2,h3,h4⟩:=hc k hk
 exact ⟨b,off,sv,hv.1.trans ha,hb,h1,h2,h3,h4⟩
structure Pq where
 nm:ByteArray
 kind:Int
 start:List Int
 bad:List Rw
 adj:List Int
 goal:List Int
def IsProp (lo:Nat) (w:World) (v:Value) (q:Pq):Prop :=
 ∃ v2 v3 v4 v5,v = .agg #[.string q.nm,.int .i64 q.kind,v2,v3,v4,v5]∧IsInts lo w v2 q.start∧IsRows lo w v3 q.bad∧IsInts lo w v4 q.adj∧IsInts lo w v5 q.goal∧q.nm.size≤maxLen∧I64 q.kind
theorem IsProp.below {lo:Nat} {w w':World} {v:Value} {q:Pq} (h:IsProp lo w v q) (hb:Below w.heap.size w w'):IsProp lo w' v q:=by
 obtain ⟨v2,v3,v4,v5,e,h2,h3,h4,h5,h6⟩:=h
 exact ⟨v2,v3,v4,v5,e,h2.below hb,h3.below hb,h4.below hb,h5.below hb,h6⟩
theorem IsProp.mono {lo lo':Nat} {w:World} {v:Value} {q:Pq} (h:IsProp lo w v q) (hl:lo'≤lo):IsProp lo' w v q:=by
 obtain ⟨v2,v3,v4,v5,e,h2,h3,h4,h5,h6⟩:=h
 exact ⟨v2,v3,v4,v5,e,h2.mono hl,h3.mono hl,h4.mono hl,h5.mono hl,h6⟩
end Go.Proofs.YtdbehgbggaaipaaGreat
namespace Go.Proofs.YtdbehgbggaaipaaGreat
open Go.RowKit Go.Deep Go.ChangeShapes Go.WideShapes Go.ChangeAt Go.Joins
section
variable {H:Type} {enc:TypeId × Value→H} {w:World} {base:Nat} {sp:Nat→Bool} {held:Bool}
end
end Go.Proofs.YtdbehgbggaaipaaGreat
namespace Go.Proofs.YtdbehgbggaaipaaGreat
open Go.RowKit Go.Deep
end Go.Proofs.YtdbehgbggaaipaaGreat
namespace Go.Proofs.YtdbehgbggaaipaaGreat
open Go.RowKit Go.Deep Go.ChangeShapes Go.WideShapes Go.ChangeAt Go.Joins
def RwEl (lo:Nat) (w:World) (cs:List Value) (r:Rw):Prop:=∃ v,cs=[v,.int .i64 r.2]∧IsInts lo w v r.1∧I64 r.2
def IsPropX (lo:Nat) (w:World) (v:Value) (q:Pq):Prop :=
 ∃ v2 v3 v4 v5,v = .agg #[.string q.nm,.int .i64 q.kind,v2,v3,v4,v5]∧IsInts lo w v2 q.start∧IsSl 2 RwEl lo w v3 q.bad∧IsInts lo w v4 q.adj∧IsInts lo w v5 q.goal∧q.nm.size≤maxLen∧I64 q.kind
section
variable {H:Type} {enc:TypeId × Value→H} {w:World} {base:Nat} {sp:Nat→Bool} {held:Bool}
end
structure PqOk (q:Pq):Prop where
 nm:q.nm.size≤maxLen
 kind:I64 q.kind
 start:InOk q.start
 bad:∀ r∈q.bad,InOk r.1∧I64 r.2∧r.1.length≤9223372036854775807
 adj:InOk q.adj
 goal:InOk q.goal
 lstart:q.start.length≤9223372036854775807
 lbad:q.bad.length≤9223372036854775807
 ladj:q.adj.length≤9223372036854775807
 lgoal:q.goal.length≤9223372036854775807
theorem IsPropX.ok {lo:Nat} {w:World} {v:Value} {q:Pq} (h:IsPropX lo w v q):PqOk q:=by
 obtain ⟨v2,v3,v4,v5,_,h2,h3,h4,h5,h6,h7⟩:=h
 exact ⟨h6,h7,h2.ok,h3.all fun cs r hr=>by obtain ⟨v,_,a,b⟩:=hr;exact ⟨a.ok,b,a.len⟩,h4.ok,h5.ok,h2.len,h3.bound,h4.len,h5.len⟩
section
variable {F ok:Nat→Prop} {lo:Nat} {w:World}
end
section
variable {J:World→Prop}
end
end Go.Proofs.YtdbehgbggaaipaaGreat
namespace Go.Proofs.YtdbehgbggaaipaaGreat
open Go.RowKit Go.Deep
def noI (xs:List Int) (x:Int) (k:Nat):Prop:=∀ j (h:j<xs.length),j<k→xs[j]≠x
theorem noI_zero (xs:List Int) (x:Int):noI xs x 0:=fun _ _ h=>absurd h (by omega)
variable {xs:List Int}{x:Int}{k:Nat}
theorem noI_succ (hk:k<xs.length) (h:noI xs x k) (e:¬ x=xs[k]):noI xs x (k+1):=fun j hj h'=>by
 by_cases c:j=k
 ·subst c;exact fun h=>e h.symm
 exact h j hj (by omega)
theorem noI_succ' (hk:k<xs.length) (h:noI xs x k) (e:¬ xs[k]=x):noI xs x (k+1):=noI_succ hk h (fun c=>e c.symm)
def idxI (xs:List Int) (x:Int):Int:=if x∈xs then ((xs.findIdx (· == x):Nat):Int) else -1
theorem idx_yes (hk:k<xs.length) (h:noI xs x k) (e:x=xs[k]):(k:Int)=idxI xs x:=by
 have hm:x∈xs:=by rw [e];exact List.getElem_mem hk
 have:xs.findIdx (· == x)=k:=(List.findIdx_eq hk).2 ⟨by simp [← e],fun j hj=>by simpa using h j (by omega) hj⟩
 unfold idxI;rw [if_pos hm,this]
theorem has_no (hk:¬ k<xs.length) (h:noI xs x k):decide (x∈xs)=false:=by
 rw [decide_eq_false_iff_not];intro hm
 obtain ⟨j,hj,e⟩:=List.getElem_of_mem hm
 exact h j hj (by omega) e
theorem has_yes (hk:k<xs.length) (e:xs[k]=x):decide (x∈xs)=true:=by
 rw [decide_eq_true_eq,← e];exact List.getElem_mem hk
theorem idx_no (hk:¬ k<xs.length) (h:noI xs x k):(-1:Int)=idxI xs x:=by
 have:=has_no hk h
 unfold idxI;rw [if_neg (by simpa using this)]
theorem idx_has (xs:List Int) (x:Int):decide (0≤idxI xs x)=decide (x∈xs):=by
 unfold idxI
 by_cases h:x∈xs
 ·rw [if_pos h];simp [h]
 rw [if_neg h];simp [h]
def cntE (n:Nat) (c:Rw):Int:=if setE n c.1=0 then (if (c.1.length:Int)=0 then 1 else if inB 1 3 c.2=true then 0 else 1) else setE n c.1
namespace Jd
def lkF (top:Int) (sh:List Int) (n i:Nat):Int:=if top=4 then (trun sh sh.length).fi i else (rowL top n i).1
def lkS (top:Int) (sh:List Int) (n i:Nat):Int:=if top=4 then (trun sh sh.length).se i else (rowL top n i).2.1
section
variable {top x y:Int} {xs:List Int} {F S:Nat→Int} {k:Nat}
end
def cP (xs l:List Int):Nat:=xs.countP fun x=>decide (x∈l)
def upB (xs:List Int) (bad:List Rw) (k:Nat):Prop:=∀ i (h:i<bad.length),i<k→bad[i].2≤((cP xs bad[i].1:Nat):Int)
theorem upB_zero (xs:List Int) (bad:List Rw):upB xs bad 0:=fun _ _ h=>absurd h (by omega)
theorem upB_succ {bad:List Rw} (hk:k<bad.length) (h:upB xs bad k) (e:¬ ((cP xs bad[k].1:Nat):Int)<bad[k].2):upB xs bad (k+1):=fun i hi h'=>by
 by_cases c:i=k
 ·subst c;omega
 exact h i hi (by omega)
def lkC (top:Int) (sh:List Int) (n:Nat) (j:Nat):Int:=if j % 3=0 then lkF top sh n (j / 3) else if j % 3=1 then lkS top sh n (j / 3) else if top=4 then (trun sh sh.length).pa (j / 3) else (rowL top n (j / 3)).2.2
def lkA (top:Int) (sh:List Int) (n:Nat):AV := .sl 3 n ((List.range (n*3)).map fun j=>iv (lkC top sh n j))
variable {top:Int}{sh:List Int}
theorem lkC_F {n i:Nat}:lkC top sh n (i*3)=lkF top sh n i:=by unfold lkC;rw [if_pos (by omega)];congr 1;omega
theorem lkC_S {n i:Nat}:lkC top sh n (i*3+1)=lkS top sh n i:=by unfold lkC;rw [if_neg (by omega),if_pos (by omega)];congr 1;omega
theorem lkA_tree :Ns.lkT sh=lkA 4 sh sh.length:=by
 unfold Ns.lkT lkA
 congr 1
theorem lkZ_row {n:Nat} (ht:¬ top=4):Ns.lkZ top n n=(List.range (n*3)).map fun j=>iv (lkC top sh n j):=by
 unfold Ns.lkZ
 rw [Nat.sub_self,List.replicate_zero,List.flatten_nil,List.append_nil]
 have key:∀ k,(List.range k).flatMap (fun i:Nat=>Ns.lk3 top n i)=(List.range (k*3)).map fun j=>iv (lkC top sh n j):=by
  intro k
  induction k with
  | zero=>rfl
  | succ k ih =>
    rw [List.range_succ,List.flatMap_append,ih,show (k+1)*3=k*3+1+1+1 by omega,List.range_succ,List.range_succ,List.range_succ,List.map_append,List.map_append,List.map_append]
    have e1:lkC top sh n (k*3)=(rowL top n k).1:=by rw [lkC_F];exact if_neg ht
    have e2:lkC top sh n (k*3+1)=(rowL top n k).2.1:=by rw [lkC_S];exact if_neg ht
    have e3:lkC top sh n (k*3+1+1)=(rowL top n k).2.2:=by
     unfold lkC
     rw [if_neg (by omega),if_neg (by omega),if_neg ht]
     congr 3;omega
    simp only [List.map_cons,List.map_nil,e1,e2,e3,List.flatMap_cons,List.flatMap_nil,List.append_nil,Ns.lk3,List.append_assoc,List.cons_append,List.nil_append]
 exact key n
def LkOk (top:Int) (sh:List Int) (n:Nat):Prop:=∀ i,i<n→lkF top sh n i<n∧lkS top sh n i<n
theorem lk_tree (h:shp sh=true):LkOk 4 sh sh.length:=fun i hi=>by
 have T:=(Zbn sh h).1
 unfold lkF lkS
 rw [if_pos rfl,if_pos rfl]
 have h1:=T.fst i hi
 have h2:=T.snd i hi
 constructor
 ·rcases h1 with e | ⟨j,hj,e,_⟩<;>omega
 rcases h2 with e | ⟨j,hj,e,_⟩<;>omega
theorem lk_row {n:Nat} (h:top=2∨top=3):LkOk top sh n:=fun i hi=>by
 unfold lkF lkS
 rw [if_neg (by omega),if_neg (by omega)]
 unfold rowL
 dsimp only
 constructor<;>(repeat' split)<;>omega
variable {p:Fm}
theorem top_in (h:valE p=0):1≤p.top∧p.top≤4:=by
 unfold valE at h
 split at h
 ·cases h
 split at h
 ·cases h
 rename_i _ h2
 have:inB 1 4 p.top=true:=by
  cases e:inB 1 4 p.top with
  | true=>rfl
  | false=>exact absurd (.inl e) h2
 unfold inB at this
 simp at this
 omega
end Jd
end Go.Proofs.YtdbehgbggaaipaaGreat
namespace Go.Proofs.YtdbehgbggaaipaaGreat
namespace Tr
def pre (xs:List Int):Nat→Int
 | 0=>0
 | k+1=>pre xs k+(xs.getD k 0-1)
structure TJ (xs:List Int) (s:TS) (k:Nat):Prop where
 no2:∀ p,p<k→xs.getD p 0≠2→s.fi p = -1∧s.se p = -1
 yes:∀ p,p<k→xs.getD p 0=2→p∈s.wt∨(s.fi p ≠ -1∧s.se p ≠ -1)
 fip:∀ p,p<k→s.fi p = -1∨s.fi p=p+1
 sep:∀ p,p<k→s.se p = -1∨∃ e:Nat,s.se p=e∧pre xs e+1=pre xs (p+1)∧p+1≤e∧∀ t,p+1≤t→t<e→pre xs (p+1)≤pre xs t
 top:∀ p∈s.wt,s.fi p = -1→p+1=k
 lvl:∀ A p B,s.wt=A++p::B→1+pre xs k-pre xs (p+1)=lack s.fi p-1+lacks s.fi B∧∀ t,p+1≤t→t<k→pre xs (p+1)≤pre xs t
 two1:∀ p∈s.wt,xs.getD p 0=2
theorem lack_pos (f:Nat→Int) (p:Nat):1≤lack f p:=by unfold lack;split<;>omega
theorem lacks_pos (f:Nat→Int) (w:List Nat):0≤lacks f w:=by
 induction w with
 | nil=>rw [Ks];omega
 | cons a l ih =>
   have:lacks f (a::l)=lack f a+lacks f l:=by simp [lacks]
   have:=lack_pos f a
   omega
theorem ZbM (f:Nat→Int) (v w:List Nat):lacks f (v++w)=lacks f v+lacks f w:=by simp [lacks]
variable {xs:List Int}
theorem tj_step {s s':TS} {k q:Nat} {A E:List Nat} {c:Int} (J:TJ xs s k) (hw:s.wt=A++[q]) (wl:∀ p∈s.wt,p<k) (asc:s.wt.Pairwise (· < ·)) (hc:xs.getD k 0=c)
 (hE:(c=0∧E=[])∨(c=2∧E=[k])) (hf:∀ j,j<k→j≠q→s'.fi j=s.fi j) (hs:∀ j,j<k→j≠q→s'.se j=s.se j) (hfk:s'.fi k = -1) (hsk:s'.se k = -1)
 (hq:(s.fi q = -1∧s'.fi q=k∧s'.se q=s.se q∧s'.wt=A++[q]++E)∨(s.fi q ≠ -1∧s'.fi q=s.fi q∧s'.se q=k∧s'.wt=A++E)):TJ xs s' (k+1):=by
 have hqk:q<k:=wl q (by rw [hw];simp)
 have hAq:∀ p∈A,p<q∧p<k:=fun p hp=>by
  rw [hw] at asc
  have h1:=(List.pairwise_append.1 asc).2.2 p hp q (by simp)
  exact ⟨h1,by omega⟩
 have hq2:xs.getD q 0=2:=J.two1 q (by rw [hw];simp)
 have hl:=J.lvl A q [] hw
 rw [Ks] at hl
 have hpk:pre xs (k+1)=pre xs k+(c-1):=by rw [← hc];rfl
 have hEl:lacks s'.fi E=c:=by
  rcases hE with ⟨rfl,rfl⟩ | ⟨rfl,rfl⟩
  ·exact Ks _
  have:lacks s'.fi [k]=lack s'.fi k:=by simp [lacks]
  rw [this];unfold lack;rw [hfk];simp
 have hEk:∀ p∈E,p=k∧c=2:=fun p hp=>by
  rcases hE with ⟨_,rfl⟩ | ⟨h,rfl⟩
  ·simp at hp
  exact ⟨by simpa using hp,h⟩
 have hlA:∀ p∈A,lack s'.fi p=lack s.fi p:=fun p hp=>by
  have:=hAq p hp
  unfold lack;rw [hf p this.2 (by omega)]
 have hlsA:∀ B:List Nat,(∀ p∈B,p∈A)→lacks s'.fi B=lacks s.fi B:=fun B hB=>Zaq fun p hp=>by
  have:=hAq p (hB p hp)
  exact hf p this.2 (by omega)
 -- what is waiting behind: an elder one,or the new one
 have hmem:∀ p∈s'.wt,(p∈A)∨(p=q∧s.fi q = -1)∨(p=k∧c=2):=fun p hp=>by
  rcases hq with ⟨h1,_,_,h4⟩ | ⟨_,_,_,h4⟩
  ·rw [h4] at hp
   rcases List.mem_append.1 hp with hp | hp
   ·rcases List.mem_append.1 hp with hp | hp
    ·exact .inl hp
    exact .inr (.inl ⟨by simpa using hp,h1⟩)
   exact .inr (.inr (hEk p hp))
  rw [h4] at hp
  rcases List.mem_append.1 hp with hp | hp
  ·exact .inl hp
  exact .inr (.inr (hEk p hp))
 have hAin:∀ p∈A,p∈s'.wt:=fun p hp=>by
  rcases hq with ⟨_,_,_,h4⟩ | ⟨_,_,_,h4⟩<;>rw [h4]<;>simp [hp]
 have hold:∀ A' p B0,A=A'++p::B0→1+pre xs k-pre xs (p+1)=lack s.fi p-1+(lacks s.fi B0+lack s.fi q)∧∀ t,p+1≤t→t<k→pre xs (p+1)≤pre xs t:=fun A' p B0 e=>by
  have:=J.lvl A' p (B0++[q]) (by rw [hw,e];simp)
  rwa [Wh] at this
 refine ⟨fun p hp h2 => ?_,fun p hp h2 => ?_,fun p hp => ?_,fun p hp => ?_,fun p hp h1 => ?_,fun A' p B e => ?_,fun p hp => ?_⟩
 ·by_cases e:p=k
  ·subst e;exact ⟨hfk,hsk⟩
  have hpq:p≠q:=fun e2=>h2 (by rw [e2];exact hq2)
  rw [hf p (by omega) hpq,hs p (by omega) hpq]
  exact J.no2 p (by omega) h2
 ·by_cases e:p=k
  ·subst e
   rw [hc] at h2
   rcases hE with ⟨h3,_⟩ | ⟨_,h3⟩
   ·omega
   left
   rcases hq with ⟨_,_,_,h4⟩ | ⟨_,_,_,h4⟩<;>rw [h4,h3]<;>simp
  by_cases epq:p=q
  ·subst epq
   rcases hq with ⟨_,_,_,h4⟩ | ⟨h1,h2',h3,_⟩
   ·left;rw [h4];simp
   right;rw [h2',h3];exact ⟨h1,by omega⟩
  rcases J.yes p (by omega) h2 with h | h
  ·left
   rw [hw] at h
   rcases List.mem_append.1 h with h | h
   ·exact hAin p h
   exact absurd (by simpa using h) epq
  right
  rw [hf p (by omega) epq,hs p (by omega) epq]
  exact h
 ·by_cases e:p=k
  ·subst e;exact .inl hfk
  by_cases epq:p=q
  ·subst epq
   rcases hq with ⟨h1,h2,_,_⟩ | ⟨_,h2,_,_⟩
   ·right
    have:=J.top p (by rw [hw];simp) h1
    rw [h2];omega
   rw [h2];exact J.fip p (by omega)
  rw [hf p (by omega) epq];exact J.fip p (by omega)
 ·by_cases e:p=k
  ·subst e;exact .inl hsk
  by_cases epq:p=q
  ·subst epq
   rcases hq with ⟨h1,_,h3,_⟩ | ⟨h1,_,h3,_⟩
   ·rw [h3];exact J.sep p (by omega)
   right
   refine ⟨k,h3,?_,by omega,hl.2⟩
   have h4:lack s.fi p=1:=by
    unfold lack
    rcases J.fip p (by omega) with h | h
    ·exact absurd h h1
    rw [h,if_neg (by omega)]
   have:=hl.1
   rw [h4] at this
   omega
  rw [hs p (by omega) epq];exact J.sep p (by omega)
 ·rcases hmem p hp with h | ⟨rfl,h⟩ | ⟨rfl,_⟩
  ·exfalso
   have h2:=hAq p h
   rw [hf p h2.2 (by omega)] at h1
   have h3:=J.top p (by rw [hw];simp [h]) h1
   omega
  ·rcases hq with ⟨_,h2,_,_⟩ | ⟨h2,_,_,_⟩
   ·rw [h2] at h1;omega
   exact absurd h h2
  rfl
 ·have fin:∀ A1 B0,A=A1++p::B0→∀ x:Int,B=B∧lacks s'.fi B=lacks s.fi B0+x→(x=lack s.fi q-1+c)→1+pre xs (k+1)-pre xs (p+1)=lack s'.fi p-1+lacks s'.fi B∧∀ t,p+1≤t→t<k+1→pre xs (p+1)≤pre xs t:=fun A1 B0 hA x hB hx=>by
   have h1:=hold A1 p B0 hA
   have hpA:p∈A:=by rw [hA];simp
   have h2:=lack_pos s.fi p
   have h3:=lacks_pos s.fi B0
   have h4:=lack_pos s.fi q
   rw [hlA p hpA,hB.2,hpk]
   refine ⟨by omega,fun t ht ht2 => ?_⟩
   by_cases e2:t=k
   ·subst e2;omega
   exact h1.2 t ht (by omega)
  have newk:p=k→B=[]→1+pre xs (k+1)-pre xs (p+1)=lack s'.fi p-1+lacks s'.fi B∧∀ t,p+1≤t→t<k+1→pre xs (p+1)≤pre xs t:=fun e1 e2=>by
   subst e1 e2
   rw [Ks]
   unfold lack
   rw [hfk]
   refine ⟨by simp<;>omega,fun t ht ht2=>by omega⟩
  rcases hq with ⟨h1,h2,_,h4⟩ | ⟨h1,h2,_,h4⟩
  ·have hlq:lack s.fi q=2:=by unfold lack;rw [h1];simp
   have hlq':lack s'.fi q=1:=by unfold lack;rw [h2,if_neg (by omega)]
   rw [h4] at e
   rcases List.append_eq_append_iff.1 e with ⟨D,e1,e2⟩ | ⟨D,e1,e2⟩
   ·-- p among E
    cases D with
    | nil =>
      rw [List.nil_append] at e2
      have hpE:p∈E:=by rw [e2];simp
      rcases hE with ⟨_,rfl⟩ | ⟨_,rfl⟩
      ·simp at hpE
      simp only [List.cons.injEq] at e2
      exact newk e2.1.symm e2.2.symm
    | cons d D =>
      have hpE:p∈E:=by rw [e2];simp
      rcases hE with ⟨_,rfl⟩ | ⟨_,rfl⟩
      ·simp at hpE
      simp at e2
   cases D with
   | nil =>
     rw [List.nil_append] at e2
     have hpE:p∈E:=by rw [← e2];simp
     rcases hE with ⟨_,rfl⟩ | ⟨_,rfl⟩
     ·simp at hpE
     simp only [List.cons.injEq] at e2
     exact newk e2.1 e2.2
   | cons d D =>
     simp only [List.cons_append,List.cons.injEq] at e2
     obtain ⟨rfl,rfl⟩:=e2
     -- A++[q]=A'++p::D,B=D++E
     rcases List.append_eq_append_iff.1 e1 with ⟨F,e3,e4⟩ | ⟨F,e3,e4⟩
     ·cases F with
      | nil =>
        simp only [List.nil_append,List.cons.injEq] at e4
        obtain ⟨rfl,rfl⟩:=e4
        rw [List.nil_append,hEl,hlq',hpk]
        have h5:=hl.1
        rw [hlq] at h5
        refine ⟨by omega,fun t ht ht2 => ?_⟩
        by_cases e2:t=k
        ·subst e2;omega
        exact hl.2 t ht (by omega)
      | cons f F=>simp at e4
     cases F with
     | nil =>
       simp only [List.nil_append,List.cons.injEq] at e4
       obtain ⟨rfl,rfl⟩:=e4
       rw [List.nil_append,hEl,hlq',hpk]
       have h5:=hl.1
       rw [hlq] at h5
       refine ⟨by omega,fun t ht ht2 => ?_⟩
       by_cases e2:t=k
       ·subst e2;omega
       exact hl.2 t ht (by omega)
     | cons f F =>
       simp only [List.cons_append,List.cons.injEq] at e4
       obtain ⟨rfl,rfl⟩:=e4
       refine fin A' F e3 (1+c) ⟨rfl,?_⟩ (by omega)
       rw [ZbM,ZbM,hEl,hlsA F (fun x hx=>by rw [e3];simp [hx])]
       have:lacks s'.fi [q]=lack s'.fi q:=by simp [lacks]
       rw [this,hlq'];omega
  have hlq:lack s.fi q=1:=by
   unfold lack
   rcases J.fip q hqk with h | h
   ·exact absurd h h1
   rw [h,if_neg (by omega)]
  rw [h4] at e
  rcases List.append_eq_append_iff.1 e with ⟨D,e1,e2⟩ | ⟨D,e1,e2⟩
  ·have hpE:p∈E:=by rw [e2];simp
   rcases hE with ⟨_,rfl⟩ | ⟨_,rfl⟩
   ·simp at hpE
   cases D with
   | nil =>
     simp only [List.nil_append,List.cons.injEq] at e2
     exact newk e2.1.symm e2.2.symm
   | cons d D=>simp at e2
  cases D with
  | nil =>
    rw [List.nil_append] at e2
    have hpE:p∈E:=by rw [← e2];simp
    rcases hE with ⟨_,rfl⟩ | ⟨_,rfl⟩
    ·simp at hpE
    simp only [List.cons.injEq] at e2
    exact newk e2.1 e2.2
  | cons d D =>
    simp only [List.cons_append,List.cons.injEq] at e2
    obtain ⟨rfl,rfl⟩:=e2
    refine fin A' D e1 c ⟨rfl,?_⟩ (by omega)
    rw [ZbM,hEl,hlsA D (fun x hx=>by rw [e1];simp [hx])]
 rcases hmem p hp with h | ⟨rfl,_⟩ | ⟨rfl,h⟩
 ·exact J.two1 p (by rw [hw];simp [h])
 ·exact hq2
 rw [hc];exact h
theorem tj_one {c:Int} (hc:xs.getD 0 0=c) (c02:c=0∨c=2):TJ xs (trun xs 1) 1:=by
 have e:trun xs 1=tstep ⟨fun _=>0,fun _=>0,fun _=>0,[]⟩ 0 c:=by rw [← hc];rfl
 have hk:tkid ⟨fun _=>0,fun _=>0,fun _=>0,[]⟩ 0=⟨up (fun _=>0) 0 (-1),up (fun _=>0) 0 (-1),up (fun _=>0) 0 (-1),[]⟩:=rfl
 rw [e]
 unfold tstep
 rw [hk]
 have h0:∀ p,p<1→up (fun _=>(0:Int)) 0 (-1) p = -1:=fun p hp=>by
  obtain rfl:p=0:=by omega
  exact Yy _ _ _
 have hp1:pre xs 1=c-1:=by show 0+(xs.getD 0 0-1)=_;rw [hc];omega
 rcases c02 with rfl | rfl
 ·rw [if_neg (by omega)]
  refine ⟨fun p hp _=>⟨h0 p hp,h0 p hp⟩,fun p hp h => ?_,fun p hp => .inl (h0 p hp),fun p hp => .inl (h0 p hp),fun p hp=>by simp at hp,fun A p B h=>by simp at h,fun p hp=>by simp at hp⟩
  obtain rfl:p=0:=by omega
  rw [hc] at h;omega
 rw [if_pos rfl]
 refine ⟨fun p hp _=>⟨h0 p hp,h0 p hp⟩,fun p hp h => ?_,fun p hp => .inl (h0 p hp),fun p hp => .inl (h0 p hp),fun p hp _ => ?_,fun A p B h => ?_,fun p hp => ?_⟩
 ·obtain rfl:p=0:=by omega
  left;simp
 ·have:p=0:=by simpa using hp
  omega
 ·dsimp only [List.nil_append] at h
  cases A with
  | nil =>
    simp only [List.nil_append,List.cons.injEq] at h
    obtain ⟨rfl,rfl⟩:=h
    rw [Ks]
    have hL:lack (up (fun _=>(0:Int)) 0 (-1)) 0=2:=by unfold lack;simp [up]
    refine ⟨?_,fun t h1 h2=>by omega⟩
    show 1+pre xs 1-pre xs (0+1)=lack (up (fun _=>(0:Int)) 0 (-1)) 0-1+0
    rw [hL,Nat.zero_add];omega
  | cons a A=>simp at h
 have:p=0:=by simpa using hp
 rw [this];exact hc
theorem tj_run (xs:List Int) (hs:shp xs=true):∀ k,k≤xs.length→TJ xs (trun xs k) k
 | 0,_=>⟨fun _ h=>by omega,fun _ h=>by omega,fun _ h=>by omega,fun _ h=>by omega,fun _ h=>by simp [trun] at h,fun A p B h=>by simp [trun] at h,fun _ h=>by simp [trun] at h⟩
 | k+1,hk=>by
   have J:=tj_run xs hs k (by omega)
   obtain ⟨m,hI,hF⟩:=run_ok xs hs k (by omega)
   have hd:xs.drop k=xs[k]'(by omega)::xs.drop (k+1):=List.drop_eq_getElem_cons (by omega)
   have hg:xs.getD k 0=xs[k]'(by omega):=by simp [List.getD,List.getElem?_eq_getElem (show k<xs.length by omega)]
   rw [hd,shpF] at hF
   by_cases h0:m=0
   ·rw [if_pos h0] at hF;cases hF
   rw [if_neg h0] at hF
   by_cases h1:xs[k]'(by omega)≠0∧xs[k]'(by omega)≠2
   ·rw [if_pos h1] at hF;cases hF
   have c02:xs.getD k 0=0∨xs.getD k 0=2:=by rw [hg];omega
   by_cases hk0:k=0
   ·subst hk0;exact tj_one rfl c02
   have hm:=hI.cnt
   rw [if_neg hk0] at hm
   have hne:(trun xs k).wt≠[]:=fun e=>by rw [e,Ks] at hm;exact h0 hm
   obtain ⟨q,hql⟩:∃ q,(trun xs k).wt.getLast? = some q:=⟨_,List.getLast?_eq_some_getLast hne⟩
   obtain ⟨A,hA⟩:∃ A,(trun xs k).wt=A++[q]:=by
    obtain ⟨A,hA⟩:=List.getLast?_eq_some_iff.1 hql
    exact ⟨A,hA⟩
   have hqk:q<k:=(hI.wlt q (by rw [hA];simp)).1
   show TJ xs (tstep (trun xs k) k (xs.getD k 0)) (k+1)
   generalize trun xs k=s at *
   have hqn:up s.fi k (-1) q=s.fi q:=Ke _ _ (by omega)
   have hE:(xs.getD k 0=0∧(if xs.getD k 0=2 then [k] else [])=[])∨(xs.getD k 0=2∧(if xs.getD k 0=2 then [k] else [])=[k]):=by
    rcases c02 with h | h<;>rw [h]<;>simp
   have key:∀ s1:TS,tkid s k=s1→(∀ j,j<k→j≠q→s1.fi j=s.fi j)→(∀ j,j<k→j≠q→s1.se j=s.se j)→s1.fi k = -1→s1.se k = -1 →
    ((s.fi q = -1∧s1.fi q=k∧s1.se q=s.se q∧s1.wt=A++[q])∨(s.fi q ≠ -1∧s1.fi q=s.fi q∧s1.se q=k∧s1.wt=A))→TJ xs (tstep s k (xs.getD k 0)) (k+1):=fun s1 e g1 g2 g3 g4 g5=>by
    have e2:tstep s k (xs.getD k 0)=⟨s1.fi,s1.se,s1.pa,s1.wt++(if xs.getD k 0=2 then [k] else [])⟩:=by
     unfold tstep
     rw [e]
     rcases c02 with h | h<;>rw [h]<;>simp
    rw [e2]
    refine tj_step J hA (fun p hp=>(hI.wlt p hp).1) hI.asc rfl hE g1 g2 g3 g4 ?_
    rcases g5 with ⟨a1,a2,a3,a4⟩ | ⟨a1,a2,a3,a4⟩
    ·exact .inl ⟨a1,a2,a3,by dsimp only;rw [a4]⟩
    exact .inr ⟨a1,a2,a3,by dsimp only;rw [a4]⟩
   by_cases hf:s.fi q<0
   ·refine key ⟨up (up s.fi k (-1)) q k,up s.se k (-1),up (up s.pa k (-1)) k q,s.wt⟩ ?_ (fun j hj hjq => ?_) (fun j hj _=>Ke _ _ (by omega)) ?_ (Yy _ _ _) (.inl ⟨?_,Yy _ _ _,Ke _ _ (by omega),hA⟩)
    ·unfold tkid;rw [hql];dsimp only;rw [hqn,if_pos hf]
    ·show up (up s.fi k (-1)) q k j=_
     rw [Ke _ _ hjq,Ke _ _ (by omega)]
    ·show up (up s.fi k (-1)) q k k=_
     rw [Ke _ _ (by omega),Yy]
    rcases J.fip q hqk with h | h
    ·exact h
    omega
   refine key ⟨up s.fi k (-1),up (up s.se k (-1)) q k,up (up s.pa k (-1)) k q,s.wt.dropLast⟩ ?_ (fun j hj _=>Ke _ _ (by omega)) (fun j hj hjq => ?_) (Yy _ _ _) ?_ (.inr ⟨by omega,Ke _ _ (by omega),Yy _ _ _,?_⟩)
   ·unfold tkid;rw [hql];dsimp only;rw [hqn,if_neg hf]
   ·show up (up s.se k (-1)) q k j=_
    rw [Ke _ _ hjq,Ke _ _ (by omega)]
   ·show up (up s.se k (-1)) q k k=_
    rw [Ke _ _ (by omega),Yy]
   show s.wt.dropLast=A
   rw [hA];simp
variable {i:Nat}
theorem tree_kids (hs:shp xs=true) (hi:i<xs.length) :
 (xs.getD i 0≠2→(trun xs xs.length).fi i = -1∧(trun xs xs.length).se i = -1) ∧
 (xs.getD i 0=2→(trun xs xs.length).fi i=i+1∧∃ e:Nat,(trun xs xs.length).se i=e∧pre xs e+1=pre xs (i+1)∧i+1≤e∧∀ t,i+1≤t→t<e→pre xs (i+1)≤pre xs t):=by
 have J:=tj_run xs hs xs.length (Nat.le_refl _)
 have hw:=(Zbn xs hs).2
 refine ⟨J.no2 i hi,fun h => ?_⟩
 rcases J.yes i hi h with h2 | ⟨h2,h3⟩
 ·rw [hw] at h2;simp at h2
 exact ⟨(J.fip i hi).resolve_left h2,(J.sep i hi).resolve_left h3⟩
theorem pre_succ {t:Nat} (h:t<xs.length):pre xs (t+1)=pre xs t+(xs[t]-1):=by
 show pre xs t+(xs.getD t 0-1)=_
 rw [List.getD_eq_getElem?_getD,List.getElem?_eq_getElem h];rfl
theorem shp_02 (hs:shp xs=true) {t:Nat} (h:t<xs.length):xs[t]=0∨xs[t]=2:=by
 obtain ⟨m,hI,hF⟩:=run_ok xs hs t (by omega)
 rw [List.drop_eq_getElem_cons h,shpF] at hF
 split at hF
 ·cases hF
 split at hF
 ·cases hF
 omega
theorem pre_bd {xs:List Int} (hs:shp xs=true):∀ k,k≤xs.length → -(k:Int)≤pre xs k∧pre xs k≤k
 | 0,_=>by simp [pre]
 | k+1,hk=>by
   have h1:=pre_bd hs k (by omega)
   have h2:=shp_02 hs (show k<xs.length by omega)
   rw [pre_succ (by omega)]
   omega
end Tr
end Go.Proofs.YtdbehgbggaaipaaGreat
namespace Go.Proofs.YtdbehgbggaaipaaGreat
open Go.RowKit Go.Deep
variable {J:World→Prop}
namespace En
def gbV (r:Ru) (n t f:Int) (k:Nat):Int:=evN (r.gz.getD k default).bd.c (r.gz.getD k default).bd.n (r.gz.getD k default).bd.t (r.gz.getD k default).bd.f n t f
def bdAt (p:Fm) (n t f:Int) (i k:Nat):Int:=if i<p.rz.length∧k<(p.rz.getD i default).gz.length then gbV (p.rz.getD i default) n t f k else 0
def bdP (p:Fm) (n t f:Int) (R K q:Nat):Int:=if q / 2<R∨(q / 2=R∧q % 2<K) then bdAt p n t f (q / 2) (q % 2) else 0
def shS (top:Int) (c:Nat):List (List Int):=if top=4 then Sh.shX (c:Int) else if top=2∨top=3 then [[]] else []
def cLkS (top:Int) (c:Nat) (sh:List Int):List AV:=[Jd.lkA top sh c]
def lkS (top:Int) (c:Nat):AV:=slA 1 (cLkS top c) (shS top c)
def sysB (p:Fm) (n t f:Int) (R K:Nat) (sh li:AV):List AV:=midF (cFm p++[iv n,iv t,iv f,iv (Ns.cntE p n f),iv (n-f)]) 16 (fun q=>iv (bdP p n t f R K q)) [sh,li]
def sysP (p:Fm) (n t f:Int):List AV:=sysB p n t f p.rz.length 0 (slA 1 cLi (Ns.shT p.top (Ns.cntE p n f))) (lkS p.top (Ns.cntE p n f).toNat)
variable {p:Fm}{n t f:Int}{R K:Nat}
theorem sysB_len {sh li:AV}:(sysB p n t f R K sh li).length=33:=by
 unfold sysB
 rw [midF_len];rfl
variable {x:Int}
theorem sysB_step {sh li:AV} (hR:R<p.rz.length) (h8:p.rz.length≤8) (hK:K<p.rz[R].gz.length) (h2:p.rz[R].gz.length≤2)
 (hx:x=evN p.rz[R].gz[K].bd.c p.rz[R].gz[K].bd.n p.rz[R].gz[K].bd.t p.rz[R].gz[K].bd.f n t f):setAll (sysB p n t f R K sh li) (15+R*2+K*1) [iv x]=sysB p n t f R (K+1) sh li:=by
 have d1:(2*R+K) / 2=R:=by omega
 have d2:(2*R+K) % 2=K:=by omega
 have e1:p.rz.getD R default=p.rz[R]:=by rw [List.getD_eq_getElem?_getD,List.getElem?_eq_getElem hR];rfl
 have e2:p.rz[R].gz.getD K default=p.rz[R].gz[K]:=by rw [List.getD_eq_getElem?_getD,List.getElem?_eq_getElem hK];rfl
 refine midF_set (i:=2*R+K) (by omega) (by show 15+(2*R+K)=_;omega) ?_ fun j hj hne => ?_
 ·congr 2
  unfold bdP
  rw [d1,d2,if_pos (.inr ⟨rfl,by omega⟩)]
  unfold bdAt
  rw [e1,if_pos ⟨hR,hK⟩,hx]
  unfold gbV
  rw [e2]
 refine congrArg iv ?_
 unfold bdP
 by_cases c:j / 2<R∨(j / 2=R∧j % 2<K)
 ·rw [if_pos c,if_pos (by omega)]
 rw [if_neg c,if_neg (by omega)]
theorem sysB_row {sh li:AV} (hR:R<p.rz.length) (hK:¬ K<p.rz[R].gz.length):sysB p n t f (R+1) 0 sh li=sysB p n t f R K sh li:=by
 have e1:p.rz.getD R default=p.rz[R]:=by rw [List.getD_eq_getElem?_getD,List.getElem?_eq_getElem hR];rfl
 refine midF_congr fun j hj=>congrArg iv ?_
 unfold bdP
 by_cases c:j / 2<R∨(j / 2=R∧j % 2<K)
 ·rw [if_pos c,if_pos (by omega)]
 rw [if_neg c]
 by_cases d:j / 2=R
 ·rw [if_pos (by omega),d]
  unfold bdAt
  rw [e1,if_neg (by omega)]
 rw [if_neg (by omega)]
theorem sysP_bd {sh li:AV} (hR:R<p.rz.length) (h8:p.rz.length≤8) (hK:K<p.rz[R].gz.length) (h2:p.rz[R].gz.length≤2) :
 (sysB p n t f p.rz.length 0 sh li)[15+R*2+K*1]? = some (iv (gbV p.rz[R] n t f K)):=by
 have e1:p.rz.getD R default=p.rz[R]:=by rw [List.getD_eq_getElem?_getD,List.getElem?_eq_getElem hR];rfl
 have d1:(2*R+K) / 2=R:=by omega
 have d2:(2*R+K) % 2=K:=by omega
 refine (midF_get (i:=2*R+K) (by omega) (by show 15+(2*R+K)=_;omega)).trans ?_
 congr 2
 unfold bdP
 rw [d1,d2,if_pos (.inl hR)]
 unfold bdAt
 rw [e1,if_pos ⟨hR,hK⟩]
theorem plain_lkA (top:Int) (sh:List Int) (c:Nat):Plain (Jd.lkA top sh c) := .sl (ZN fun X hX=>by obtain ⟨j,_,rfl⟩:=List.mem_map.1 hX;exact .v _)
theorem plain_lkS (top:Int) (c:Nat):Plain (lkS top c):=Wy (fun sh X hX=>by
 unfold cLkS at hX
 rw [List.mem_singleton.1 hX];exact plain_lkA _ _ _) _
theorem plain_sysB (p:Fm) (n t f:Int) (R K:Nat) {sh li:AV} (h1:Plain sh) (h2:Plain li):∀ X∈sysB p n t f R K sh li,Plain X:=by
 intro X hX
 unfold sysB midF at hX
 rcases List.mem_append.1 hX with h | h
 ·rcases List.mem_append.1 h with h | h
  ·exact ZQ p X h
  simp only [List.mem_cons,List.not_mem_nil,or_false] at h
  rcases h with rfl | rfl | rfl | rfl | rfl<;>exact .v _
 rcases List.mem_append.1 h with h | h
 ·obtain ⟨j,_,rfl⟩:=List.mem_map.1 h;exact .v _
 simp only [List.mem_cons,List.not_mem_nil,or_false] at h
 rcases h with rfl | rfl
 ·exact h1
 exact h2
theorem plain_sysP (p:Fm) (n t f:Int):∀ X∈sysP p n t f,Plain X:=plain_sysB p n t f _ _ (Wy ZcW _) (plain_lkS _ _)
theorem shX_is {c:Nat}:∀ xs∈Sh.shX (c:Int),xs.length=c∧shp xs=true:=by
 unfold Sh.shX
 split
 ·intro xs h;cases h
 split
 ·intro xs h;cases h
 rename_i h1 h2
 rw [Int.toNat_natCast]
 obtain rfl | rfl | rfl | rfl:c=1∨c=3∨c=5∨c=7:=by omega
 all_goals decide +kernel
theorem lkS_tree {c:Nat}:slA 1 Ns.cLk (Sh.shX (c:Int))=lkS 4 c:=by
 unfold lkS shS
 rw [if_pos rfl]
 unfold slA
 congr 1
 rw [List.flatMap_def,List.flatMap_def]
 refine congrArg List.flatten (List.map_congr_left fun sh hsh => ?_)
 unfold Ns.cLk cLkS
 rw [Jd.lkA_tree,(shX_is sh hsh).1]
variable {top:Int}
theorem lkS_row {c:Nat} (h:top=2∨top=3):AV.sl 1 1 [.sl 3 c (Ns.lkZ top c c)]=lkS top c:=by
 unfold lkS shS
 rw [if_neg (by omega),if_pos h,Jd.lkZ_row (sh:=[]) (by omega)]
 rfl
theorem lkS_no {c:Nat} (h:¬ top=2) (h':¬ top=3) (h4:¬ top=4):AV.sl 1 0 []=lkS top c:=by
 unfold lkS shS
 rw [if_neg h4,if_neg (by omega)]
 rfl
end En
namespace En
def cfV (s:Int) (c:Cf):List AV :=
 [iv s,iv (c.st.getD 0 0),iv (c.st.getD 1 0),iv (c.st.getD 2 0),iv (c.st.getD 3 0),iv (c.st.getD 4 0),iv (c.st.getD 5 0),iv (c.st.getD 6 0),iv (c.st.getD 7 0),
  iv (c.se.getD 0 0),iv (c.se.getD 1 0),iv (c.se.getD 2 0),iv (c.fa.getD 0 0),iv (c.fa.getD 1 0),iv (c.fa.getD 2 0),iv c.val]
theorem plain_cfV (s:Int) (c:Cf):∀ X∈cfV s c,Plain X:=by
 intro X hX
 simp only [cfV,List.mem_cons,List.not_mem_nil,or_false] at hX
 rcases hX with rfl | rfl | rfl | rfl | rfl | rfl | rfl | rfl | rfl | rfl | rfl | rfl | rfl | rfl | rfl | rfl<;>exact .v _
variable {s:Int}{c:Cf}{k:Nat}
theorem cfV_st (h:k<8):(cfV s c)[1+k*1]? = some (iv (c.st.getD k 0)):=by
 obtain rfl | rfl | rfl | rfl | rfl | rfl | rfl | rfl:k=0∨k=1∨k=2∨k=3∨k=4∨k=5∨k=6∨k=7:=by omega
 all_goals rfl
theorem cfV_fa (h:k<3):(cfV s c)[12+k*1]? = some (iv (c.fa.getD k 0)):=by
 obtain rfl | rfl | rfl:k=0∨k=1∨k=2:=by omega
 all_goals rfl
theorem cfV_row (h:c.st.length≤8):((cfV s c).drop 1).take c.st.length=c.st.map iv:=by
 apply List.ext_getElem?
 intro j
 rw [List.getElem?_take]
 by_cases hj:j<c.st.length
 ·rw [if_pos hj,List.getElem?_drop,List.getElem?_map,List.getElem?_eq_getElem hj,Option.map_some]
  have:=cfV_st (s:=s) (c:=c) (k:=j) (by omega)
  rw [Nat.mul_one,Ct.getD_at hj] at this
  exact this
 rw [if_neg hj,List.getElem?_map,List.getElem?_eq_none (by omega)];rfl
def hdV (p:Fm) (f:Int) (c:Cf) (m:Nat):Int:=if p.fzz=1∨p.fzz=2 then c.se.getD m 0+c.fa.getD m 0 else if p.fzz=3 then c.se.getD m 0+f else c.se.getD m 0
def hdJ (p:Fm) (f:Int) (c:Cf) (j m:Nat):Int:=if m<j then hdV p f c m else c.se.getD m 0
def msA (g:Nat→Int):List AV:=midF [] 3 (fun m=>iv (g m)) []
theorem plain_msA (g:Nat→Int):∀ X∈msA g,Plain X:=by
 intro X hX
 unfold msA midF at hX
 rw [List.nil_append,List.append_nil] at hX
 obtain ⟨j,_,rfl⟩:=List.mem_map.1 hX;exact .v _
theorem msA_get {g:Nat→Int} (h:k<3):(msA g)[0+k*1]? = some (iv (g k)):=midF_get (i:=k) h (by show 0+k=_;omega)
variable {p:Fm}{f x:Int}{j:Nat}
theorem msA_step (h:j<3) (hx:x=hdV p f c j):setAll (msA (hdJ p f c j)) (0+j*1) [iv x]=msA (hdJ p f c (j+1)) :=
 midF_set (i:=j) h (by show 0+j=_;omega) (by unfold hdJ;rw [if_pos (by omega),hx]) fun k _ hne=>by
  refine congrArg iv ?_
  unfold hdJ
  by_cases a:k<j
  ·rw [if_pos a,if_pos (by omega)]
  rw [if_neg a,if_neg (by omega)]
theorem hdJ_skip (h1:¬ p.fzz=1) (h2:¬ p.fzz=2) (h3:¬ p.fzz=3):hdJ p f c (j+1)=hdJ p f c j:=by
 funext k
 unfold hdJ
 by_cases a:k<j
 ·rw [if_pos a,if_pos (by omega)]
 rw [if_neg a]
 by_cases b:k<j+1
 ·rw [if_pos b];unfold hdV;rw [if_neg (by omega),if_neg h3]
 rw [if_neg b]
theorem hdJ_at :hdJ p f c j j=c.se.getD j 0:=by unfold hdJ;rw [if_neg (by omega)]
theorem hd_12 (h:p.fzz=1∨p.fzz=2):hdJ p f c j j+c.fa.getD j 0=hdV p f c j:=by rw [hdJ_at];unfold hdV;rw [if_pos h]
theorem hd_3 (h:¬ p.fzz=1) (h2:¬ p.fzz=2) (h3:p.fzz=3):hdJ p f c j j+f=hdV p f c j:=by rw [hdJ_at];unfold hdV;rw [if_neg (by omega),if_pos h3]
def hdG (p:Fm) (f:Int) (c:Cf) (fo:Bool):Nat→Int:=if fo=true then (if p.fzz=1 then hdJ p f c p.msgs.length else fun m=>c.se.getD m 0) else hdJ p f c p.msgs.length
def isP (n:Nat) (i:Int):Bool:=decide (0≤i)&&decide (i<(n:Int))
def ptB (c:Cf) (r:Ru) (i:Nat) (k:Int):Bool:=if r.kind=2∨r.kind=5 then isP c.st.length k && !decide (k=(i:Int))&&decide (c.st.getD k.toNat 0=r.pf) else decide (k = -1)
def rdN (c:Cf) (r:Ru):Bool:=decide (0≤r.rd) && !decide (c.val=r.rd)
def gdN (n t f:Int) (g:Nat→Int) (q:Th):Bool:=decide (q.coef*g q.msg.toNat<evN q.bd.c q.bd.n q.bd.t q.bd.f n t f)
def faN (c:Cf) (r:Ru) (i j:Nat):Bool := !decide (j=i)&&(decide (0<r.fa.length) && !decide (c.st.getD j 0∈r.fa))
def exY (c:Cf) (r:Ru) (i j:Nat):Bool := !decide (j=i)&&decide (c.st.getD j 0∈r.ex)
def exU (c:Cf) (r:Ru) (i J:Nat):Bool:=decide ((r.ex.length:Int)=0)||(List.range J).any (exY c r i)
def noF (c:Cf) (r:Ru) (i J:Nat):Prop:=∀ j,j<J→faN c r i j=false
def loB (n t f:Int) (c:Cf) (r:Ru) (g:Nat→Int) (i:Nat):Bool := !rdN c r&&(!r.gz.any (gdN n t f g)&&(!(List.range c.st.length).any (faN c r i)&&exU c r i c.st.length))
variable {r:Ru}{i:Nat}
theorem noF_zero :noF c r i 0:=fun _ h=>absurd h (by omega)
theorem noF_succ {i J:Nat} (h:noF c r i J) (e:faN c r i J=false):noF c r i (J+1):=fun j hj=>by
 by_cases a:j=J
 ·subst a;exact e
 exact h j (by omega)
theorem exU_zero :exU c r i 0=decide ((r.ex.length:Int)=0):=by unfold exU;simp
theorem Zc6 {i J:Nat}:exU c r i (J+1)=(exU c r i J||exY c r i J):=by unfold exU;rw [List.range_succ,List.any_append];simp [Bool.or_assoc]
theorem exU_same {i J:Nat} (h:J=i):exU c r i (J+1)=exU c r i J:=by rw [Zc6];unfold exY;rw [decide_eq_true h];simp
theorem exU_t {i J:Nat} (h:exU c r i J=true):exU c r i (J+1)=true:=by rw [Zc6,h];rfl
theorem exU_f {i J:Nat} (hJ:J<c.st.length) (h:exU c r i J=false) (hne:¬ J=i):exU c r i (J+1)=decide (c.st[J]∈r.ex):=by rw [Zc6,h];unfold exY;rw [decide_eq_false hne,Ct.getD_at hJ];rfl
variable {n t:Int}
theorem lo_rd {g:Nat→Int} (h:rdN c r=true):loB n t f c r g i=false:=by unfold loB;rw [h];rfl
theorem lo_gd {g:Nat→Int} (hk:k<r.gz.length) (h:r.gz[k].coef*g r.gz[k].msg.toNat<gbV r n t f k):loB n t f c r g i=false:=by
 have:r.gz.any (gdN n t f g)=true:=by
  refine Rd.any_one hk ?_
  unfold gdN
  unfold gbV at h
  rw [List.getD_eq_getElem?_getD,List.getElem?_eq_getElem hk,Option.getD_some] at h
  exact decide_eq_true h
 unfold loB
 rw [this]
 simp
theorem gd_no {g:Nat→Int} (hk:k<r.gz.length) (h:¬ r.gz[k].coef*g r.gz[k].msg.toNat<gbV r n t f k):gdN n t f g r.gz[k]=false:=by
 unfold gdN
 unfold gbV at h
 rw [List.getD_eq_getElem?_getD,List.getElem?_eq_getElem hk,Option.getD_some] at h
 exact decide_eq_false h
theorem lo_fa {g:Nat→Int} (hj:j<c.st.length) (h:faN c r i j=true):loB n t f c r g i=false:=by
 have:(List.range c.st.length).any (faN c r i)=true:=List.any_eq_true.2 ⟨j,List.mem_range.2 hj,h⟩
 unfold loB
 rw [this]
 simp
theorem lo_ex {g:Nat→Int} (h:rdN c r=false) (hk:¬ k<r.gz.length) (h2:Rd.noP r.gz (gdN n t f g) k) (hj:¬ j<c.st.length) (hjl:j≤c.st.length) (h3:noF c r i j):loB n t f c r g i=exU c r i j:=by
 obtain rfl:j=c.st.length:=by omega
 have h4:(List.range c.st.length).any (faN c r i)=false:=List.any_eq_false.2 fun x hx=>by
  have:=h3 x (List.mem_range.1 hx)
  simp [this]
 unfold loB
 rw [h,Rd.any_none hk h2,h4]
 rfl
theorem fa_same (h:j=i):faN c r i j=false:=by unfold faN;rw [decide_eq_true h];rfl
theorem fa_none (h:¬ 0<(r.fa.length:Int)):faN c r i j=false:=by unfold faN;rw [decide_eq_false (show ¬ 0<r.fa.length by omega)];simp
theorem fa_in (hj:j<c.st.length) (h:decide (c.st[j]∈r.fa)=true):faN c r i j=false:=by unfold faN;rw [Ct.getD_at hj,h];simp
theorem fa_out (hj:j<c.st.length) (hne:¬ j=i) (h0:0<(r.fa.length:Int)) (h:decide (c.st[j]∈r.fa)=false):faN c r i j=true:=by
 unfold faN;rw [Ct.getD_at hj,h,decide_eq_false hne,decide_eq_true (show 0<r.fa.length by omega)];rfl
def lkP (top:Int) (sh:List Int) (n i:Nat):Int:=if top=4 then (trun sh sh.length).pa i else (rowL top n i).2.2
def fitB (c:Cf) (w:Int) (l:List Int):Bool:=decide ((l.length:Int)=0)||(decide (0≤w)&&decide (c.st.getD w.toNat 0∈l))
def nbB (top:Int) (c:Cf) (r:Ru) (i:Nat):Bool :=
 !(decide (r.pos=1) && !decide ((i:Int)=0))&&(!(decide (r.pos=2)&&decide (0≤Jd.lkS top c.sh c.st.length i)) &&
   (fitB c (Jd.lkF top c.sh c.st.length i) r.left&&(fitB c (Jd.lkS top c.sh c.st.length i) r.right&&fitB c (lkP top c.sh c.st.length i) r.pz)))
def psB (top:Int) (c:Cf) (r:Ru) (i:Nat) (k:Int):Bool :=
 if r.dir=1 then decide (k=Jd.lkS top c.sh c.st.length i) else if r.dir=2 then decide (k=Jd.lkF top c.sh c.st.length i)
 else if r.dir=3 then decide (k=Jd.lkF top c.sh c.st.length i)||decide (k=Jd.lkS top c.sh c.st.length i) else decide (k=lkP top c.sh c.st.length i)
def enR (top n t f:Int) (c:Cf) (g:Nat→Int) (r:Ru) (i:Nat) (k:Int):Bool :=
 decide (c.st.getD i 0=r.frm)&&(ptB c r i k&&(if r.kind=1 then loB n t f c r g i else if r.kind=4 then nbB top c r i else if r.kind=5 then psB top c r i k else decide (r.rd<0)||decide (c.val=r.rd)))
def enB (p:Fm) (n t f:Int) (c:Cf) (g:Nat→Int) (x y k:Int):Bool :=
 isP p.rz.length x&&(isP c.st.length y&&enR p.top n t f c g (p.rz.getD x.toNat default) y.toNat k)
variable {top:Int}{sh:List Int}
theorem lk_el {n i:Nat} (h:i<n):(((List.range (n*3)).map fun j=>iv (Jd.lkC top sh n j)).drop (i*3)).take 3=[iv (Jd.lkF top sh n i),iv (Jd.lkS top sh n i),iv (lkP top sh n i)]:=by
 have e2:Jd.lkC top sh n (i*3+2)=lkP top sh n i:=by
  unfold Jd.lkC lkP
  rw [if_neg (by omega),if_neg (by omega),show (i*3+2) / 3=i by omega,show (((i*3+2:Nat):Int)) / 3=(i:Int) by omega]
 apply List.ext_getElem?
 intro j
 rw [List.getElem?_take]
 by_cases hj:j<3
 ·rw [if_pos hj,List.getElem?_drop,List.getElem?_map,List.getElem?_range (by omega),Option.map_some]
  obtain rfl | rfl | rfl:j=0∨j=1∨j=2:=by omega
  ·rw [Nat.add_zero,Jd.lkC_F];rfl
  ·rw [Jd.lkC_S];rfl
  rw [e2];rfl
 rw [if_neg hj,List.getElem?_eq_none (by simp;omega)]
theorem links_at {n:Nat} (hs:(shS top n)[s.toNat]? = some c.sh) (hn:n=c.st.length):((shS top n).flatMap (cLkS top n))[s.toNat*1]? = some (Jd.lkA top c.sh c.st.length):=by
 obtain ⟨h1,h2⟩:=List.getElem?_eq_some_iff.1 hs
 have:=Wj (z:=1) (f:=cLkS top n) (fun _=>rfl) (shS top n) s.toNat 0 h1 (by decide)
 rw [Nat.add_zero] at this
 rw [this,h2,← hn]
 rfl
variable {a b:Int}
theorem mulW (h1:1≤a) (h2:a≤100) (h3:0≤b) (h4:b≤3000000):IntKind.i64.wrap (a*b)=a*b:=by
 have h5:0≤a*b:=Int.mul_nonneg (by omega) h3
 have h6:a*b≤100*3000000:=Int.mul_le_mul h2 h4 h3 (by omega)
 exact w64 rfl (by omega) (by omega)
structure RuV (p:Fm) (r:Ru):Prop where
 kd:1≤r.kind∧r.kind≤5
 kt:r.kind≤3↔p.top=1
 gd:∀ g∈r.gz,0≤g.msg∧g.msg<p.msgs.length∧1≤g.coef∧g.coef≤100
 gl:r.gz.length≤2
 rd:r.rd = -1∨(0≤r.rd∧r.rd<p.vals.length)
 wr:r.wr = -1∨(0≤r.wr∧r.wr<p.vals.length)
 em:¬ r.kind=1→¬ r.kind=2→¬ r.kind=3→r.rd = -1∧r.wr = -1
 po:r.kind=4→r.pos≠0→p.top≠3
 pi:r.kind=4→0≤r.pos∧r.pos≤2
 dr:r.kind=5→(p.top=4→r.dir=3∨r.dir=4)∧(p.top≠4→r.dir=1∨r.dir=2)
 tf:(0≤r.to∧r.to<p.sz.length)∧(0≤r.frm∧r.frm<p.sz.length)
 pt:r.kind=2∨r.kind=5→0≤r.pt∧r.pt<p.sz.length
 re:r.kind=3→r.resp.length=p.sz.length∧∀ x∈r.resp,0≤x∧x<p.sz.length
 se:∀ x∈r.send,0≤x∧x<p.msgs.length
 sk:¬ r.kind=1→r.send=[]
theorem Zd0 {n:Nat} (h:ixB n x=true):0≤x∧x<n:=by
 unfold ixB inB at h
 simp only [Bool.and_eq_true,decide_eq_true_eq] at h
 omega
variable {xs:List Int}
theorem set_in {n:Nat} (h:setE n xs=0):∀ x∈xs,0≤x∧x<n:=by
 unfold setE at h
 split at h
 ·cases h
 rename_i h1
 intro x hx
 simp only [Bool.not_eq_false,allK,List.take_length,List.all_eq_true] at h1
 exact Zd0 (h1 x hx)
theorem gus_in {n:Nat}:∀ {gs:List Th},gusE n gs=0→∀ g∈gs,guE n g=0
 | [],_,g,hg=>by cases hg
 | a::l,h,g,hg=>by
   unfold gusE at h
   split at h
   ·rename_i h1
    rcases List.mem_cons.1 hg with rfl | hg
    ·exact h1
    exact gus_in h g hg
   rename_i h1;exact absurd h h1
theorem gu_in {n:Nat} {g:Th} (h:guE n g=0):0≤g.msg∧g.msg<n∧1≤g.coef∧g.coef≤100:=by
 unfold guE at h
 split at h
 ·cases h
 rename_i h1
 split at h
 ·cases h
 rename_i h2
 have h3:=Zd0 (by simpa using h1)
 unfold inB at h2
 simp only [Bool.not_eq_false,Bool.and_eq_true,decide_eq_true_eq] at h2
 omega
theorem sh_in {n:Nat} (h:shE n a b=0):(a = -1∨(0≤a∧a<n))∧(b = -1∨(0≤b∧b<n)):=by
 unfold shE at h
 split at h
 ·cases h
 rename_i h1
 simp only [not_or,not_and,Bool.not_eq_false] at h1
 constructor
 ·by_cases e:a = -1
  ·exact .inl e
  exact .inr (Zd0 (h1.1 e))
 by_cases e:b = -1
 ·exact .inl e
 exact .inr (Zd0 (h1.2 e))
theorem val_rule (h:valE p=0) (hr:r∈p.rz):∃ i,rruleE p i r=0:=by
 unfold valE at h
 split at h
 ·cases h
 split at h
 ·cases h
 split at h
 ·cases h
 rename_i hst
 split at h
 ·cases h
 split at h
 ·cases h
 split at h
 ·cases h
 split at h
 ·cases h
 have a3:=ZL (ZL (ZL h).2).2
 obtain ⟨j,hj,rfl⟩:=List.getElem_of_mem hr
 have:=Ns.rulesE_all _ _ a3.1 j (Nat.zero_le _) (by omega)
 rw [List.getD_eq_getElem?_getD,List.getElem?_eq_getElem hj,Option.getD_some] at this
 exact ⟨j,by rw [← rule_eq p j _ (fun e=>hst (by rw [e];rfl))];exact this⟩
theorem rule_in (h:rruleE p i r=0):RuV p r:=by
 unfold rruleE at h
 split at h
 ·cases h
 split at h
 ·cases h
 rename_i h1
 split at h
 ·cases h
 rename_i h2
 have hk:rkindB r p.top=true:=by simpa using h1
 unfold rkindB at hk
 rw [Bool.and_eq_true,Bool.and_eq_true] at hk
 obtain ⟨⟨k1,k2⟩,k3⟩:=hk
 have E:=(Zcc r p.top).1 (by simpa using k3)
 have hs:rstB r p.sz.length=true:=by simpa using h2
 unfold rstB at hs
 rw [Bool.and_eq_true,Bool.and_eq_true] at hs
 obtain ⟨⟨s1,s2⟩,s3⟩:=hs
 unfold inB at k1
 simp only [Bool.and_eq_true,decide_eq_true_eq] at k1
 have k2':r.kind≤3↔p.top=1:=by
  have:=eq_of_beq k2
  exact decide_eq_decide.1 this
 unfold rpartE at h
 have a0:=ZL h
 have a1:=ZL a0.2
 have a2:=ZL a1.2
 have a3:=ZL a2.2
 have a4:=ZL a3.2
 have a5:=ZL a4.2
 have a6:=ZL a5.2
 have a7:=ZL a6.2
 have a8:=ZL a7.2
 have a9:=ZL a8.2
 have hg:=a1.1
 unfold guardE at hg
 refine ⟨k1,k2',fun g hgm => ?_,?_,(sh_in a4.1).1,(sh_in a4.1).2,fun n1 n2 n3=>E.s n1 n2 n3,fun k4 hp => ?_,fun k4 => ?_,fun k5 => ?_,⟨Zd0 s2,Zd0 s1⟩,fun hpp => ?_,fun k3 => ?_,set_in a5.1,fun n1=>(E.g n1).2.2.2⟩
 ·split at hg
  ·rename_i g0
   exact gu_in (gus_in g0 g hgm)
  rename_i g0;exact absurd hg g0
 ·split at hg
  ·split at hg
   ·cases hg
   omega
  rename_i g0;exact absurd hg g0
 ·have hpo:=a9.1
  rw [if_pos k4] at hpo
  unfold posE at hpo
  split at hpo
  ·cases hpo
  rename_i hq
  intro h3
  exact hq (.inr ⟨hp,h3⟩)
 ·have hpo:=a9.1
  rw [if_pos k4] at hpo
  unfold posE at hpo
  split at hpo
  ·cases hpo
  rename_i hq
  have hq1:inB 0 2 r.pos=true:=by
   cases e:inB 0 2 r.pos with
   | true=>rfl
   | false=>exact absurd (.inl e) hq
  unfold inB at hq1
  simpa using hq1
 ·have hd:=a9.2
  rw [if_pos k5] at hd
  unfold dirE at hd
  constructor
  ·intro h4
   rw [if_pos h4] at hd
   split at hd
   ·assumption
   cases hd
  intro h4
  rw [if_neg h4] at hd
  split at hd
  ·assumption
  cases hd
 ·rw [Bool.or_eq_true] at s3
  rcases s3 with s3 | s3
  ·rw [Bool.not_eq_true',Bool.or_eq_false_iff,decide_eq_false_iff_not,decide_eq_false_iff_not] at s3
   omega
  rw [Bool.and_eq_true] at s3
  exact Zd0 s3.2
 have hre:=a0.1
 rw [if_pos k3] at hre
 unfold reE at hre
 split at hre
 ·cases hre
 rename_i hl
 split at hre
 ·cases hre
 rename_i h5
 refine ⟨by simpa using hl,fun x hx => ?_⟩
 simp only [Bool.not_eq_false,allK,List.take_length,List.all_eq_true] at h5
 exact Zd0 (h5 x hx)
theorem val_in (h:valE p=0) (hr:r∈p.rz):RuV p r:=by
 obtain ⟨i,h⟩:=val_rule h hr
 exact rule_in h
theorem val_sizes (h:valE p=0):p.rz.length≤8∧p.sz.length≤6∧p.msgs.length≤3∧p.vals.length≤3:=by
 unfold valE at h
 split at h
 ·cases h
 split at h
 ·cases h
 split at h
 ·cases h
 split at h
 ·cases h
 rename_i g
 exact Zbo (by simpa using g)
structure CfV (p:Fm) (n f:Int) (c:Cf):Prop where
 ln:(c.st.length:Int)=Ns.cntE p n f
 st:∀ x∈c.st,0≤x∧x<p.sz.length
 co:c.cor=n-f
 ls:c.se.length=p.msgs.length
 se:∀ x∈c.se,0≤x∧x≤1048576
 lf:c.fa.length=p.msgs.length
 fa:∀ x∈c.fa,0≤x∧x≤1048576
 fz:¬ p.fzz=1→¬ p.fzz=2→∀ x∈c.fa,x=0
 va:0≤c.val∧c.val<max (p.vals.length:Int) 1
 sh:Rd.shB p.top (Ns.shT p.top (Ns.cntE p n f)) c.sh=true
variable {m:Int}
theorem Zba (h:Rd.belB xs m=true):∀ x∈xs,0≤x∧x<m:=by
 intro x hx
 unfold Rd.belB at h
 rw [Bool.not_eq_true',List.any_eq_false] at h
 have:=h x hx
 unfold Rd.outB at this
 simp only [Bool.or_eq_true,decide_eq_true_eq,not_or] at this
 omega
theorem cf_in (h:Rd.rdX p n f c=true):CfV p n f c:=by
 unfold Rd.rdX Rd.rdB at h
 simp only [Bool.and_eq_true,Bool.not_eq_true',decide_eq_true_eq,decide_eq_false_iff_not] at h
 obtain ⟨⟨⟨⟨⟨⟨⟨⟨⟨h1,h2⟩,h3⟩,h4⟩,h5⟩,h6⟩,h7⟩,h8⟩,h9⟩,h10⟩:=h
 have hm:=Rd.mf_in p
 refine ⟨h2,Zba h3,h4,by omega,fun x hx => ?_,by omega,fun x hx => ?_,fun n1 n2 x hx => ?_,by omega,h1⟩
 ·have:=Zba h6 x hx;omega
 ·have:=Zba h8 x hx;omega
 have:=Zba h8 x hx
 unfold Rd.mfE at this
 rw [if_neg (by omega)] at this
 omega
theorem CfV.se_at (h:CfV p n f c) (m:Nat):0≤c.se.getD m 0∧c.se.getD m 0≤1048576:=by
 by_cases hm:m<c.se.length
 ·rw [Ct.getD_at hm];exact h.se _ (List.getElem_mem hm)
 rw [List.getD_eq_getElem?_getD,List.getElem?_eq_none (by omega)];exact ⟨by decide,by decide⟩
theorem CfV.fa_at (h:CfV p n f c) (m:Nat):0≤c.fa.getD m 0∧c.fa.getD m 0≤1048576:=by
 by_cases hm:m<c.fa.length
 ·rw [Ct.getD_at hm];exact h.fa _ (List.getElem_mem hm)
 rw [List.getD_eq_getElem?_getD,List.getElem?_eq_none (by omega)];exact ⟨by decide,by decide⟩
theorem hdV_in (h:CfV p n f c) (hf:0≤f∧f≤1048576) (m:Nat):0≤hdV p f c m∧hdV p f c m≤3000000:=by
 have h1:=h.se_at m
 have h2:=h.fa_at m
 unfold hdV
 split
 ·omega
 split<;>omega
theorem hdJ_in (h:CfV p n f c) (hf:0≤f∧f≤1048576) (j m:Nat):0≤hdJ p f c j m∧hdJ p f c j m≤3000000:=by
 have h1:=h.se_at m
 have h2:=hdV_in h hf m
 unfold hdJ
 split
 ·exact h2
 omega
theorem hdG_in (h:CfV p n f c) (hf:0≤f∧f≤1048576) (fo:Bool) (m:Nat):0≤hdG p f c fo m∧hdG p f c fo m≤3000000:=by
 have h1:=h.se_at m
 have h2:=hdJ_in h hf p.msgs.length m
 unfold hdG
 split
 ·split
  ·exact h2
  dsimp only;omega
 exact h2
theorem shI_at (h:CfV p n f c) (h1:¬ p.top=1) (ht:1≤p.top∧p.top≤4) (h0:0≤Ns.cntE p n f):0≤Rd.shI p.top (Ns.shT p.top (Ns.cntE p n f)) c.sh∧Rd.shI p.top (Ns.shT p.top (Ns.cntE p n f)) c.sh<(((shS p.top (Ns.cntE p n f).toNat).length:Nat):Int)∧(shS p.top (Ns.cntE p n f).toNat)[(Rd.shI p.top (Ns.shT p.top (Ns.cntE p n f)) c.sh).toNat]? = some c.sh:=by
 have hs:=h.sh
 obtain ⟨m,hm⟩:=Int.eq_ofNat_of_zero_le h0
 rw [hm] at hs ⊢
 rw [Int.toNat_natCast]
 by_cases h4:p.top=4
 ·rw [Rd.shB_tree h4,decide_eq_true_iff] at hs
  rw [Rd.shI_tree h4]
  unfold shS
  rw [if_pos h4]
  rw [Ns.shT_tree h4] at hs ⊢
  rw [Int.max_eq_left hs]
  unfold Rd.ixP at hs ⊢
  split
  ·rename_i i hi
   obtain ⟨a,b,_⟩:=List.findIdx?_eq_some_iff_getElem.1 hi
   refine ⟨by omega,by omega,?_⟩
   rw [Int.toNat_natCast,List.getElem?_eq_getElem a]
   have:=of_decide_eq_true b
   rw [this]
  rename_i hi
  rw [hi] at hs
  exact absurd hs (by decide)
 rw [Rd.shB_no h4,decide_eq_true_iff] at hs
 rw [Rd.shI_no h4]
 unfold shS
 rw [if_neg h4,if_pos (by omega)]
 have:c.sh=[]:=List.eq_nil_of_length_eq_zero (by omega)
 rw [this]
 exact ⟨by decide,by decide,rfl⟩
theorem sh_tree (h:CfV p n f c) (h4:p.top=4):isShp c.sh (c.st.length:Int)=true:=by
 have hs:=h.sh
 have hl:=h.ln
 rw [Rd.shB_tree h4,decide_eq_true_iff,Ns.shT_tree h4,← hl] at hs
 unfold Rd.ixP at hs
 split at hs
 ·rename_i i hi
  obtain ⟨a,b,_⟩:=List.findIdx?_eq_some_iff_getElem.1 hi
  have e:=of_decide_eq_true b
  have:=shX_is _ (List.getElem_mem a)
  rw [← e] at this
  unfold isShp
  rw [this.2,decide_eq_true (by omega)];rfl
 exact absurd hs (by decide)
theorem lk_ok (h:CfV p n f c) (h1:¬ p.top=1) (ht:1≤p.top∧p.top≤4) (hi:i<c.st.length):Jd.lkF p.top c.sh c.st.length i<(c.st.length:Int)∧Jd.lkS p.top c.sh c.st.length i<(c.st.length:Int)∧lkP p.top c.sh c.st.length i<(c.st.length:Int):=by
 by_cases h4:p.top=4
 ·have hs:=sh_tree h h4
  unfold isShp at hs
  simp only [Bool.and_eq_true,decide_eq_true_eq] at hs
  have hl:c.sh.length=c.st.length:=by omega
  have:=Jd.lk_tree hs.2 i (by omega)
  rw [h4,← hl]
  refine ⟨this.1,this.2,?_⟩
  unfold lkP
  rw [if_pos rfl]
  rcases (Zbn c.sh hs.2).1.par i (by omega) with e | ⟨q,hq,e,_⟩<;>omega
 have:=Jd.lk_row (sh:=c.sh) (n:=c.st.length) (show p.top=2∨p.top=3 by omega) i hi
 refine ⟨this.1,this.2,?_⟩
 unfold lkP
 rw [if_neg h4]
 unfold rowL
 dsimp only
 omega
end En
end Go.Proofs.YtdbehgbggaaipaaGreat
