import Derived.Test.YtengacodacejiaaGrpigjeemdo
import Derived.Test.YtengacodacejiaaGrppafemefo
import Derived.Test.YtengacodacejiaaGrpngnojgpl
set_option linter.all false
namespace Go.Proofs.Ytengacodacejiaa
open Go.RowKit Go.Deep
set_option maxHeartbeats 12800000
variable {J:World→Prop}
namespace En
theorem place_cx {top c:Int} (h0:0≤c) (h8:c≤8) (xs:Nat→Value):CtrW Try.prog J 62 [.box 1000000 0] 1000000 (.box 111 [.v (xs 0),iv top,.v (xs 2),.v (xs 3),.v (xs 4),.v (xs 5),.v (xs 6),.v (xs 7),.v (xs 8),.v (xs 9),.v (xs 10),.v (xs 11),.v (xs 12),iv c,.v (xs 14),.v (xs 15),.v (xs 16),.v (xs 17),.v (xs 18),.v (xs 19),.v (xs 20),.v (xs 21),.v (xs 22),.v (xs 23),.v (xs 24),.v (xs 25),.v (xs 26),.v (xs 27),.v (xs 28),.v (xs 29),.v (xs 30),.v (.slice none 0 0),.v (.slice none 0 0)]) (.box 111 [.v (xs 0),iv top,.v (xs 2),.v (xs 3),.v (xs 4),.v (xs 5),.v (xs 6),.v (xs 7),.v (xs 8),.v (xs 9),.v (xs 10),.v (xs 11),.v (xs 12),iv c,.v (xs 14),.v (xs 15),.v (xs 16),.v (xs 17),.v (xs 18),.v (xs 19),.v (xs 20),.v (xs 21),.v (xs 22),.v (xs 23),.v (xs 24),.v (xs 25),.v (xs 26),.v (xs 27),.v (xs 28),.v (xs 29),.v (xs 30),.fr (slA 1 cLi (Ns.shT top c)),.fr ((lkS top c.toNat))]) (.v (.tuple #[])):=by
  obtain ⟨m,rfl⟩:=Int.eq_ofNat_of_zero_le h0
  exact place_x (by omega) xs
theorem place_mx {p:Fm} {n t f:Int} (b:Nat→AV) (h0:0≤Ns.cntE p n f) (h8:Ns.cntE p n f≤8):∀ xs':Nat→Value,CtrW Try.prog J 62 [.box 1000000 0] 1000000 (.box 111 (maskC [true,false,true,true,true,true,true,true,true,true,true,true,true,false,true,true,true,true,true,true,true,true,true,true,true,true,true,true,true,true,true,false,false] xs' [sv p.nm,iv p.top,Zr p.states,Zr p.msgs,Zr p.vals,iv p.fault,slA 4 cLn p.res,Zc p.init,Zc p.leader,slA 18 cRu p.rules,iv n,iv t,iv f,iv (Ns.cntE p n f),iv (n-f),b 0,b 1,b 2,b 3,b 4,b 5,b 6,b 7,b 8,b 9,b 10,b 11,b 12,b 13,b 14,b 15,.v (.slice none 0 0),.v (.slice none 0 0)])) (.box 111 (maskC [true,false,true,true,true,true,true,true,true,true,true,true,true,false,true,true,true,true,true,true,true,true,true,true,true,true,true,true,true,true,true,false,false] xs' [sv p.nm,iv p.top,Zr p.states,Zr p.msgs,Zr p.vals,iv p.fault,slA 4 cLn p.res,Zc p.init,Zc p.leader,slA 18 cRu p.rules,iv n,iv t,iv f,iv (Ns.cntE p n f),iv (n-f),b 0,b 1,b 2,b 3,b 4,b 5,b 6,b 7,b 8,b 9,b 10,b 11,b 12,b 13,b 14,b 15,.fr (slA 1 cLi (Ns.shT p.top (Ns.cntE p n f))),.fr (En.lkS p.top (Ns.cntE p n f).toNat)])) (.v (.tuple #[])):=fun xs=>place_cx h0 h8 xs
end En
set_option maxRecDepth 100000 in
theorem newSystem_P {p:Fm} (HP:FmOk p) {n t f:Int} (hs:Ns.sysE p n t f=0):CtrA Try.prog J 40 [.agg (cFm p),.agg (cSz n t f)] (.tup [.el (En.sysP p n t f) 0,iv 0]):=by
 obtain ⟨hv,ha,h8⟩:=Ns.sys_ok hs
 obtain ⟨hr8,hg2⟩:=Ns.val_lims hv
 have hai:=Ns.adm_in ha
 have hc0:=Ns.cnt_lo (p:=p) hai
 have hc8:=Ns.cnt_hi (p:=p) hai h8
 refine Kt Try.func40 rfl (by intro X hX;simp only [List.mem_cons,List.not_mem_nil,or_false] at hX;rcases hX with rfl | rfl;exact Zi (YC p);exact Zi (YT n t f)) (n:=80) rfl (by simp) (fun w0 => ?_)
 refine kW 80 [] [(0,.agg (cFm p)),(1,.agg (cSz n t f))] (Zb (Za (ZF rfl (Yi (X := .agg (cFm p)) (k:=1) (.tmp 0) rfl rfl) ⟨I0,T0⟩ T0 rfl (ZF rfl (Yi (X := .agg (cSz n t f)) (k:=2) (.tmp 1) rfl rfl) ⟨I0,T0⟩ T0 rfl (pM (Yb (.const (.pointer none)) (.v (.pointer none)) rfl) (pM (aC (.int .i64 0)) (Ze (Zd (Zb (Zb (Za (oB (lS (cFm p) 10 2 U27) I0 rfl (oC (sc #[.tmp 12] [] (qValidate_c HP) [.agg (cFm p)] rfl rfl rfl) I0 I0 (pM (aT 13 (iv (valE p))) (Ze (Zd (Zb (Za (pM (mT 6 (iv (valE p))) (oC (Z0 rfl (dT' hv)) I0 I0 (Ze (Zd (Zp rfl ?_)))))))))))))))))))))))
 refine Zn (Zd (Zb (Zb (Za (oB (lS (cFm p) 10 2 U27) I0 rfl (oB (lS (cSz n t f) 3 3 U29) I0 rfl (oD (sc #[.tmp 17,.tmp 18] [] (Yd (Ns.adm_c HP hv) ha) [.agg (cFm p),.agg (cSz n t f)] rfl rfl rfl) I0 I0 I0 (oA (Ya rfl rfl) I0 (Ze (Zd (Zp rfl (Zn (Zd (Zb (Zb (Za (oA (fb 0 3 U29 1) I0 (oB (lb (iv n) 21 U3) I0 rfl (oC (sp_gtr rfl (dF h8)) I0 I0 (Ze (Zd (Zp rfl (Zn ?_)))))))))))))))))))))))
 refine Zd (Zb (Za (oB (lS (cFm p) 10 2 U27) I0 rfl (oB (lS (cSz n t f) 3 3 U29) I0 rfl (oA (fb 0 3 U29 1) I0 (oB (lb (iv n) 26 U3) I0 rfl (oA (fb 0 3 U29 1) I0 (oB (lb (iv n) 28 U3) I0 rfl (oA (fb 2 3 U29 1) I0 (oB (lb (iv f) 30 U3) I0 rfl (oC (sp_sub (c:=n-f) rfl (w64 (by omega) (by omega) (by omega))) I0 I0 (ZF rfl (sp_bldG [0,1,2,3] [.tmp 24,.tmp 25,.tmp 27,.tmp 32] [.agg (cFm p),.agg (cSz n t f),iv n,iv (n-f)] [.inr 0,.inr 1,.inr 2,.inr 3,.inr 4,.inr 5,.inr 6,.inr 7,.inr 8,.inr 9,.inr 10,.inr 11,.inr 12,.inr 13,.inr 14,.inl (.int .i64 0),.inl (.int .i64 0),.inl (.int .i64 0),.inl (.int .i64 0),.inl (.int .i64 0),.inl (.int .i64 0),.inl (.int .i64 0),.inl (.int .i64 0),.inl (.int .i64 0),.inl (.int .i64 0),.inl (.int .i64 0),.inl (.int .i64 0),.inl (.int .i64 0),.inl (.int .i64 0),.inl (.int .i64 0),.inl (.int .i64 0),.inl (.slice none 0 0),.inl (.slice none 0 0)] rfl rfl rfl rfl rfl (fun _=>by kernel_rfl) rfl (ds:=[sv p.nm,iv p.top,Zr p.states,Zr p.msgs,Zr p.vals,iv p.fault,slA 4 cLn p.res,Zc p.init,Zc p.leader,slA 18 cRu p.rules,iv n,iv t,iv f,iv n,iv (n-f),iv 0,iv 0,iv 0,iv 0,iv 0,iv 0,iv 0,iv 0,iv 0,iv 0,iv 0,iv 0,iv 0,iv 0,iv 0,iv 0,.v (.slice none 0 0),.v (.slice none 0 0)]) rfl) ⟨I0,I0,I0,I0,T0⟩ T0 T0 (ZF rfl (Yi (X := .agg [sv p.nm,iv p.top,Zr p.states,Zr p.msgs,Zr p.vals,iv p.fault,slA 4 cLn p.res,Zc p.init,Zc p.leader,slA 18 cRu p.rules,iv n,iv t,iv f,iv n,iv (n-f),iv 0,iv 0,iv 0,iv 0,iv 0,iv 0,iv 0,iv 0,iv 0,iv 0,iv 0,iv 0,iv 0,iv 0,iv 0,iv 0,.v (.slice none 0 0),.v (.slice none 0 0)]) (k:=3) (.tmp 33) rfl rfl) ⟨I0,T0⟩ T0 rfl (pM (aT 34 (.box 3 0)) (Ze (Zd (Zb (Zb (Za (oA (fb 5 2 U27 1) I0 (oB (lb (iv p.fault) 35 U3) I0 rfl (oC (ZA rfl rfl) I0 I0 (kN 80 [(1,.box 27 (cFm p)),(2,.box 29 (cSz n t f)),(3,.box 111 [sv p.nm,iv p.top,Zr p.states,Zr p.msgs,Zr p.vals,iv p.fault,slA 4 cLn p.res,Zc p.init,Zc p.leader,slA 18 cRu p.rules,iv n,iv t,iv f,iv n,iv (n-f),iv 0,iv 0,iv 0,iv 0,iv 0,iv 0,iv 0,iv 0,iv 0,iv 0,iv 0,iv 0,iv 0,iv 0,iv 0,iv 0,.v (.slice none 0 0),.v (.slice none 0 0)])] [(2,.box 1 0),(3,.box 2 0),(4,.v (.pointer none)),(5,iv 0),(7,.box 3 0),(37,bv (decide (p.fault=3)))] ?_)))))))))))))))))))))))
 refine Zd ?_
 refine t_cut (True) (ofL [(1,.box 27 (cFm p)),(2,.box 29 (cSz n t f)),(3,.box 111 [sv p.nm,iv p.top,Zr p.states,Zr p.msgs,Zr p.vals,iv p.fault,slA 4 cLn p.res,Zc p.init,Zc p.leader,slA 18 cRu p.rules,iv n,iv t,iv f,iv (Ns.cntE p n f),iv (n-f),iv 0,iv 0,iv 0,iv 0,iv 0,iv 0,iv 0,iv 0,iv 0,iv 0,iv 0,iv 0,iv 0,iv 0,iv 0,iv 0,.v (.slice none 0 0),.v (.slice none 0 0)])]) (ofT 80 [(2,.box 1 0),(3,.box 2 0),(4,.v (.pointer none)),(5,iv 0),(7,.box 3 0)]) ?_ (fun _ => ?_)
 by_cases hs1:p.fault=3
 rw [dT hs1]
 refine kW 80 [(1,.box 27 (cFm p)),(2,.box 29 (cSz n t f)),(3,.box 111 [sv p.nm,iv p.top,Zr p.states,Zr p.msgs,Zr p.vals,iv p.fault,slA 4 cLn p.res,Zc p.init,Zc p.leader,slA 18 cRu p.rules,iv n,iv t,iv f,iv n,iv (n-f),iv 0,iv 0,iv 0,iv 0,iv 0,iv 0,iv 0,iv 0,iv 0,iv 0,iv 0,iv 0,iv 0,iv 0,iv 0,iv 0,.v (.slice none 0 0),.v (.slice none 0 0)])] [(2,.box 1 0),(3,.box 2 0),(4,.v (.pointer none)),(5,iv 0),(7,.box 3 0),(37,bT)] (Zm rfl (Za (pM (mT 7 (.box 3 0)) (pM (mT 7 (.box 3 0)) (oA (ZL (off:=0) (.tmp 39) rfl) I0 (oA (fb 14 40 U111 1) I0 (oB (lb (iv (n-f)) 41 U3) I0 rfl (oA (ZL (off:=0) (.tmp 38) rfl) I0 (oA (fb 13 43 U111 1) I0 (ZF rfl (sB 1 44 (.tmp 42) (iv (n-f))) ⟨I0,I0,T0⟩ ⟨rfl,T0⟩ rfl (kN 80 [(1,.box 27 (cFm p)),(2,.box 29 (cSz n t f)),(3,.box 111 [sv p.nm,iv p.top,Zr p.states,Zr p.msgs,Zr p.vals,iv p.fault,slA 4 cLn p.res,Zc p.init,Zc p.leader,slA 18 cRu p.rules,iv n,iv t,iv f,iv (n-f),iv (n-f),iv 0,iv 0,iv 0,iv 0,iv 0,iv 0,iv 0,iv 0,iv 0,iv 0,iv 0,iv 0,iv 0,iv 0,iv 0,iv 0,.v (.slice none 0 0),.v (.slice none 0 0)])] [(2,.box 1 0),(3,.box 2 0),(4,.v (.pointer none)),(5,iv 0),(7,.box 3 0)] ?_)))))))))))
 rw [show Ns.cntE p n f=n-f from if_pos hs1]
 exact YV T0 (ZC _ _ rfl (by kernel_rfl) (by kernel_rfl))
 rw [dF hs1]
 refine kW 80 [(1,.box 27 (cFm p)),(2,.box 29 (cSz n t f)),(3,.box 111 [sv p.nm,iv p.top,Zr p.states,Zr p.msgs,Zr p.vals,iv p.fault,slA 4 cLn p.res,Zc p.init,Zc p.leader,slA 18 cRu p.rules,iv n,iv t,iv f,iv n,iv (n-f),iv 0,iv 0,iv 0,iv 0,iv 0,iv 0,iv 0,iv 0,iv 0,iv 0,iv 0,iv 0,iv 0,iv 0,iv 0,iv 0,.v (.slice none 0 0),.v (.slice none 0 0)])] [(2,.box 1 0),(3,.box 2 0),(4,.v (.pointer none)),(5,iv 0),(7,.box 3 0),(37,bF)] (Zp rfl (Zn ?_))
 rw [show Ns.cntE p n f=n from if_neg hs1]
 exact YV T0 (ZC _ _ rfl (by kernel_rfl) (by kernel_rfl))
 refine Zd (Zb (Zb (Za (oA (fb 9 2 U27 1) I0 (oB (lb (slA 18 cRu p.rules) 45 U25) I0 rfl (oA (nS 46 U25) I0 (pM (YL (.const (.int .i64 0)) (iv 0) rfl) (kN 80 [(2,.box 29 (cSz n t f)),(3,.box 111 [sv p.nm,iv p.top,Zr p.states,Zr p.msgs,Zr p.vals,iv p.fault,slA 4 cLn p.res,Zc p.init,Zc p.leader,slA 18 cRu p.rules,iv n,iv t,iv f,iv (Ns.cntE p n f),iv (n-f),iv 0,iv 0,iv 0,iv 0,iv 0,iv 0,iv 0,iv 0,iv 0,iv 0,iv 0,iv 0,iv 0,iv 0,iv 0,iv 0,.v (.slice none 0 0),.v (.slice none 0 0)])] [(3,.box 2 0),(4,.v (.pointer none)),(5,iv 0),(7,.box 3 0),(46,slA 18 cRu p.rules),(47,iv p.rules.length),(48,iv 0)] (Zd (ZD ?_))))))))))
 refine Yy (σ:={j:Nat // j≤p.rules.length}) (fun s=>(ofL [(2,.box 29 (cSz n t f)),(3,.box 111 (En.sysB p n t f s.1 0 (.v (.slice none 0 0)) (.v (.slice none 0 0))))],ofT 80 [(3,.box 2 0),(4,.v (.pointer none)),(5,iv 0),(7,.box 3 0),(46,slA 18 cRu p.rules),(47,iv p.rules.length),(48,iv s.1)])) (fun s=>p.rules.length-s.1) ⟨0,Nat.zero_le _⟩ (ZC _ _ rfl (by kernel_rfl) (by kernel_rfl)) (fun s => ?_)
 obtain ⟨j,hj0⟩:=s
 show ETri J w0 (ofL [(2,.box 29 (cSz n t f)),(3,.box 111 (En.sysB p n t f j 0 (.v (.slice none 0 0)) (.v (.slice none 0 0))))]) (ofT 80 [(3,.box 2 0),(4,.v (.pointer none)),(5,iv 0),(7,.box 3 0),(46,slA 18 cRu p.rules),(47,iv p.rules.length),(48,iv j)]) _
 refine Zb ?_
 by_cases hs2:((j:Nat):Int)<((p.rules.length:Nat):Int)
 have hj1:j<p.rules.length:=by omega
 have hgj:=hg2 _ (List.getElem_mem hj1)
 refine Za (oC (ZY rfl (dT hs2)) I0 I0 (Ze (Zd (Zb (Zm rfl (Zn (Zd (Zb (ZD (Zb (Za (pM (mT 48 (iv j)) (oC (xS (j*18) 46 48 U25) I0 I0 (oA (Zq (z:=18) (.tmp 51) rfl U65 rfl (by kernel_rfl) (flat_take lenRu p.rules j (by omega)) rfl) I0 (ZF rfl (ZJ (z := .agg #[.string (⟨#[]⟩),.int .i64 0,.int .i64 0,.int .i64 0,.int .i64 0,.int .i64 0,.slice none 0 0,.slice none 0 0,.slice none 0 0,.slice none 0 0,.int .i64 0,.int .i64 0,.slice none 0 0,.int .i64 0,.slice none 0 0,.slice none 0 0,.slice none 0 0,.int .i64 0]) (k:=4) rfl (by kernel_rfl)) T0 T0 rfl (pM (aT 50 (iv j)) (ZF rfl (sB 18 9 (.tmp 52) (.agg (cRu p.rules[j]))) ⟨I0,I0,T0⟩ ⟨rfl,T0⟩ rfl (Ze (Zd (Zb (Za (oA (fb 7 9 U65 1) I0 (oB (lb (slA 6 cTh p.rules[j].guards) 53 U63) I0 rfl ?_)))))))))))))))))))))))
 refine oA (nS 54 U63) I0 (pM (YL (.const (.int .i64 0)) (iv 0) rfl) (kN 80 [(2,.box 29 (cSz n t f)),(3,.box 111 (En.sysB p n t f j 0 (.v (.slice none 0 0)) (.v (.slice none 0 0)))),(4,.box 65 (cRu p.rules[j]))] [(3,.box 2 0),(4,.v (.pointer none)),(5,iv 0),(7,.box 3 0),(8,iv j),(9,.box 4 0),(46,slA 18 cRu p.rules),(47,iv p.rules.length),(48,iv j),(49,bT),(54,slA 6 cTh p.rules[j].guards),(55,iv (p.rules[j].guards.length:Nat)),(56,iv 0)] (Zd (ZD ?_))))
 refine Yy (σ:={k:Nat // k≤p.rules[j].guards.length}) (fun s=>(ofL [(2,.box 29 (cSz n t f)),(3,.box 111 (En.sysB p n t f j s.1 (.v (.slice none 0 0)) (.v (.slice none 0 0)))),(4,.box 65 (cRu p.rules[j]))],ofT 80 [(3,.box 2 0),(4,.v (.pointer none)),(5,iv 0),(7,.box 3 0),(8,iv j),(9,.box 4 0),(46,slA 18 cRu p.rules),(47,iv p.rules.length),(48,iv j),(49,bT),(54,slA 6 cTh p.rules[j].guards),(55,iv (p.rules[j].guards.length:Nat)),(56,iv s.1)])) (fun s=>p.rules[j].guards.length-s.1) ⟨0,Nat.zero_le _⟩ (ZC _ _ rfl (by kernel_rfl) (by kernel_rfl)) (fun s => ?_)
 obtain ⟨k,hk0⟩:=s
 show ETri J w0 (ofL [(2,.box 29 (cSz n t f)),(3,.box 111 (En.sysB p n t f j k (.v (.slice none 0 0)) (.v (.slice none 0 0)))),(4,.box 65 (cRu p.rules[j]))]) (ofT 80 [(3,.box 2 0),(4,.v (.pointer none)),(5,iv 0),(7,.box 3 0),(8,iv j),(9,.box 4 0),(46,slA 18 cRu p.rules),(47,iv p.rules.length),(48,iv j),(49,bT),(54,slA 6 cTh p.rules[j].guards),(55,iv (p.rules[j].guards.length:Nat)),(56,iv k)]) _
 refine Zb ?_
 by_cases hs3:((k:Nat):Int)<((p.rules[j].guards.length:Nat):Int)
 have hk1:k<p.rules[j].guards.length:=by omega
 refine Za (oC (ZY rfl (dT hs3)) I0 I0 (Ze (Zd (Zb (Zm rfl (Zn (Zd (Zb (ZD (Zb (Za (pM (mT 56 (iv k)) (oC (xS (k*6) 54 56 U63) I0 I0 (oA (Zq (z:=6) (.tmp 59) rfl U128 rfl (by kernel_rfl) (flat_take lenTh p.rules[j].guards k (by omega)) rfl) I0 (ZF rfl (ZJ (z := .agg #[.int .i64 0,.int .i64 0,.int .i64 0,.int .i64 0,.int .i64 0,.int .i64 0]) (k:=5) rfl (by kernel_rfl)) T0 T0 rfl (pM (aT 58 (iv k)) (ZF rfl (sB 6 11 (.tmp 60) (.agg (cTh p.rules[j].guards[k]))) ⟨I0,I0,T0⟩ ⟨rfl,T0⟩ rfl (Ze (Zd ?_)))))))))))))))))))
 refine Zo (dM (mT 7 (.box 3 0)) (dM (mT 8 (iv j)) (dM (mT 10 (iv k)) (dA (fb 2 11 U128 4) I0 (dB (lS ([iv p.rules[j].guards[k].bd.c,iv p.rules[j].guards[k].bd.n,iv p.rules[j].guards[k].bd.t,iv p.rules[j].guards[k].bd.f]) 4 65 U122) I0 rfl (dB (lS (cSz n t f) 3 3 U29) I0 rfl (dD (sc #[.tmp 66,.tmp 67] [] (Ns.Evaluate_c (l:=p.rules[j].guards[k].bd)) [.agg [iv p.rules[j].guards[k].bd.c,iv p.rules[j].guards[k].bd.n,iv p.rules[j].guards[k].bd.t,iv p.rules[j].guards[k].bd.f],.agg (cSz n t f)] rfl rfl rfl) I0 I0 I0 (dM (mT 68 (.tup [iv (evN p.rules[j].guards[k].bd.c p.rules[j].guards[k].bd.n p.rules[j].guards[k].bd.t p.rules[j].guards[k].bd.f n t f),iv (evE p.rules[j].guards[k].bd.c p.rules[j].guards[k].bd.n p.rules[j].guards[k].bd.t p.rules[j].guards[k].bd.f n t f)])) (dA (Zt (X:=iv (evN p.rules[j].guards[k].bd.c p.rules[j].guards[k].bd.n p.rules[j].guards[k].bd.t p.rules[j].guards[k].bd.f n t f)) (.tmp 61) rfl rfl) I0 (dA (Zt (X:=iv (evE p.rules[j].guards[k].bd.c p.rules[j].guards[k].bd.n p.rules[j].guards[k].bd.t p.rules[j].guards[k].bd.f n t f)) (.tmp 61) rfl rfl) I0 (dA (ZL (off:=0) (.tmp 62) rfl) I0 (dA (fb 15 71 U111 16) I0 (dC (Z4 (off':=15+j*2) (.tmp 72) (.tmp 63) rfl U108 (by kernel_rfl) (by omega) (by omega) rfl) I0 I0 (dC (Z4 (off':=15+j*2+k*1) (.tmp 73) (.tmp 64) rfl U107 (by kernel_rfl) (by omega) (by omega) rfl) I0 I0 (dR (Zw (T0:=111) (X:=iv (evN p.rules[j].guards[k].bd.c p.rules[j].guards[k].bd.n p.rules[j].guards[k].bd.t p.rules[j].guards[k].bd.f n t f)) (off:=15+j*2+k*1) (cs:=En.sysB p n t f j k (.v (.slice none 0 0)) (.v (.slice none 0 0))) (ds:=En.sysB p n t f j (k+1) (.v (.slice none 0 0)) (.v (.slice none 0 0))) (z:=1) (.tmp 74) (.tmp 69) rfl (by kernel_rfl) (by kernel_rfl) (by kernel_rfl) (by rw [En.sysB_len];omega) (En.sysB_step hj1 hr8 hk1 (by omega) rfl)) ⟨I0,I0,T0⟩ ⟨rfl,T0⟩ rfl (dE ?_)))))))))))))))) (by kernel_rfl)
 show ETri J w0 _ _ _
 refine kW 80 [(2,.box 29 (cSz n t f)),(3,.box 111 (En.sysB p n t f j (k+1) (.v (.slice none 0 0)) (.v (.slice none 0 0)))),(4,.box 65 (cRu p.rules[j])),(5,.box 128 (cTh p.rules[j].guards[k]))] [(3,.box 2 0),(4,.v (.pointer none)),(5,iv 0),(7,.box 3 0),(8,iv j),(9,.box 4 0),(10,iv k),(11,.box 5 0),(46,slA 18 cRu p.rules),(47,iv p.rules.length),(48,iv j),(49,bT),(54,slA 6 cTh p.rules[j].guards),(55,iv (p.rules[j].guards.length:Nat)),(56,iv k),(57,bT)] (ZT (Zd (Za (oC (Yo (c:=((k+1:Nat):Int)) rfl (w64 (by omega) (by omega) (by omega))) I0 I0 (pM (mT 75 (iv (k+1:Nat))) (kN 80 [(2,.box 29 (cSz n t f)),(3,.box 111 (En.sysB p n t f j (k+1) (.v (.slice none 0 0)) (.v (.slice none 0 0)))),(4,.box 65 (cRu p.rules[j])),(5,.box 128 (cTh p.rules[j].guards[k]))] [(3,.box 2 0),(4,.v (.pointer none)),(5,iv 0),(7,.box 3 0),(8,iv j),(9,.box 4 0),(10,iv k),(11,.box 5 0),(46,slA 18 cRu p.rules),(47,iv p.rules.length),(48,iv j),(49,bT),(54,slA 6 cTh p.rules[j].guards),(55,iv (p.rules[j].guards.length:Nat)),(56,iv (k+1:Nat)),(57,bT)] (Zd ?_)))))))
 refine ZZ ⟨k+1,by omega⟩ (show p.rules[j].guards.length-(k+1)<p.rules[j].guards.length-k by omega) ?_
 exact ZC _ _ rfl (by kernel_rfl) (by kernel_rfl)
 refine Za (oC (ZY rfl (dF hs3)) I0 I0 (Ze (Zd (Zb (Zp rfl (Yq (Zz (Zz (t_hit (ZT (Zd (Za (oC (Yo (c:=((j+1:Nat):Int)) rfl (w64 (by omega) (by omega) (by omega))) I0 I0 (pM (mT 76 (iv (j+1:Nat))) (kN 80 [(2,.box 29 (cSz n t f)),(3,.box 111 (En.sysB p n t f j k (.v (.slice none 0 0)) (.v (.slice none 0 0)))),(4,.box 65 (cRu p.rules[j]))] [(3,.box 2 0),(4,.v (.pointer none)),(5,iv 0),(7,.box 3 0),(8,iv j),(9,.box 4 0),(46,slA 18 cRu p.rules),(47,iv p.rules.length),(48,iv (j+1:Nat)),(49,bT),(54,slA 6 cTh p.rules[j].guards),(55,iv (p.rules[j].guards.length:Nat)),(56,iv k),(57,bF)] (Zd ?_))))))))))))))))
 refine ZZ ⟨j+1,by omega⟩ (show p.rules.length-(j+1)<p.rules.length-j by omega) ?_
 show Wk _ _ (ofL [(2,.box 29 (cSz n t f)),(3,.box 111 (En.sysB p n t f (j+1) 0 (.v (.slice none 0 0)) (.v (.slice none 0 0))))]) (ofT 80 [(3,.box 2 0),(4,.v (.pointer none)),(5,iv 0),(7,.box 3 0),(46,slA 18 cRu p.rules),(47,iv p.rules.length),(48,iv ((j+1):Nat))])
 rw [En.sysB_row hj1 (by omega:¬ k<p.rules[j].guards.length)]
 exact ZC _ _ rfl (by kernel_rfl) (by kernel_rfl)
 refine Za (oC (ZY rfl (dF hs2)) I0 I0 (kN 80 [(2,.box 29 (cSz n t f)),(3,.box 111 (En.sysB p n t f j 0 (.v (.slice none 0 0)) (.v (.slice none 0 0))))] [(3,.box 2 0),(4,.v (.pointer none)),(5,iv 0),(7,.box 3 0),(46,slA 18 cRu p.rules),(47,iv p.rules.length),(48,iv j),(49,bF)] (Zd (Zb (Zp rfl (Yq (Zz (Zz (t_hit (Zd (Zb (kW 80 [(3,.box 111 (En.sysB p n t f j 0 (.v (.slice none 0 0)) (.v (.slice none 0 0))))] [(4,.v (.pointer none)),(5,iv 0),(7,.box 3 0)] ?_))))))))))))
 rw [show j=p.rules.length by omega]
 refine Za (pM (mT 7 (.box 3 0)) (ZF rfl (sp_callWB (T:=111) (cs:=En.sysB p n t f p.rules.length 0 (.v (.slice none 0 0)) (.v (.slice none 0 0))) (ds:=En.sysB p n t f p.rules.length 0 (.fr (slA 1 cLi (Ns.shT p.top (Ns.cntE p n f)))) (.fr ((En.lkS p.top (Ns.cntE p n f).toNat)))) (c := .func 62) (xs := #[.tmp 77]) (k:=3) 1000000 [true,false,true,true,true,true,true,true,true,true,true,true,true,false,true,true,true,true,true,true,true,true,true,true,true,true,true,true,true,true,true,false,false] [] (fun xs_=>(En.place_mx (p:=p) (n:=n) (t:=t) (f:=f) (fun q=>iv (En.bdP p n t f p.rules.length 0 q)) hc0 hc8 xs_)) rfl (by kernel_rfl) rfl (Xs:=[.box 3 0]) rfl rfl (Ns.pw1) rfl rfl rfl (Ns.plain_mask (fun _=>by kernel_rfl)) rfl rfl rfl) ⟨I0,I0,T0⟩ ⟨rfl,T0⟩ rfl (Ze (Zd (Zb (Za (pM (mT 7 (.box 3 0)) (pM (aT 79 (.box 3 0)) (pM (aC (.int .i64 0)) (Ze (Zd (Zk ?_))))))))))))
 refine tri_endA2 [(3,.box 111 (En.sysB p n t f p.rules.length 0 (.fr (slA 1 cLi (Ns.shT p.top (Ns.cntE p n f)))) (.fr ((En.lkS p.top (Ns.cntE p n f).toNat)))))] Try.results40 (.tmp rfl) (.tmp rfl) (by kernel_rfl) rfl rfl rfl ?_ ?_ ?_
 · exact (show Plain (.el (En.sysP p n t f) 0) from .el (ZQ (En.plain_sysP p n t f)))
 · exact .v _
 kernel_rfl
set_option maxRecDepth 100000
set_option maxHeartbeats 6400000
theorem outB_c {x m:Int}:Ctr Try.prog J 66 [iv x,.el ([iv m]) 0] (bv (Rd.outB m x)):=by
 refine Zy Try.func66 rfl (by intro X hX;simp only [List.mem_cons,List.not_mem_nil,or_false] at hX;rcases hX with rfl | rfl;exact .v _;exact .el (ZQ (by intro X hX;rw [List.mem_singleton.1 hX];exact .v _))) (n:=11) rfl (by simp) (fun w0 => ?_)
 refine kW 11 [] [(0,iv x),(1,.el ([iv m]) 0)] (Zb (Za (pM (aC (.bool false)) (Ze (Zd (Zb ?_))))))
 by_cases hs1:x<0
 refine Za (pM (mT 0 (iv x)) (oC (ZY rfl (dT hs1)) I0 I0 (pM (mT 5 bT) (qK (qK (qK (pP (pk true bT (.v (.tuple #[])) rfl) (pM (aT 10 bT) (Ze (Zd (Zk ?_)))))))))))
 refine Zs Try.results66 (.tmp rfl) ?_
 exact congrArg (fun x:Bool=>AV.v (.bool x)) ((Rd.outB_lo hs1).symm)
 refine Za (pM (mT 0 (iv x)) (oC (ZY rfl (dF hs1)) I0 I0 (pM (mT 5 bF) (qM (mT 0 (iv x)) (gA (lE (iv m) 1 U3) I0 (gC (Y0 rfl rfl) I0 I0 (pP (pk false bT (bv (decide (m≤x))) rfl) (pM (aT 10 (bv (decide (m≤x)))) (Ze (Zd (Zk ?_)))))))))))
 refine Zs Try.results66 (.tmp rfl) ?_
 exact congrArg (fun x:Bool=>AV.v (.bool x)) ((Rd.outB_hi hs1).symm)
theorem ixOut_c (xs:List Int) {m:Int} (lx:xs.length≤9223372036854775807):Ctr Try.prog J 91 [Zc xs,.clo 66 [.el ([iv m]) 0]] (iv (Rd.ixP xs (Rd.outB m))):=by
 refine Zy Try.func91 rfl (by intro X hX;simp only [List.mem_cons,List.not_mem_nil,or_false] at hX;rcases hX with rfl | rfl;exact Z7 _;exact .clo (fun j hj=>match j,hj with | 0,_ => .el (ZQ (by intro X hX;rw [List.mem_singleton.1 hX];exact .v _)))) (n:=19) rfl (by simp) (fun w0 => ?_)
 refine kW 19 [] [(0,Zc xs),(1,.clo 66 [.el ([iv m]) 0])] (Zb (Za (pM (aC (.int .i64 0)) (Ze (Zd (Zb (Zb (Za (pM (mT 0 (Zc xs)) (oA (nS 6 U24) I0 (pM (YL (.const (.int .i64 0)) (iv 0) rfl) (kN 19 [] [(0,Zc xs),(1,.clo 66 [.el ([iv m]) 0]),(4,iv 0),(7,iv xs.length),(8,iv 0)] (Zd (ZD ?_))))))))))))))
 refine Yy (σ:={k:Nat // k≤xs.length∧Rd.noP xs (Rd.outB m) k}) (fun s=>(ofL [],ofT 19 [(0,Zc xs),(1,.clo 66 [.el ([iv m]) 0]),(7,iv xs.length),(8,iv s.1)])) (fun s=>xs.length-s.1) ⟨0,Nat.zero_le _,Rd.noP_zero _ _⟩ (ZC [] _ rfl (by kernel_rfl) (by kernel_rfl)) (fun s => ?_)
 obtain ⟨k,hk0,hs0⟩:=s
 show ETri J w0 (ofL []) (ofT 19 [(0,Zc xs),(1,.clo 66 [.el ([iv m]) 0]),(7,iv xs.length),(8,iv k)]) _
 refine Zb ?_
 by_cases hs1:((k:Nat):Int)<((xs.length:Nat):Int)
 refine Za (oC (ZY rfl (dT hs1)) I0 I0 (Ze (Zd (Zb (Zm rfl (Zn (Zd (Zb (ZD (Zb (Za (pM (mT 8 (iv k)) (pM (aT 10 (iv k)) (Ze (Zd (Zb ?_))))))))))))))))
 by_cases hs2:(Rd.outB m xs[k])=true
 refine Za (pM (mT 1 (.clo 66 [.el ([iv m]) 0])) (pM (mT 0 (Zc xs)) (pM (mT 5 (iv k)) (oC (xS (k*1) 12 13 U24) I0 I0 (oA (lE (iv xs[k]) 14 U3 (map_at1 xs (by omega))) I0 (oC (sp_callClo (c := .tmp 11) (xs := #[.tmp 15]) (Cs:=[.el ([iv m]) 0]) [] (Yd outB_c hs2) rfl (by kernel_rfl) rfl (Xs:=[iv xs[k]]) rfl rfl rfl rfl rfl) I0 I0 (Ze (Zd (Zm rfl (Zb (Za (pM (mT 5 (iv k)) (pM (aT 17 (iv k)) (Ze (Zd (Zk (ZS (Zj (Zj (ZS (Zj ?_)))))))))))))))))))))
 refine Zs Try.results91 (.tmp rfl) ?_
 exact congrArg (fun x:Int=>AV.v (.int .i64 x)) ((Rd.ixP_at (by omega) hs0 hs2).symm)
 have hs2f:(Rd.outB m xs[k])=false:=by simpa using hs2
 refine Za (pM (mT 1 (.clo 66 [.el ([iv m]) 0])) (pM (mT 0 (Zc xs)) (pM (mT 5 (iv k)) (oC (xS (k*1) 12 13 U24) I0 I0 (oA (lE (iv xs[k]) 14 U3 (map_at1 xs (by omega))) I0 (oC (sp_callClo (c := .tmp 11) (xs := #[.tmp 15]) (Cs:=[.el ([iv m]) 0]) [] (Yd outB_c hs2f) rfl (by kernel_rfl) rfl (Xs:=[iv xs[k]]) rfl rfl rfl rfl rfl) I0 I0 (Ze (Zd (Zp rfl (Zn (ZT (Zd (Za (oC (Yo (c:=((k+1:Nat):Int)) rfl (w64 (by omega) (by omega) (by omega))) I0 I0 (pM (mT 18 (iv (k+1:Nat))) (kN 19 [] [(0,Zc xs),(1,.clo 66 [.el ([iv m]) 0]),(5,iv k),(7,iv xs.length),(8,iv (k+1:Nat)),(9,bT),(16,bF)] (Zd ?_)))))))))))))))))
 refine ZZ ⟨k+1,by omega,Rd.noP_succ (by omega) hs0 hs2f⟩ (show xs.length-(k+1)<xs.length-k by omega) ?_
 exact ZC [] _ rfl (by kernel_rfl) (by kernel_rfl)
 refine Za (oC (ZY rfl (dF hs1)) I0 I0 (Ze (Zd (Zb (Zp rfl (Yq (Zz (Zz (t_hit (Zd (Zb (Za (pM (aC (.int .i64 (-1))) (Ze (Zd (Zk ?_))))))))))))))))
 refine Zs Try.results91 (.tmp rfl) ?_
 exact congrArg (fun x:Int=>AV.v (.int .i64 x)) ((Rd.ixP_none (k:=k) (by omega) hs0).symm)
theorem hasOut_c (xs:List Int) {m:Int} (lx:xs.length≤9223372036854775807):Ctr Try.prog J 65 [Zc xs,.clo 66 [.el ([iv m]) 0]] (bv (xs.any (Rd.outB m))):=by
 refine Zy Try.func65 rfl (by intro X hX;simp only [List.mem_cons,List.not_mem_nil,or_false] at hX;rcases hX with rfl | rfl;exact Z7 _;exact .clo (fun j hj=>match j,hj with | 0,_ => .el (ZQ (by intro X hX;rw [List.mem_singleton.1 hX];exact .v _)))) (n:=9) rfl (by simp) (fun w0 => ?_)
 refine kW 9 [] [(0,Zc xs),(1,.clo 66 [.el ([iv m]) 0])] (Zb (Za (pM (aC (.bool false)) (Ze (Zd (Zb (Za (pM (mT 0 (Zc xs)) (pM (mT 1 (.clo 66 [.el ([iv m]) 0])) (oD (sc #[.tmp 5,.tmp 6] [] (ixOut_c xs lx) [Zc xs,.clo 66 [.el ([iv m]) 0]] rfl rfl rfl) I0 I0 I0 (oC (Y0 rfl rfl) I0 I0 (pM (aT 8 (bv (decide (0≤(Rd.ixP xs (Rd.outB m)))))) (Ze (Zd (Zk ?_)))))))))))))))
 refine Zs Try.results65 (.tmp rfl) ?_
 exact congrArg (fun x:Bool=>AV.v (.bool x)) (Rd.anyP_ix xs (Rd.outB m))
theorem Yk (xs:List Int) {m:Int} (lx:xs.length≤9223372036854775807):Ctr Try.prog J 45 [Zc xs,iv m] (bv (Rd.belB xs m)):=by
 refine Zy Try.func45 rfl (by intro X hX;simp only [List.mem_cons,List.not_mem_nil,or_false] at hX;rcases hX with rfl | rfl;exact Z7 _;exact .v _) (n:=9) rfl (by simp) (fun w0 => ?_)
 refine kW 9 [] [(0,Zc xs),(1,iv m)] (Zb (Za (ZF rfl (Yi (X:=iv m) (k:=1) (.tmp 1) rfl rfl) ⟨I0,T0⟩ T0 rfl (pM (aC (.bool false)) (Ze (Zd (Zb (Za (pM (mT 0 (Zc xs)) (oA (sp_makeFunc (xs := #[.tmp 3]) (Xs:=[.box 1 0]) rfl rfl) I0 (ZF rfl (sc #[.tmp 5,.tmp 6] [(1,.box 3 [iv m])] (hasOut_c xs lx) [Zc xs,.clo 66 [.box 1 0]] rfl rfl rfl) ⟨I0,I0,I0,T0⟩ ⟨rfl,T0⟩ T0 (oA (Ya rfl rfl) I0 (pM (aT 8 (bv (!(xs.any (Rd.outB m))))) (Ze (Zd (Zk ?_))))))))))))))))
 refine Zs Try.results45 (.tmp rfl) ?_
 exact rfl
theorem isShape1_c {x sh:List Int} (HX:InOk x) (HS:InOk sh):Ctr Try.prog J 89 [Zc x,.el ([Zc sh]) 0] (bv (decide (sh=x))):=by
 refine Zy Try.func89 rfl (by intro X hX;simp only [List.mem_cons,List.not_mem_nil,or_false] at hX;rcases hX with rfl | rfl;exact Z7 _;exact .el (ZQ (by intro X hX;rw [List.mem_singleton.1 hX];exact Z7 _))) (n:=7) rfl (by simp) (fun w0 => ?_)
 refine kW 7 [] [(0,Zc x),(1,.el ([Zc sh]) 0)] (Zb (Za (pM (aC (.bool false)) (Ze (Zd (Zb (Za (oA (lE (Zc sh) 1 U24) I0 (pM (mT 0 (Zc x)) (oD (sc #[.tmp 4,.tmp 5] [] (eqIntsG sh x HS HX) [Zc sh,Zc x] rfl rfl rfl) I0 I0 I0 (pM (aT 6 (bv (decide (sh=x)))) (Ze (Zd (Zk ?_))))))))))))))
 refine Zs Try.results89 (.tmp rfl) ?_
 exact rfl
theorem ixShape_c {S:List (List Int)} (hS:∀ x∈S,InOk x) (lS:S.length≤5) {sh:List Int} (HS:InOk sh):Ctr Try.prog J 88 [slA 1 cLi S,.clo 89 [.el ([Zc sh]) 0]] (iv (Rd.ixP S fun x=>decide (sh=x))):=by
 refine Zy Try.func88 rfl (by intro X hX;simp only [List.mem_cons,List.not_mem_nil,or_false] at hX;rcases hX with rfl | rfl;exact plain_sl plain_li _;exact .clo (fun j hj=>match j,hj with | 0,_ => .el (ZQ (by intro X hX;rw [List.mem_singleton.1 hX];exact Z7 _)))) (n:=19) rfl (by simp) (fun w0 => ?_)
 refine kW 19 [] [(0,slA 1 cLi S),(1,.clo 89 [.el ([Zc sh]) 0])] (Zb (Za (pM (aC (.int .i64 0)) (Ze (Zd (Zb (Zb (Za (pM (mT 0 (slA 1 cLi S)) (oA (nS 6 U69) I0 (pM (YL (.const (.int .i64 0)) (iv 0) rfl) (kN 19 [] [(0,slA 1 cLi S),(1,.clo 89 [.el ([Zc sh]) 0]),(4,iv 0),(7,iv S.length),(8,iv 0)] (Zd (ZD ?_))))))))))))))
 refine Yy (σ:={k:Nat // k≤S.length∧Rd.noP S (fun x=>decide (sh=x)) k}) (fun s=>(ofL [],ofT 19 [(0,slA 1 cLi S),(1,.clo 89 [.el ([Zc sh]) 0]),(7,iv S.length),(8,iv s.1)])) (fun s=>S.length-s.1) ⟨0,Nat.zero_le _,Rd.noP_zero _ _⟩ (ZC [] _ rfl (by kernel_rfl) (by kernel_rfl)) (fun s => ?_)
 obtain ⟨k,hk0,hs0⟩:=s
 show ETri J w0 (ofL []) (ofT 19 [(0,slA 1 cLi S),(1,.clo 89 [.el ([Zc sh]) 0]),(7,iv S.length),(8,iv k)]) _
 refine Zb ?_
 by_cases hs1:((k:Nat):Int)<((S.length:Nat):Int)
 refine Za (oC (ZY rfl (dT hs1)) I0 I0 (Ze (Zd (Zb (Zm rfl (Zn (Zd (Zb (ZD (Zb (Za (pM (mT 8 (iv k)) (pM (aT 10 (iv k)) (Ze (Zd (Zb ?_))))))))))))))))
 by_cases hs2:(decide (sh=S[k]))=true
 refine Za (pM (mT 1 (.clo 89 [.el ([Zc sh]) 0])) (pM (mT 0 (slA 1 cLi S)) (pM (mT 5 (iv k)) (oC (xS (k*1) 12 13 U69) I0 I0 (oA (lE (Zc S[k]) 14 U24 ((Zu lenLi S k 0 (by omega) (by decide)).trans rfl)) I0 (oC (sp_callClo (c := .tmp 11) (xs := #[.tmp 15]) (Cs:=[.el ([Zc sh]) 0]) [] (Yd (isShape1_c (hS S[k] (List.getElem_mem (by omega))) HS) hs2) rfl (by kernel_rfl) rfl (Xs:=[Zc S[k]]) rfl rfl rfl rfl rfl) I0 I0 (Ze (Zd (Zm rfl (Zb (Za (pM (mT 5 (iv k)) (pM (aT 17 (iv k)) (Ze (Zd (Zk (ZS (Zj (Zj (ZS (Zj ?_)))))))))))))))))))))
 refine Zs Try.results88 (.tmp rfl) ?_
 exact congrArg (fun x:Int=>AV.v (.int .i64 x)) ((Rd.ixP_at (by omega) hs0 hs2).symm)
 have hs2f:(decide (sh=S[k]))=false:=by simpa using hs2
 refine Za (pM (mT 1 (.clo 89 [.el ([Zc sh]) 0])) (pM (mT 0 (slA 1 cLi S)) (pM (mT 5 (iv k)) (oC (xS (k*1) 12 13 U69) I0 I0 (oA (lE (Zc S[k]) 14 U24 ((Zu lenLi S k 0 (by omega) (by decide)).trans rfl)) I0 (oC (sp_callClo (c := .tmp 11) (xs := #[.tmp 15]) (Cs:=[.el ([Zc sh]) 0]) [] (Yd (isShape1_c (hS S[k] (List.getElem_mem (by omega))) HS) hs2f) rfl (by kernel_rfl) rfl (Xs:=[Zc S[k]]) rfl rfl rfl rfl rfl) I0 I0 (Ze (Zd (Zp rfl (Zn (ZT (Zd (Za (oC (Yo (c:=((k+1:Nat):Int)) rfl (w64 (by omega) (by omega) (by omega))) I0 I0 (pM (mT 18 (iv (k+1:Nat))) (kN 19 [] [(0,slA 1 cLi S),(1,.clo 89 [.el ([Zc sh]) 0]),(5,iv k),(7,iv S.length),(8,iv (k+1:Nat)),(9,bT),(16,bF)] (Zd ?_)))))))))))))))))
 refine ZZ ⟨k+1,by omega,Rd.noP_succ (by omega) hs0 hs2f⟩ (show S.length-(k+1)<S.length-k by omega) ?_
 exact ZC [] _ rfl (by kernel_rfl) (by kernel_rfl)
 refine Za (oC (ZY rfl (dF hs1)) I0 I0 (Ze (Zd (Zb (Zp rfl (Yq (Zz (Zz (t_hit (Zd (Zb (Za (pM (aC (.int .i64 (-1))) (Ze (Zd (Zk ?_))))))))))))))))
 refine Zs Try.results88 (.tmp rfl) ?_
 exact congrArg (fun x:Int=>AV.v (.int .i64 x)) ((Rd.ixP_none (k:=k) (by omega) hs0).symm)
theorem Rd.shT_ok (top n:Int):∀ x∈Ns.shT top n,InOk x:=by
  unfold Ns.shT
  split
  · exact fun x hx=>(Sh.shX_mem n x hx).2
  intro x hx;cases hx
theorem Rd.shT_len (top n:Int):(Ns.shT top n).length≤5:=by
  unfold Ns.shT
  split
  · exact Sh.shX_len n
  simp
theorem readShape_c {p:Fm} {n t f:Int} {sh:List Int} (HS:InOk sh) (lsh:sh.length≤100):Ctr Try.prog J 63 [.el (Ns.sysC p n t f) 0,Zc sh] (.tup [iv (Rd.shI p.top (Ns.shT p.top (Ns.cntE p n f)) sh),bv (Rd.shB p.top (Ns.shT p.top (Ns.cntE p n f)) sh)]):=by
 refine Zy Try.func63 rfl (by intro X hX;simp only [List.mem_cons,List.not_mem_nil,or_false] at hX;rcases hX with rfl | rfl;exact (show Plain (.el (Ns.sysC p n t f) 0) from .el (ZQ (Ns.plain_sys p n t f)));exact Z7 _) (n:=26) rfl (by simp) (fun w0 => ?_)
 refine kW 26 [] [(0,.el (Ns.sysC p n t f) 0),(1,Zc sh)] (Zb (Za (ZF rfl (Yi (X:=Zc sh) (k:=1) (.tmp 1) rfl rfl) ⟨I0,T0⟩ T0 rfl (pM (aC (.int .i64 0)) (pM (aC (.bool false)) (Ze (Zd (Zb (Zb ?_)))))))))
 by_cases hs1:p.top=4
 refine Za (pM (mT 0 (.el (Ns.sysC p n t f) 0)) (oA (Zl (off:=0) (.tmp 7) rfl) I0 (oA (fe 0 8 U111 10) I0 (oA (fe 1 9 U27 1) I0 (oA (lE (iv p.top) 10 U3) I0 (oC (Z0 rfl (dT' hs1)) I0 I0 (Ze (Zd (Zp rfl (Zn (Zd (Zb (Za (pM (mT 0 (.el (Ns.sysC p n t f) 0)) (oA (Zl (off:=0) (.tmp 16) rfl) I0 (oA (fe 31 17 U111 1) I0 (oA (lE (slA 1 cLi (Ns.shT p.top (Ns.cntE p n f))) 18 U69) I0 (oA (sp_makeFunc (xs := #[.tmp 3]) (Xs:=[.box 1 0]) rfl rfl) I0 (ZF rfl (sc #[.tmp 19,.tmp 20] [(1,.box 24 [Zc sh])] (ixShape_c (Rd.shT_ok _ _) (Rd.shT_len _ _) HS) [slA 1 cLi (Ns.shT p.top (Ns.cntE p n f)),.clo 89 [.box 1 0]] rfl rfl rfl) ⟨I0,I0,I0,T0⟩ ⟨rfl,T0⟩ T0 (pM (aT 21 (iv (Rd.ixP (Ns.shT p.top (Ns.cntE p n f)) fun x=>decide (sh=x)))) (Ze (Zd (Zb ?_)))))))))))))))))))))))
 refine Za (pM (mT 6 (iv (Rd.ixP (Ns.shT p.top (Ns.cntE p n f)) fun x=>decide (sh=x)))) (oC (sp_max (.tmp 22) (.const (.int .i64 0)) rfl) I0 I0 (pM (mT 6 (iv (Rd.ixP (Ns.shT p.top (Ns.cntE p n f)) fun x=>decide (sh=x)))) (oC (Y0 rfl rfl) I0 I0 (pM (aT 23 (iv (max (Rd.ixP (Ns.shT p.top (Ns.cntE p n f)) fun x=>decide (sh=x)) 0))) (pM (aT 25 (bv (decide (0≤(Rd.ixP (Ns.shT p.top (Ns.cntE p n f)) fun x=>decide (sh=x)))))) (Ze (Zd (Zk ?_)))))))))
 refine Ye Try.results63 (.tmp rfl) (.tmp rfl) ?_
 rw [Rd.shI_tree hs1,Rd.shB_tree hs1]
 exact rfl
 refine Za (pM (mT 0 (.el (Ns.sysC p n t f) 0)) (oA (Zl (off:=0) (.tmp 7) rfl) I0 (oA (fe 0 8 U111 10) I0 (oA (fe 1 9 U27 1) I0 (oA (lE (iv p.top) 10 U3) I0 (oC (Z0 rfl (dF' hs1)) I0 I0 (Ze (Zd (Zm rfl (Zb ?_))))))))))
 refine Zo (dB (lb (Zc sh) 3 U24) I0 rfl (dA (nS 13 U24) I0 (dC (ZA rfl rfl) I0 I0 (dM (aC (.int .i64 0)) (dM (aT 15 (bv (decide (((sh.length:Nat):Int)=0)))) (dE ?_)))))) (by kernel_rfl)
 show ETri J w0 _ _ _
 refine Zd (Zk (Zj ?_))
 refine Ye Try.results63 (.tmp rfl) (.tmp rfl) ?_
 rw [Rd.shI_no hs1,Rd.shB_no hs1]
 exact rfl
theorem Rd.mf_t {p:Fm} (h:Rd.looseB p=true):Rd.mfE p-1=1048576:=by
  unfold Rd.looseB at h
  rw [Bool.or_eq_true,decide_eq_true_iff,decide_eq_true_iff] at h
  unfold Rd.mfE;rw [if_pos h];rfl
theorem Rd.mf_in (p:Fm):1≤Rd.mfE p∧Rd.mfE p≤1048577:=by
  unfold Rd.mfE;split<;>omega
theorem Rd.mf_f {p:Fm} (h:Rd.looseB p=false):Rd.mfE p-1=0:=by
  unfold Rd.looseB at h
  rw [Bool.or_eq_false_iff,decide_eq_false_iff_not,decide_eq_false_iff_not] at h
  unfold Rd.mfE;rw [if_neg (not_or.2 h)];rfl
set_option maxRecDepth 100000 in
set_option maxHeartbeats 6400000 in
theorem read_c {p:Fm} {n t f:Int} {c:Cf} (HC:Rd.CgOk c):Ctr Try.prog J 41 [.el (Ns.sysC p n t f) 0,.agg (Rd.cCg c)] (.tup [.agg (Rd.cfZ (Rd.rdY p n f c) (Rd.shI p.top (Ns.shT p.top (Ns.cntE p n f)) c.sh) c),bv (Rd.rdX p n f c)]):=by
 have hmf:=Rd.mf_in p
 refine Zy Try.func41 rfl (by intro X hX;simp only [List.mem_cons,List.not_mem_nil,or_false] at hX;rcases hX with rfl | rfl;exact (show Plain (.el (Ns.sysC p n t f) 0) from .el (ZQ (Ns.plain_sys p n t f)));exact Zi (Rd.plain_cg c)) (n:=124) rfl (by simp) (fun w0 => ?_)
 refine kW 124 [] [(0,.el (Ns.sysC p n t f) 0),(1,.agg (Rd.cCg c))] (Zb (Za (ZF rfl (Yi (X := .agg (Rd.cCg c)) (k:=1) (.tmp 1) rfl rfl) ⟨I0,T0⟩ T0 rfl (ZF rfl (ZJ (z := .agg #[.int .i64 0,.int .i64 0,.int .i64 0,.int .i64 0,.int .i64 0,.int .i64 0,.int .i64 0,.int .i64 0,.int .i64 0,.int .i64 0,.int .i64 0,.int .i64 0,.int .i64 0,.int .i64 0,.int .i64 0,.int .i64 0]) (k:=2) rfl (by kernel_rfl)) T0 T0 rfl (pM (aC (.bool false)) (Ze (Zd (Zb (Za (pM (mT 0 (.el (Ns.sysC p n t f) 0)) (oA (Zl (off:=0) (.tmp 11) rfl) I0 (oA (fe 0 12 U111 10) I0 (oA (Zq (z:=10) (ds:=[sv p.nm,iv p.top,Zr p.states,Zr p.msgs,Zr p.vals,iv p.fault,slA 4 cLn p.res,Zc p.init,Zc p.leader,slA 18 cRu p.rules]) (.tmp 13) rfl U27 rfl (by kernel_rfl) (by kernel_rfl) rfl) I0 (ZF rfl (ZJ (z := .agg #[.string (⟨#[]⟩),.int .i64 0,.slice none 0 0,.slice none 0 0,.slice none 0 0,.int .i64 0,.slice none 0 0,.slice none 0 0,.slice none 0 0,.slice none 0 0]) (k:=3) rfl (by kernel_rfl)) T0 T0 rfl (ZF rfl (sB 10 6 (.tmp 14) (.agg [sv p.nm,iv p.top,Zr p.states,Zr p.msgs,Zr p.vals,iv p.fault,slA 4 cLn p.res,Zc p.init,Zc p.leader,slA 18 cRu p.rules])) ⟨I0,I0,T0⟩ ⟨rfl,T0⟩ rfl (Ze (Zd (Zb (Za (pM (mT 0 (.el (Ns.sysC p n t f) 0)) (oA (fb 0 3 U31 1) I0 (oB (lb (Zc c.sh) 17 U24) I0 rfl (oD (sc #[.tmp 16,.tmp 18] [] (readShape_c HC.sh HC.lsh) [.el (Ns.sysC p n t f) 0,Zc c.sh] rfl rfl rfl) I0 I0 I0 ?_)))))))))))))))))))))))
 refine pM (mT 19 (.tup [iv (Rd.shI p.top (Ns.shT p.top (Ns.cntE p n f)) c.sh),bv (Rd.shB p.top (Ns.shT p.top (Ns.cntE p n f)) c.sh)])) (oA (Zt (X:=iv (Rd.shI p.top (Ns.shT p.top (Ns.cntE p n f)) c.sh)) (.tmp 15) rfl rfl) I0 (oA (Zt (X:=bv (Rd.shB p.top (Ns.shT p.top (Ns.cntE p n f)) c.sh)) (.tmp 15) rfl rfl) I0 (pM (aT 20 (iv (Rd.shI p.top (Ns.shT p.top (Ns.cntE p n f)) c.sh))) (pM (aT 21 (bv (Rd.shB p.top (Ns.shT p.top (Ns.cntE p n f)) c.sh))) (Ze (Zd (Zb (Zb ?_))))))))
 by_cases hs1:(Rd.shB p.top (Ns.shT p.top (Ns.cntE p n f)) c.sh)=true
 rw [hs1]
 refine kW 124 [(1,.box 31 (Rd.cCg c)),(2,.box 78 [iv 0,iv 0,iv 0,iv 0,iv 0,iv 0,iv 0,iv 0,iv 0,iv 0,iv 0,iv 0,iv 0,iv 0,iv 0,iv 0]),(3,.box 27 [sv p.nm,iv p.top,Zr p.states,Zr p.msgs,Zr p.vals,iv p.fault,slA 4 cLn p.res,Zc p.init,Zc p.leader,slA 18 cRu p.rules])] [(0,.el (Ns.sysC p n t f) 0),(3,.box 1 0),(4,.box 2 0),(5,bF),(6,.box 3 0),(7,iv (Rd.shI p.top (Ns.shT p.top (Ns.cntE p n f)) c.sh)),(8,bT)] ?_
 by_cases hs2:((c.st.length:Nat):Int)=(Ns.cntE p n f)
 by_cases hs3:(Rd.belB c.st ((p.states.length:Nat):Int))=true
 by_cases hs4:c.cor=(n-f)
 refine Zo (dM (mT 8 bT) (dA (Ya rfl rfl) I0 (dM (mT 23 bF) (dA (fb 1 3 U31 1) I0 (dB (lb (Zc c.st) 25 U24) I0 rfl (dA (nS 26 U24) I0 (dM (mT 0 (.el (Ns.sysC p n t f) 0)) (dA (Zl (off:=0) (.tmp 28) rfl) I0 (dA (fe 13 29 U111 1) I0 (dA (lE (iv (Ns.cntE p n f)) 30 U3) I0 (dC (Z0 rfl (dT' hs2)) I0 I0 (dP (pk false bT bF rfl) (dM (mT 33 bF) (dA (fb 1 3 U31 1) I0 (dB (lb (Zc c.st) 35 U24) I0 rfl (dA (fb 2 6 U27 1) I0 (dB (lb (Zr p.states) 37 U22) I0 rfl (dA (nS 38 U22) I0 (dD (sc #[.tmp 36,.tmp 39] [] (Yd (Yk c.st (Nat.le_trans HC.lst (by decide))) hs3) [Zc c.st,iv p.states.length] rfl rfl rfl) I0 I0 I0 (dA (Ya rfl rfl) I0 (dP (pk false bT bF rfl) (dM (mT 42 bF) (dA (fb 2 3 U31 1) I0 (dB (lb (iv c.cor) 44 U3) I0 rfl (dM (mT 0 (.el (Ns.sysC p n t f) 0)) (dA (Zl (off:=0) (.tmp 46) rfl) I0 (dA (fe 14 47 U111 1) I0 (dA (lE (iv (n-f)) 48 U3) I0 (dC (Z0 rfl (dT' hs4)) I0 I0 (dP (pk false bT bF rfl) (dE ?_))))))))))))))))))))))))))))))) (by kernel_rfl)
 show ETri J w0 _ _ _
 refine kW 124 [(1,.box 31 (Rd.cCg c)),(2,.box 78 [iv 0,iv 0,iv 0,iv 0,iv 0,iv 0,iv 0,iv 0,iv 0,iv 0,iv 0,iv 0,iv 0,iv 0,iv 0,iv 0]),(3,.box 27 [sv p.nm,iv p.top,Zr p.states,Zr p.msgs,Zr p.vals,iv p.fault,slA 4 cLn p.res,Zc p.init,Zc p.leader,slA 18 cRu p.rules])] [(3,.box 1 0),(4,.box 2 0),(5,bF),(6,.box 3 0),(7,iv (Rd.shI p.top (Ns.shT p.top (Ns.cntE p n f)) c.sh)),(51,bF)] (Zd (Zp rfl (Zn (Zd (Zb (Zb ?_))))))
 by_cases hs5:((c.se.length:Nat):Int)=((p.msgs.length:Nat):Int)
 by_cases hs6:(Rd.belB c.se 1048577)=true
 refine Za (oA (fb 3 3 U31 1) I0 (oB (lb (Zc c.se) 53 U24) I0 rfl (oA (nS 54 U24) I0 (oA (fb 3 6 U27 1) I0 (oB (lb (Zr p.msgs) 56 U22) I0 rfl (oA (nS 57 U22) I0 (oC (Z0 rfl (dT' hs5)) I0 I0 (pM (mT 59 bF) (gA (fb 3 3 U31 1) I0 (gB (lb (Zc c.se) 61 U24) I0 rfl (gD (sc #[.tmp 62,.const (.int .i64 1048577)] [] (Yd (Yk c.se (Nat.le_trans HC.lse (by decide))) hs6) [Zc c.se,iv 1048577] rfl rfl rfl) I0 I0 I0 (gA (Ya rfl rfl) I0 (pP (pk false bT bF rfl) (Ze (Zd (Zp rfl (Zn (Zd (Zb (Za (pM (aC (.int .i64 0)) (kN 124 [(1,.box 31 (Rd.cCg c)),(2,.box 78 [iv 0,iv 0,iv 0,iv 0,iv 0,iv 0,iv 0,iv 0,iv 0,iv 0,iv 0,iv 0,iv 0,iv 0,iv 0,iv 0]),(3,.box 27 [sv p.nm,iv p.top,Zr p.states,Zr p.msgs,Zr p.vals,iv p.fault,slA 4 cLn p.res,Zc p.init,Zc p.leader,slA 18 cRu p.rules])] [(3,.box 1 0),(4,.box 2 0),(5,bF),(6,.box 3 0),(7,iv (Rd.shI p.top (Ns.shT p.top (Ns.cntE p n f)) c.sh)),(9,iv 0)] (Zd ?_)))))))))))))))))))))))
 refine Zb (Zb ?_)
 refine t_cut (True) (ofL [(1,.box 31 (Rd.cCg c)),(2,.box 78 [iv 0,iv 0,iv 0,iv 0,iv 0,iv 0,iv 0,iv 0,iv 0,iv 0,iv 0,iv 0,iv 0,iv 0,iv 0,iv 0]),(3,.box 27 [sv p.nm,iv p.top,Zr p.states,Zr p.msgs,Zr p.vals,iv p.fault,slA 4 cLn p.res,Zc p.init,Zc p.leader,slA 18 cRu p.rules])]) (ofT 124 [(3,.box 1 0),(4,.box 2 0),(5,bF),(6,.box 3 0),(7,iv (Rd.shI p.top (Ns.shT p.top (Ns.cntE p n f)) c.sh)),(9,iv 0),(74,bv (Rd.looseB p))]) ?_ (fun _ => ?_)
 by_cases hs7:p.fault=1
 refine Za (oA (fb 5 6 U27 1) I0 (oB (lb (iv p.fault) 67 U3) I0 rfl (oC (ZA rfl (dT hs7)) I0 I0 (pM (mT 69 bT) (qK (qK (qK (pP (pk true bT (.v (.tuple #[])) rfl) (kN 124 [(1,.box 31 (Rd.cCg c)),(2,.box 78 [iv 0,iv 0,iv 0,iv 0,iv 0,iv 0,iv 0,iv 0,iv 0,iv 0,iv 0,iv 0,iv 0,iv 0,iv 0,iv 0]),(3,.box 27 [sv p.nm,iv p.top,Zr p.states,Zr p.msgs,Zr p.vals,iv p.fault,slA 4 cLn p.res,Zc p.init,Zc p.leader,slA 18 cRu p.rules])] [(3,.box 1 0),(4,.box 2 0),(5,bF),(6,.box 3 0),(7,iv (Rd.shI p.top (Ns.shT p.top (Ns.cntE p n f)) c.sh)),(9,iv 0),(74,bT)] ?_)))))))))
 rw [show (Rd.looseB p)=true by simp only [Rd.looseB,hs7,decide_true,decide_false,Bool.true_or,Bool.false_or]]
 exact YV T0 (ZC _ _ rfl (by kernel_rfl) (by kernel_rfl))
 refine Za (oA (fb 5 6 U27 1) I0 (oB (lb (iv p.fault) 67 U3) I0 rfl (oC (ZA rfl (dF hs7)) I0 I0 (pM (mT 69 bF) (gA (fb 5 6 U27 1) I0 (gB (lb (iv p.fault) 71 U3) I0 rfl (gC (ZA rfl rfl) I0 I0 (pP (pk false bT (bv (decide (p.fault=2))) rfl) (kN 124 [(1,.box 31 (Rd.cCg c)),(2,.box 78 [iv 0,iv 0,iv 0,iv 0,iv 0,iv 0,iv 0,iv 0,iv 0,iv 0,iv 0,iv 0,iv 0,iv 0,iv 0,iv 0]),(3,.box 27 [sv p.nm,iv p.top,Zr p.states,Zr p.msgs,Zr p.vals,iv p.fault,slA 4 cLn p.res,Zc p.init,Zc p.leader,slA 18 cRu p.rules])] [(3,.box 1 0),(4,.box 2 0),(5,bF),(6,.box 3 0),(7,iv (Rd.shI p.top (Ns.shT p.top (Ns.cntE p n f)) c.sh)),(9,iv 0),(74,bv (decide (p.fault=2)))] ?_)))))))))
 rw [show (Rd.looseB p)=(decide (p.fault=2)) by simp only [Rd.looseB,hs7,decide_true,decide_false,Bool.true_or,Bool.false_or]]
 exact YV T0 (ZC _ _ rfl (by kernel_rfl) (by kernel_rfl))
 refine Zd ?_
 refine t_cut (True) (ofL [(1,.box 31 (Rd.cCg c)),(2,.box 78 [iv 0,iv 0,iv 0,iv 0,iv 0,iv 0,iv 0,iv 0,iv 0,iv 0,iv 0,iv 0,iv 0,iv 0,iv 0,iv 0]),(3,.box 27 [sv p.nm,iv p.top,Zr p.states,Zr p.msgs,Zr p.vals,iv p.fault,slA 4 cLn p.res,Zc p.init,Zc p.leader,slA 18 cRu p.rules])]) (ofT 124 [(3,.box 1 0),(4,.box 2 0),(5,bF),(6,.box 3 0),(7,iv (Rd.shI p.top (Ns.shT p.top (Ns.cntE p n f)) c.sh)),(9,iv (Rd.mfE p-1))]) ?_ (fun _ => ?_)
 by_cases hs8:(Rd.looseB p)=true
 rw [hs8]
 refine kW 124 [(1,.box 31 (Rd.cCg c)),(2,.box 78 [iv 0,iv 0,iv 0,iv 0,iv 0,iv 0,iv 0,iv 0,iv 0,iv 0,iv 0,iv 0,iv 0,iv 0,iv 0,iv 0]),(3,.box 27 [sv p.nm,iv p.top,Zr p.states,Zr p.msgs,Zr p.vals,iv p.fault,slA 4 cLn p.res,Zc p.init,Zc p.leader,slA 18 cRu p.rules])] [(3,.box 1 0),(4,.box 2 0),(5,bF),(6,.box 3 0),(7,iv (Rd.shI p.top (Ns.shT p.top (Ns.cntE p n f)) c.sh)),(9,iv 0),(74,bT)] (Zm rfl (Za (pM (aC (.int .i64 1048576)) (kN 124 [(1,.box 31 (Rd.cCg c)),(2,.box 78 [iv 0,iv 0,iv 0,iv 0,iv 0,iv 0,iv 0,iv 0,iv 0,iv 0,iv 0,iv 0,iv 0,iv 0,iv 0,iv 0]),(3,.box 27 [sv p.nm,iv p.top,Zr p.states,Zr p.msgs,Zr p.vals,iv p.fault,slA 4 cLn p.res,Zc p.init,Zc p.leader,slA 18 cRu p.rules])] [(3,.box 1 0),(4,.box 2 0),(5,bF),(6,.box 3 0),(7,iv (Rd.shI p.top (Ns.shT p.top (Ns.cntE p n f)) c.sh)),(9,iv 1048576)] ?_))))
 rw [Rd.mf_t hs8]
 exact YV T0 (ZC _ _ rfl (by kernel_rfl) (by kernel_rfl))
 have hs8f:(Rd.looseB p)=false:=by simpa using hs8
 rw [hs8f]
 refine kW 124 [(1,.box 31 (Rd.cCg c)),(2,.box 78 [iv 0,iv 0,iv 0,iv 0,iv 0,iv 0,iv 0,iv 0,iv 0,iv 0,iv 0,iv 0,iv 0,iv 0,iv 0,iv 0]),(3,.box 27 [sv p.nm,iv p.top,Zr p.states,Zr p.msgs,Zr p.vals,iv p.fault,slA 4 cLn p.res,Zc p.init,Zc p.leader,slA 18 cRu p.rules])] [(3,.box 1 0),(4,.box 2 0),(5,bF),(6,.box 3 0),(7,iv (Rd.shI p.top (Ns.shT p.top (Ns.cntE p n f)) c.sh)),(9,iv 0),(74,bF)] (Zp rfl (Zn ?_))
 rw [Rd.mf_f hs8f]
 exact YV T0 (ZC _ _ rfl (by kernel_rfl) (by kernel_rfl))
 refine Zd (Zb (Zb ?_))
 by_cases hs9:((c.fa.length:Nat):Int)=((p.msgs.length:Nat):Int)
 by_cases hs10:(Rd.belB c.fa ((Rd.mfE p-1)+1))=true
 refine Za (oA (fb 4 3 U31 1) I0 (oB (lb (Zc c.fa) 75 U24) I0 rfl (oA (nS 76 U24) I0 (oA (fb 3 6 U27 1) I0 (oB (lb (Zr p.msgs) 78 U22) I0 rfl (oA (nS 79 U22) I0 (oC (Z0 rfl (dT' hs9)) I0 I0 (pM (mT 81 bF) (gA (fb 4 3 U31 1) I0 (gB (lb (Zc c.fa) 83 U24) I0 rfl (qM (mT 9 (iv (Rd.mfE p-1))) (gC (Yo (c:=(Rd.mfE p-1)+1) rfl (w64 (by omega) (by omega) (by omega))) I0 I0 (gD (sc #[.tmp 84,.tmp 86] [] (Yd (Yk c.fa (Nat.le_trans HC.lfa (by decide))) hs10) [Zc c.fa,iv ((Rd.mfE p-1)+1)] rfl rfl rfl) I0 I0 I0 (gA (Ya rfl rfl) I0 (pP (pk false bT bF rfl) (Ze (Zd (Zp rfl (Zn (Zd (Zb (Zb ?_))))))))))))))))))))))
 by_cases hs11:c.val<0
 refine Za (oA (fb 5 3 U31 1) I0 (oB (lb (iv c.val) 91 U3) I0 rfl (oC (ZY rfl (dT hs11)) I0 I0 (pM (mT 93 bT) (qK (qK (qK (qK (qK (qK (qK (pP (pk true bT (.v (.tuple #[])) rfl) (Ze (Zd (Zm rfl (Zb (Za (ZF rfl (YW [] #[.int .i64 0,.int .i64 0,.int .i64 0,.int .i64 0,.int .i64 0,.int .i64 0,.int .i64 0,.int .i64 0,.int .i64 0,.int .i64 0,.int .i64 0,.int .i64 0,.int .i64 0,.int .i64 0,.int .i64 0,.int .i64 0] rfl rfl (by kernel_rfl) rfl) T0 T0 T0 (ZF rfl (sB 16 4 (.tmp 103) (.agg [iv 0,iv 0,iv 0,iv 0,iv 0,iv 0,iv 0,iv 0,iv 0,iv 0,iv 0,iv 0,iv 0,iv 0,iv 0,iv 0])) ⟨I0,I0,T0⟩ ⟨rfl,T0⟩ rfl (pM (aC (.bool false)) (Ze (Zd (Zk ?_)))))))))))))))))))))))
 refine Zj ?_
 refine Ye Try.results41 (.cellS rfl rfl U78 rfl (z:=16) (by kernel_rfl) rfl (by decide)) (.tmp rfl) ?_
 rw [Int.sub_add_cancel] at hs10
 have hr:(Rd.rdX p n f c)=false:=by simp only [Rd.rdX,Rd.rdB,hs1,hs2,hs3,hs4,hs5,hs6,hs9,hs10,hs11,decide_true,decide_false,Bool.and_true,Bool.true_and,Bool.false_and,Bool.and_false,Bool.not_true,Bool.not_false,if_true,if_false,true_or,or_true,or_self,not_true_eq_false,not_false_eq_true,ite_true,ite_false,or_false,false_or]
 rw [show (Rd.rdY p n f c)=false from hr,hr]
 exact rfl
 by_cases hs12:(max ((p.vals.length:Nat):Int) 1)≤c.val
 refine Za (oA (fb 5 3 U31 1) I0 (oB (lb (iv c.val) 91 U3) I0 rfl (oC (ZY rfl (dF hs11)) I0 I0 (pM (mT 93 bF) (gA (fb 5 3 U31 1) I0 (gB (lb (iv c.val) 95 U3) I0 rfl (gA (fb 4 6 U27 1) I0 (gB (lb (Zr p.vals) 97 U22) I0 rfl (gA (nS 98 U22) I0 (gC (sp_max (.tmp 99) (.const (.int .i64 1)) rfl) I0 I0 (gC (Y0 rfl (dT hs12)) I0 I0 (pP (pk false bT bT rfl) (Ze (Zd (Zm rfl (Zb (Za (ZF rfl (YW [] #[.int .i64 0,.int .i64 0,.int .i64 0,.int .i64 0,.int .i64 0,.int .i64 0,.int .i64 0,.int .i64 0,.int .i64 0,.int .i64 0,.int .i64 0,.int .i64 0,.int .i64 0,.int .i64 0,.int .i64 0,.int .i64 0] rfl rfl (by kernel_rfl) rfl) T0 T0 T0 (ZF rfl (sB 16 4 (.tmp 103) (.agg [iv 0,iv 0,iv 0,iv 0,iv 0,iv 0,iv 0,iv 0,iv 0,iv 0,iv 0,iv 0,iv 0,iv 0,iv 0,iv 0])) ⟨I0,I0,T0⟩ ⟨rfl,T0⟩ rfl (pM (aC (.bool false)) (Ze (Zd (Zk ?_)))))))))))))))))))))))
 refine Zj ?_
 refine Ye Try.results41 (.cellS rfl rfl U78 rfl (z:=16) (by kernel_rfl) rfl (by decide)) (.tmp rfl) ?_
 rw [Int.sub_add_cancel] at hs10
 have hr:(Rd.rdX p n f c)=false:=by simp only [Rd.rdX,Rd.rdB,hs1,hs2,hs3,hs4,hs5,hs6,hs9,hs10,hs11,hs12,decide_true,decide_false,Bool.and_true,Bool.true_and,Bool.false_and,Bool.and_false,Bool.not_true,Bool.not_false,if_true,if_false,true_or,or_true,or_self,not_true_eq_false,not_false_eq_true,ite_true,ite_false,or_false,false_or]
 rw [show (Rd.rdY p n f c)=false from hr,hr]
 exact rfl
 refine Za (oA (fb 5 3 U31 1) I0 (oB (lb (iv c.val) 91 U3) I0 rfl (oC (ZY rfl (dF hs11)) I0 I0 (pM (mT 93 bF) (gA (fb 5 3 U31 1) I0 (gB (lb (iv c.val) 95 U3) I0 rfl (gA (fb 4 6 U27 1) I0 (gB (lb (Zr p.vals) 97 U22) I0 rfl (gA (nS 98 U22) I0 (gC (sp_max (.tmp 99) (.const (.int .i64 1)) rfl) I0 I0 (gC (Y0 rfl (dF hs12)) I0 I0 (pP (pk false bT bF rfl) (Ze (Zd (Zp rfl (Zn (Zd (Zb (Za (pM (mT 7 (iv (Rd.shI p.top (Ns.shT p.top (Ns.cntE p n f)) c.sh))) (oA (fb 5 3 U31 1) I0 (oB (lb (iv c.val) 105 U3) I0 rfl (oC (YW [(.tmp 104,.int .i64 (Rd.shI p.top (Ns.shT p.top (Ns.cntE p n f)) c.sh)),(.tmp 106,.int .i64 c.val)] #[.int .i64 (Rd.shI p.top (Ns.shT p.top (Ns.cntE p n f)) c.sh),.int .i64 0,.int .i64 0,.int .i64 0,.int .i64 0,.int .i64 0,.int .i64 0,.int .i64 0,.int .i64 0,.int .i64 0,.int .i64 0,.int .i64 0,.int .i64 0,.int .i64 0,.int .i64 0,.int .i64 c.val] rfl rfl (by kernel_rfl) rfl) I0 I0 ?_)))))))))))))))))))))))
 refine ZF rfl (ZJ (z := .agg #[.int .i64 0,.int .i64 0,.int .i64 0,.int .i64 0,.int .i64 0,.int .i64 0,.int .i64 0,.int .i64 0,.int .i64 0,.int .i64 0,.int .i64 0,.int .i64 0,.int .i64 0,.int .i64 0,.int .i64 0,.int .i64 0]) (k:=4) rfl (by kernel_rfl)) T0 T0 rfl (ZF rfl (sB 16 10 (.tmp 107) (.agg [iv (Rd.shI p.top (Ns.shT p.top (Ns.cntE p n f)) c.sh),iv 0,iv 0,iv 0,iv 0,iv 0,iv 0,iv 0,iv 0,iv 0,iv 0,iv 0,iv 0,iv 0,iv 0,iv c.val])) ⟨I0,I0,T0⟩ ⟨rfl,T0⟩ rfl (Ze (Zd (Zb ?_))))
 refine Zo (dA (fb 1 10 U78 8) I0 (dA (sp_sliceArr (z:=1) (.tmp 108) rfl U74 (by kernel_rfl)) I0 (dA (fb 1 3 U31 1) I0 (dB (lb (Zc c.st) 110 U24) I0 rfl (dR (sp_copyInts (old:=[iv (Rd.shI p.top (Ns.shT p.top (Ns.cntE p n f)) c.sh),iv 0,iv 0,iv 0,iv 0,iv 0,iv 0,iv 0,iv 0,iv 0,iv 0,iv 0,iv 0,iv 0,iv 0,iv c.val]) (new:=[iv (Rd.shI p.top (Ns.shT p.top (Ns.cntE p n f)) c.sh),iv (c.st.getD 0 0),iv (c.st.getD 1 0),iv (c.st.getD 2 0),iv (c.st.getD 3 0),iv (c.st.getD 4 0),iv (c.st.getD 5 0),iv (c.st.getD 6 0),iv (c.st.getD 7 0),iv 0,iv 0,iv 0,iv 0,iv 0,iv 0,iv c.val]) c.st (.tmp 109) (.tmp 111) rfl U24 (by kernel_rfl) (by kernel_rfl) (by kernel_rfl) (by kernel_rfl)) ⟨I0,I0,T0⟩ ⟨rfl,T0⟩ rfl (dE ?_)))))) (by kernel_rfl)
 show ETri J w0 _ _ _
 refine kW 124 [(1,.box 31 (Rd.cCg c)),(2,.box 78 [iv 0,iv 0,iv 0,iv 0,iv 0,iv 0,iv 0,iv 0,iv 0,iv 0,iv 0,iv 0,iv 0,iv 0,iv 0,iv 0]),(4,.box 78 [iv (Rd.shI p.top (Ns.shT p.top (Ns.cntE p n f)) c.sh),iv (c.st.getD 0 0),iv (c.st.getD 1 0),iv (c.st.getD 2 0),iv (c.st.getD 3 0),iv (c.st.getD 4 0),iv (c.st.getD 5 0),iv (c.st.getD 6 0),iv (c.st.getD 7 0),iv 0,iv 0,iv 0,iv 0,iv 0,iv 0,iv c.val])] [(3,.box 1 0),(4,.box 2 0),(5,bF),(10,.box 4 0)] (Zd (Zb ?_))
 refine Zo (dA (fb 9 10 U78 3) I0 (dA (sp_sliceArr (z:=1) (.tmp 113) rfl U76 (by kernel_rfl)) I0 (dA (fb 3 3 U31 1) I0 (dB (lb (Zc c.se) 115 U24) I0 rfl (dR (sp_copyInts (old:=[iv (Rd.shI p.top (Ns.shT p.top (Ns.cntE p n f)) c.sh),iv (c.st.getD 0 0),iv (c.st.getD 1 0),iv (c.st.getD 2 0),iv (c.st.getD 3 0),iv (c.st.getD 4 0),iv (c.st.getD 5 0),iv (c.st.getD 6 0),iv (c.st.getD 7 0),iv 0,iv 0,iv 0,iv 0,iv 0,iv 0,iv c.val]) (new:=[iv (Rd.shI p.top (Ns.shT p.top (Ns.cntE p n f)) c.sh),iv (c.st.getD 0 0),iv (c.st.getD 1 0),iv (c.st.getD 2 0),iv (c.st.getD 3 0),iv (c.st.getD 4 0),iv (c.st.getD 5 0),iv (c.st.getD 6 0),iv (c.st.getD 7 0),iv (c.se.getD 0 0),iv (c.se.getD 1 0),iv (c.se.getD 2 0),iv 0,iv 0,iv 0,iv c.val]) c.se (.tmp 114) (.tmp 116) rfl U24 (by kernel_rfl) (by kernel_rfl) (by kernel_rfl) (by kernel_rfl)) ⟨I0,I0,T0⟩ ⟨rfl,T0⟩ rfl (dE ?_)))))) (by kernel_rfl)
 show ETri J w0 _ _ _
 refine kW 124 [(1,.box 31 (Rd.cCg c)),(2,.box 78 [iv 0,iv 0,iv 0,iv 0,iv 0,iv 0,iv 0,iv 0,iv 0,iv 0,iv 0,iv 0,iv 0,iv 0,iv 0,iv 0]),(4,.box 78 [iv (Rd.shI p.top (Ns.shT p.top (Ns.cntE p n f)) c.sh),iv (c.st.getD 0 0),iv (c.st.getD 1 0),iv (c.st.getD 2 0),iv (c.st.getD 3 0),iv (c.st.getD 4 0),iv (c.st.getD 5 0),iv (c.st.getD 6 0),iv (c.st.getD 7 0),iv (c.se.getD 0 0),iv (c.se.getD 1 0),iv (c.se.getD 2 0),iv 0,iv 0,iv 0,iv c.val])] [(3,.box 1 0),(4,.box 2 0),(5,bF),(10,.box 4 0)] (Zd (Zb ?_))
 refine Zo (dA (fb 12 10 U78 3) I0 (dA (sp_sliceArr (z:=1) (.tmp 118) rfl U76 (by kernel_rfl)) I0 (dA (fb 4 3 U31 1) I0 (dB (lb (Zc c.fa) 120 U24) I0 rfl (dR (sp_copyInts (old:=[iv (Rd.shI p.top (Ns.shT p.top (Ns.cntE p n f)) c.sh),iv (c.st.getD 0 0),iv (c.st.getD 1 0),iv (c.st.getD 2 0),iv (c.st.getD 3 0),iv (c.st.getD 4 0),iv (c.st.getD 5 0),iv (c.st.getD 6 0),iv (c.st.getD 7 0),iv (c.se.getD 0 0),iv (c.se.getD 1 0),iv (c.se.getD 2 0),iv 0,iv 0,iv 0,iv c.val]) (new:=[iv (Rd.shI p.top (Ns.shT p.top (Ns.cntE p n f)) c.sh),iv (c.st.getD 0 0),iv (c.st.getD 1 0),iv (c.st.getD 2 0),iv (c.st.getD 3 0),iv (c.st.getD 4 0),iv (c.st.getD 5 0),iv (c.st.getD 6 0),iv (c.st.getD 7 0),iv (c.se.getD 0 0),iv (c.se.getD 1 0),iv (c.se.getD 2 0),iv (c.fa.getD 0 0),iv (c.fa.getD 1 0),iv (c.fa.getD 2 0),iv c.val]) c.fa (.tmp 119) (.tmp 121) rfl U24 (by kernel_rfl) (by kernel_rfl) (by kernel_rfl) (by kernel_rfl)) ⟨I0,I0,T0⟩ ⟨rfl,T0⟩ rfl (dE ?_)))))) (by kernel_rfl)
 show ETri J w0 _ _ _
 refine kW 124 [(2,.box 78 [iv 0,iv 0,iv 0,iv 0,iv 0,iv 0,iv 0,iv 0,iv 0,iv 0,iv 0,iv 0,iv 0,iv 0,iv 0,iv 0]),(4,.box 78 [iv (Rd.shI p.top (Ns.shT p.top (Ns.cntE p n f)) c.sh),iv (c.st.getD 0 0),iv (c.st.getD 1 0),iv (c.st.getD 2 0),iv (c.st.getD 3 0),iv (c.st.getD 4 0),iv (c.st.getD 5 0),iv (c.st.getD 6 0),iv (c.st.getD 7 0),iv (c.se.getD 0 0),iv (c.se.getD 1 0),iv (c.se.getD 2 0),iv (c.fa.getD 0 0),iv (c.fa.getD 1 0),iv (c.fa.getD 2 0),iv c.val])] [(4,.box 2 0),(5,bF),(10,.box 4 0)] (Zd (Zb (Za (oB (lS ([iv (Rd.shI p.top (Ns.shT p.top (Ns.cntE p n f)) c.sh),iv (c.st.getD 0 0),iv (c.st.getD 1 0),iv (c.st.getD 2 0),iv (c.st.getD 3 0),iv (c.st.getD 4 0),iv (c.st.getD 5 0),iv (c.st.getD 6 0),iv (c.st.getD 7 0),iv (c.se.getD 0 0),iv (c.se.getD 1 0),iv (c.se.getD 2 0),iv (c.fa.getD 0 0),iv (c.fa.getD 1 0),iv (c.fa.getD 2 0),iv c.val]) 16 10 U78) I0 rfl (ZF rfl (sB 16 4 (.tmp 123) (.agg [iv (Rd.shI p.top (Ns.shT p.top (Ns.cntE p n f)) c.sh),iv (c.st.getD 0 0),iv (c.st.getD 1 0),iv (c.st.getD 2 0),iv (c.st.getD 3 0),iv (c.st.getD 4 0),iv (c.st.getD 5 0),iv (c.st.getD 6 0),iv (c.st.getD 7 0),iv (c.se.getD 0 0),iv (c.se.getD 1 0),iv (c.se.getD 2 0),iv (c.fa.getD 0 0),iv (c.fa.getD 1 0),iv (c.fa.getD 2 0),iv c.val])) ⟨I0,I0,T0⟩ ⟨rfl,T0⟩ rfl (pM (aC (.bool true)) (Ze (Zd (Zk ?_)))))))))
 refine Ye Try.results41 (.cellS rfl rfl U78 rfl (z:=16) (by kernel_rfl) rfl (by decide)) (.tmp rfl) ?_
 rw [Int.sub_add_cancel] at hs10
 have hr:(Rd.rdX p n f c)=true:=by simp only [Rd.rdX,Rd.rdB,hs1,hs2,hs3,hs4,hs5,hs6,hs9,hs10,hs11,hs12,decide_true,decide_false,Bool.and_true,Bool.true_and,Bool.false_and,Bool.and_false,Bool.not_true,Bool.not_false,if_true,if_false,true_or,or_true,or_self,not_true_eq_false,not_false_eq_true,ite_true,ite_false,or_false,false_or]
 rw [show (Rd.rdY p n f c)=true from hr,hr]
 exact rfl
 have hs10f:(Rd.belB c.fa ((Rd.mfE p-1)+1))=false:=by simpa using hs10
 refine Za (oA (fb 4 3 U31 1) I0 (oB (lb (Zc c.fa) 75 U24) I0 rfl (oA (nS 76 U24) I0 (oA (fb 3 6 U27 1) I0 (oB (lb (Zr p.msgs) 78 U22) I0 rfl (oA (nS 79 U22) I0 (oC (Z0 rfl (dT' hs9)) I0 I0 (pM (mT 81 bF) (gA (fb 4 3 U31 1) I0 (gB (lb (Zc c.fa) 83 U24) I0 rfl (qM (mT 9 (iv (Rd.mfE p-1))) (gC (Yo (c:=(Rd.mfE p-1)+1) rfl (w64 (by omega) (by omega) (by omega))) I0 I0 (gD (sc #[.tmp 84,.tmp 86] [] (Yd (Yk c.fa (Nat.le_trans HC.lfa (by decide))) hs10f) [Zc c.fa,iv ((Rd.mfE p-1)+1)] rfl rfl rfl) I0 I0 I0 (gA (Ya rfl rfl) I0 (pP (pk false bT bT rfl) (Ze (Zd (Zm rfl (Zb (Za (ZF rfl (YW [] #[.int .i64 0,.int .i64 0,.int .i64 0,.int .i64 0,.int .i64 0,.int .i64 0,.int .i64 0,.int .i64 0,.int .i64 0,.int .i64 0,.int .i64 0,.int .i64 0,.int .i64 0,.int .i64 0,.int .i64 0,.int .i64 0] rfl rfl (by kernel_rfl) rfl) T0 T0 T0 (ZF rfl (sB 16 4 (.tmp 90) (.agg [iv 0,iv 0,iv 0,iv 0,iv 0,iv 0,iv 0,iv 0,iv 0,iv 0,iv 0,iv 0,iv 0,iv 0,iv 0,iv 0])) ⟨I0,I0,T0⟩ ⟨rfl,T0⟩ rfl (pM (aC (.bool false)) ?_)))))))))))))))))))))))
 refine Ze (Zd (Zk (Zj ?_)))
 refine Ye Try.results41 (.cellS rfl rfl U78 rfl (z:=16) (by kernel_rfl) rfl (by decide)) (.tmp rfl) ?_
 rw [Int.sub_add_cancel] at hs10f
 have hr:(Rd.rdX p n f c)=false:=by simp only [Rd.rdX,Rd.rdB,hs1,hs2,hs3,hs4,hs5,hs6,hs9,hs10f,decide_true,decide_false,Bool.and_true,Bool.true_and,Bool.false_and,Bool.and_false,Bool.not_true,Bool.not_false,if_true,if_false,true_or,or_true,or_self,not_true_eq_false,not_false_eq_true,ite_true,ite_false,or_false,false_or]
 rw [show (Rd.rdY p n f c)=false from hr,hr]
 exact rfl
 refine Za (oA (fb 4 3 U31 1) I0 (oB (lb (Zc c.fa) 75 U24) I0 rfl (oA (nS 76 U24) I0 (oA (fb 3 6 U27 1) I0 (oB (lb (Zr p.msgs) 78 U22) I0 rfl (oA (nS 79 U22) I0 (oC (Z0 rfl (dF' hs9)) I0 I0 (pM (mT 81 bT) (qK (qK (qK (qK (qK (qK (pP (pk true bT (.v (.tuple #[])) rfl) (Ze (Zd (Zm rfl (Zb (Za (ZF rfl (YW [] #[.int .i64 0,.int .i64 0,.int .i64 0,.int .i64 0,.int .i64 0,.int .i64 0,.int .i64 0,.int .i64 0,.int .i64 0,.int .i64 0,.int .i64 0,.int .i64 0,.int .i64 0,.int .i64 0,.int .i64 0,.int .i64 0] rfl rfl (by kernel_rfl) rfl) T0 T0 T0 (ZF rfl (sB 16 4 (.tmp 90) (.agg [iv 0,iv 0,iv 0,iv 0,iv 0,iv 0,iv 0,iv 0,iv 0,iv 0,iv 0,iv 0,iv 0,iv 0,iv 0,iv 0])) ⟨I0,I0,T0⟩ ⟨rfl,T0⟩ rfl (pM (aC (.bool false)) ?_)))))))))))))))))))))))
 refine Ze (Zd (Zk (Zj ?_)))
 refine Ye Try.results41 (.cellS rfl rfl U78 rfl (z:=16) (by kernel_rfl) rfl (by decide)) (.tmp rfl) ?_
 have hr:(Rd.rdX p n f c)=false:=by simp only [Rd.rdX,Rd.rdB,hs1,hs2,hs3,hs4,hs5,hs6,hs9,decide_true,decide_false,Bool.and_true,Bool.true_and,Bool.false_and,Bool.and_false,Bool.not_true,Bool.not_false,if_true,if_false,true_or,or_true,or_self,not_true_eq_false,not_false_eq_true,ite_true,ite_false,or_false,false_or]
 rw [show (Rd.rdY p n f c)=false from hr,hr]
 exact rfl
 have hs6f:(Rd.belB c.se 1048577)=false:=by simpa using hs6
 refine Za (oA (fb 3 3 U31 1) I0 (oB (lb (Zc c.se) 53 U24) I0 rfl (oA (nS 54 U24) I0 (oA (fb 3 6 U27 1) I0 (oB (lb (Zr p.msgs) 56 U22) I0 rfl (oA (nS 57 U22) I0 (oC (Z0 rfl (dT' hs5)) I0 I0 (pM (mT 59 bF) (gA (fb 3 3 U31 1) I0 (gB (lb (Zc c.se) 61 U24) I0 rfl (gD (sc #[.tmp 62,.const (.int .i64 1048577)] [] (Yd (Yk c.se (Nat.le_trans HC.lse (by decide))) hs6f) [Zc c.se,iv 1048577] rfl rfl rfl) I0 I0 I0 (gA (Ya rfl rfl) I0 (pP (pk false bT bT rfl) (Ze (Zd (Zm rfl (Zb (Za (ZF rfl (YW [] #[.int .i64 0,.int .i64 0,.int .i64 0,.int .i64 0,.int .i64 0,.int .i64 0,.int .i64 0,.int .i64 0,.int .i64 0,.int .i64 0,.int .i64 0,.int .i64 0,.int .i64 0,.int .i64 0,.int .i64 0,.int .i64 0] rfl rfl (by kernel_rfl) rfl) T0 T0 T0 (ZF rfl (sB 16 4 (.tmp 66) (.agg [iv 0,iv 0,iv 0,iv 0,iv 0,iv 0,iv 0,iv 0,iv 0,iv 0,iv 0,iv 0,iv 0,iv 0,iv 0,iv 0])) ⟨I0,I0,T0⟩ ⟨rfl,T0⟩ rfl (pM (aC (.bool false)) (Ze (Zd ?_)))))))))))))))))))))))
 refine Zk (Zj ?_)
 refine Ye Try.results41 (.cellS rfl rfl U78 rfl (z:=16) (by kernel_rfl) rfl (by decide)) (.tmp rfl) ?_
 have hr:(Rd.rdX p n f c)=false:=by simp only [Rd.rdX,Rd.rdB,hs1,hs2,hs3,hs4,hs5,hs6f,decide_true,decide_false,Bool.and_true,Bool.true_and,Bool.false_and,Bool.and_false,Bool.not_true,Bool.not_false,if_true,if_false,true_or,or_true,or_self,not_true_eq_false,not_false_eq_true,ite_true,ite_false,or_false,false_or]
 rw [show (Rd.rdY p n f c)=false from hr,hr]
 exact rfl
 refine Za (oA (fb 3 3 U31 1) I0 (oB (lb (Zc c.se) 53 U24) I0 rfl (oA (nS 54 U24) I0 (oA (fb 3 6 U27 1) I0 (oB (lb (Zr p.msgs) 56 U22) I0 rfl (oA (nS 57 U22) I0 (oC (Z0 rfl (dF' hs5)) I0 I0 (pM (mT 59 bT) (qK (qK (qK (qK (pP (pk true bT (.v (.tuple #[])) rfl) (Ze (Zd (Zm rfl (Zb (Za (ZF rfl (YW [] #[.int .i64 0,.int .i64 0,.int .i64 0,.int .i64 0,.int .i64 0,.int .i64 0,.int .i64 0,.int .i64 0,.int .i64 0,.int .i64 0,.int .i64 0,.int .i64 0,.int .i64 0,.int .i64 0,.int .i64 0,.int .i64 0] rfl rfl (by kernel_rfl) rfl) T0 T0 T0 (ZF rfl (sB 16 4 (.tmp 66) (.agg [iv 0,iv 0,iv 0,iv 0,iv 0,iv 0,iv 0,iv 0,iv 0,iv 0,iv 0,iv 0,iv 0,iv 0,iv 0,iv 0])) ⟨I0,I0,T0⟩ ⟨rfl,T0⟩ rfl (pM (aC (.bool false)) (Ze (Zd ?_)))))))))))))))))))))))
 refine Zk (Zj ?_)
 refine Ye Try.results41 (.cellS rfl rfl U78 rfl (z:=16) (by kernel_rfl) rfl (by decide)) (.tmp rfl) ?_
 have hr:(Rd.rdX p n f c)=false:=by simp only [Rd.rdX,Rd.rdB,hs1,hs2,hs3,hs4,hs5,decide_true,decide_false,Bool.and_true,Bool.true_and,Bool.false_and,Bool.and_false,Bool.not_true,Bool.not_false,if_true,if_false,true_or,or_true,or_self,not_true_eq_false,not_false_eq_true,ite_true,ite_false,or_false,false_or]
 rw [show (Rd.rdY p n f c)=false from hr,hr]
 exact rfl
 refine Zo (dM (mT 8 bT) (dA (Ya rfl rfl) I0 (dM (mT 23 bF) (dA (fb 1 3 U31 1) I0 (dB (lb (Zc c.st) 25 U24) I0 rfl (dA (nS 26 U24) I0 (dM (mT 0 (.el (Ns.sysC p n t f) 0)) (dA (Zl (off:=0) (.tmp 28) rfl) I0 (dA (fe 13 29 U111 1) I0 (dA (lE (iv (Ns.cntE p n f)) 30 U3) I0 (dC (Z0 rfl (dT' hs2)) I0 I0 (dP (pk false bT bF rfl) (dM (mT 33 bF) (dA (fb 1 3 U31 1) I0 (dB (lb (Zc c.st) 35 U24) I0 rfl (dA (fb 2 6 U27 1) I0 (dB (lb (Zr p.states) 37 U22) I0 rfl (dA (nS 38 U22) I0 (dD (sc #[.tmp 36,.tmp 39] [] (Yd (Yk c.st (Nat.le_trans HC.lst (by decide))) hs3) [Zc c.st,iv p.states.length] rfl rfl rfl) I0 I0 I0 (dA (Ya rfl rfl) I0 (dP (pk false bT bF rfl) (dM (mT 42 bF) (dA (fb 2 3 U31 1) I0 (dB (lb (iv c.cor) 44 U3) I0 rfl (dM (mT 0 (.el (Ns.sysC p n t f) 0)) (dA (Zl (off:=0) (.tmp 46) rfl) I0 (dA (fe 14 47 U111 1) I0 (dA (lE (iv (n-f)) 48 U3) I0 (dC (Z0 rfl (dF' hs4)) I0 I0 (dP (pk false bT bT rfl) (dE ?_))))))))))))))))))))))))))))))) (by kernel_rfl)
 show ETri J w0 _ _ _
 refine kW 124 [(1,.box 31 (Rd.cCg c)),(2,.box 78 [iv 0,iv 0,iv 0,iv 0,iv 0,iv 0,iv 0,iv 0,iv 0,iv 0,iv 0,iv 0,iv 0,iv 0,iv 0,iv 0]),(3,.box 27 [sv p.nm,iv p.top,Zr p.states,Zr p.msgs,Zr p.vals,iv p.fault,slA 4 cLn p.res,Zc p.init,Zc p.leader,slA 18 cRu p.rules])] [(3,.box 1 0),(4,.box 2 0),(5,bF),(6,.box 3 0),(7,iv (Rd.shI p.top (Ns.shT p.top (Ns.cntE p n f)) c.sh)),(51,bT)] (Zd (Zm rfl (Zb (Za (ZF rfl (YW [] #[.int .i64 0,.int .i64 0,.int .i64 0,.int .i64 0,.int .i64 0,.int .i64 0,.int .i64 0,.int .i64 0,.int .i64 0,.int .i64 0,.int .i64 0,.int .i64 0,.int .i64 0,.int .i64 0,.int .i64 0,.int .i64 0] rfl rfl (by kernel_rfl) rfl) T0 T0 T0 (ZF rfl (sB 16 4 (.tmp 52) (.agg [iv 0,iv 0,iv 0,iv 0,iv 0,iv 0,iv 0,iv 0,iv 0,iv 0,iv 0,iv 0,iv 0,iv 0,iv 0,iv 0])) ⟨I0,I0,T0⟩ ⟨rfl,T0⟩ rfl (pM (aC (.bool false)) (Ze (Zd (Zk (Zj ?_)))))))))))
 refine Ye Try.results41 (.cellS rfl rfl U78 rfl (z:=16) (by kernel_rfl) rfl (by decide)) (.tmp rfl) ?_
 have hr:(Rd.rdX p n f c)=false:=by simp only [Rd.rdX,Rd.rdB,hs1,hs2,hs3,hs4,decide_true,decide_false,Bool.and_true,Bool.true_and,Bool.false_and,Bool.and_false,Bool.not_true,Bool.not_false,if_true,if_false,true_or,or_true,or_self,not_true_eq_false,not_false_eq_true,ite_true,ite_false,or_false,false_or]
 rw [show (Rd.rdY p n f c)=false from hr,hr]
 exact rfl
 have hs3f:(Rd.belB c.st ((p.states.length:Nat):Int))=false:=by simpa using hs3
 refine Zo (dM (mT 8 bT) (dA (Ya rfl rfl) I0 (dM (mT 23 bF) (dA (fb 1 3 U31 1) I0 (dB (lb (Zc c.st) 25 U24) I0 rfl (dA (nS 26 U24) I0 (dM (mT 0 (.el (Ns.sysC p n t f) 0)) (dA (Zl (off:=0) (.tmp 28) rfl) I0 (dA (fe 13 29 U111 1) I0 (dA (lE (iv (Ns.cntE p n f)) 30 U3) I0 (dC (Z0 rfl (dT' hs2)) I0 I0 (dP (pk false bT bF rfl) (dM (mT 33 bF) (dA (fb 1 3 U31 1) I0 (dB (lb (Zc c.st) 35 U24) I0 rfl (dA (fb 2 6 U27 1) I0 (dB (lb (Zr p.states) 37 U22) I0 rfl (dA (nS 38 U22) I0 (dD (sc #[.tmp 36,.tmp 39] [] (Yd (Yk c.st (Nat.le_trans HC.lst (by decide))) hs3f) [Zc c.st,iv p.states.length] rfl rfl rfl) I0 I0 I0 (dA (Ya rfl rfl) I0 (dP (pk false bT bT rfl) (dM (mT 42 bT) (dK (dK (dK (dK (dK (dK (dK (dP (pk true bT (.v (.tuple #[])) rfl) (dE ?_))))))))))))))))))))))))))))))) (by kernel_rfl)
 show ETri J w0 _ _ _
 refine kW 124 [(1,.box 31 (Rd.cCg c)),(2,.box 78 [iv 0,iv 0,iv 0,iv 0,iv 0,iv 0,iv 0,iv 0,iv 0,iv 0,iv 0,iv 0,iv 0,iv 0,iv 0,iv 0]),(3,.box 27 [sv p.nm,iv p.top,Zr p.states,Zr p.msgs,Zr p.vals,iv p.fault,slA 4 cLn p.res,Zc p.init,Zc p.leader,slA 18 cRu p.rules])] [(3,.box 1 0),(4,.box 2 0),(5,bF),(6,.box 3 0),(7,iv (Rd.shI p.top (Ns.shT p.top (Ns.cntE p n f)) c.sh)),(51,bT)] (Zd (Zm rfl (Zb (Za (ZF rfl (YW [] #[.int .i64 0,.int .i64 0,.int .i64 0,.int .i64 0,.int .i64 0,.int .i64 0,.int .i64 0,.int .i64 0,.int .i64 0,.int .i64 0,.int .i64 0,.int .i64 0,.int .i64 0,.int .i64 0,.int .i64 0,.int .i64 0] rfl rfl (by kernel_rfl) rfl) T0 T0 T0 (ZF rfl (sB 16 4 (.tmp 52) (.agg [iv 0,iv 0,iv 0,iv 0,iv 0,iv 0,iv 0,iv 0,iv 0,iv 0,iv 0,iv 0,iv 0,iv 0,iv 0,iv 0])) ⟨I0,I0,T0⟩ ⟨rfl,T0⟩ rfl (pM (aC (.bool false)) (Ze (Zd (Zk (Zj ?_)))))))))))
 refine Ye Try.results41 (.cellS rfl rfl U78 rfl (z:=16) (by kernel_rfl) rfl (by decide)) (.tmp rfl) ?_
 have hr:(Rd.rdX p n f c)=false:=by simp only [Rd.rdX,Rd.rdB,hs1,hs2,hs3f,decide_true,decide_false,Bool.and_true,Bool.true_and,Bool.false_and,Bool.and_false,Bool.not_true,Bool.not_false,if_true,if_false,true_or,or_true,or_self,not_true_eq_false,not_false_eq_true,ite_true,ite_false,or_false,false_or]
 rw [show (Rd.rdY p n f c)=false from hr,hr]
 exact rfl
 refine Zo (dM (mT 8 bT) (dA (Ya rfl rfl) I0 (dM (mT 23 bF) (dA (fb 1 3 U31 1) I0 (dB (lb (Zc c.st) 25 U24) I0 rfl (dA (nS 26 U24) I0 (dM (mT 0 (.el (Ns.sysC p n t f) 0)) (dA (Zl (off:=0) (.tmp 28) rfl) I0 (dA (fe 13 29 U111 1) I0 (dA (lE (iv (Ns.cntE p n f)) 30 U3) I0 (dC (Z0 rfl (dF' hs2)) I0 I0 (dP (pk false bT bT rfl) (dM (mT 33 bT) (dK (dK (dK (dK (dK (dK (dK (dP (pk true bT (.v (.tuple #[])) rfl) (dM (mT 42 bT) (dK (dK (dK (dK (dK (dK (dK (dP (pk true bT (.v (.tuple #[])) rfl) (dE ?_))))))))))))))))))))))))))))))) (by kernel_rfl)
 show ETri J w0 _ _ _
 refine kW 124 [(1,.box 31 (Rd.cCg c)),(2,.box 78 [iv 0,iv 0,iv 0,iv 0,iv 0,iv 0,iv 0,iv 0,iv 0,iv 0,iv 0,iv 0,iv 0,iv 0,iv 0,iv 0]),(3,.box 27 [sv p.nm,iv p.top,Zr p.states,Zr p.msgs,Zr p.vals,iv p.fault,slA 4 cLn p.res,Zc p.init,Zc p.leader,slA 18 cRu p.rules])] [(3,.box 1 0),(4,.box 2 0),(5,bF),(6,.box 3 0),(7,iv (Rd.shI p.top (Ns.shT p.top (Ns.cntE p n f)) c.sh)),(51,bT)] (Zd (Zm rfl (Zb (Za (ZF rfl (YW [] #[.int .i64 0,.int .i64 0,.int .i64 0,.int .i64 0,.int .i64 0,.int .i64 0,.int .i64 0,.int .i64 0,.int .i64 0,.int .i64 0,.int .i64 0,.int .i64 0,.int .i64 0,.int .i64 0,.int .i64 0,.int .i64 0] rfl rfl (by kernel_rfl) rfl) T0 T0 T0 (ZF rfl (sB 16 4 (.tmp 52) (.agg [iv 0,iv 0,iv 0,iv 0,iv 0,iv 0,iv 0,iv 0,iv 0,iv 0,iv 0,iv 0,iv 0,iv 0,iv 0,iv 0])) ⟨I0,I0,T0⟩ ⟨rfl,T0⟩ rfl (pM (aC (.bool false)) (Ze (Zd (Zk (Zj ?_)))))))))))
 refine Ye Try.results41 (.cellS rfl rfl U78 rfl (z:=16) (by kernel_rfl) rfl (by decide)) (.tmp rfl) ?_
 have hr:(Rd.rdX p n f c)=false:=by simp only [Rd.rdX,Rd.rdB,hs1,hs2,decide_true,decide_false,Bool.and_true,Bool.true_and,Bool.false_and,Bool.and_false,Bool.not_true,Bool.not_false,if_true,if_false,true_or,or_true,or_self,not_true_eq_false,not_false_eq_true,ite_true,ite_false,or_false,false_or]
 rw [show (Rd.rdY p n f c)=false from hr,hr]
 exact rfl
 have hs1f:(Rd.shB p.top (Ns.shT p.top (Ns.cntE p n f)) c.sh)=false:=by simpa using hs1
 rw [hs1f]
 refine kW 124 [(1,.box 31 (Rd.cCg c)),(2,.box 78 [iv 0,iv 0,iv 0,iv 0,iv 0,iv 0,iv 0,iv 0,iv 0,iv 0,iv 0,iv 0,iv 0,iv 0,iv 0,iv 0]),(3,.box 27 [sv p.nm,iv p.top,Zr p.states,Zr p.msgs,Zr p.vals,iv p.fault,slA 4 cLn p.res,Zc p.init,Zc p.leader,slA 18 cRu p.rules])] [(0,.el (Ns.sysC p n t f) 0),(3,.box 1 0),(4,.box 2 0),(5,bF),(6,.box 3 0),(7,iv (Rd.shI p.top (Ns.shT p.top (Ns.cntE p n f)) c.sh)),(8,bF)] ?_
 refine Zo (dM (mT 8 bF) (dA (Ya rfl rfl) I0 (dM (mT 23 bT) (dK (dK (dK (dK (dK (dK (dK (dK (dP (pk true bT (.v (.tuple #[])) rfl) (dM (mT 33 bT) (dK (dK (dK (dK (dK (dK (dK (dP (pk true bT (.v (.tuple #[])) rfl) (dM (mT 42 bT) (dK (dK (dK (dK (dK (dK (dK (dP (pk true bT (.v (.tuple #[])) rfl) (dE ?_))))))))))))))))))))))))))))))) (by kernel_rfl)
 show ETri J w0 _ _ _
 refine kW 124 [(1,.box 31 (Rd.cCg c)),(2,.box 78 [iv 0,iv 0,iv 0,iv 0,iv 0,iv 0,iv 0,iv 0,iv 0,iv 0,iv 0,iv 0,iv 0,iv 0,iv 0,iv 0]),(3,.box 27 [sv p.nm,iv p.top,Zr p.states,Zr p.msgs,Zr p.vals,iv p.fault,slA 4 cLn p.res,Zc p.init,Zc p.leader,slA 18 cRu p.rules])] [(3,.box 1 0),(4,.box 2 0),(5,bF),(6,.box 3 0),(7,iv (Rd.shI p.top (Ns.shT p.top (Ns.cntE p n f)) c.sh)),(51,bT)] (Zd (Zm rfl (Zb (Za (ZF rfl (YW [] #[.int .i64 0,.int .i64 0,.int .i64 0,.int .i64 0,.int .i64 0,.int .i64 0,.int .i64 0,.int .i64 0,.int .i64 0,.int .i64 0,.int .i64 0,.int .i64 0,.int .i64 0,.int .i64 0,.int .i64 0,.int .i64 0] rfl rfl (by kernel_rfl) rfl) T0 T0 T0 (ZF rfl (sB 16 4 (.tmp 52) (.agg [iv 0,iv 0,iv 0,iv 0,iv 0,iv 0,iv 0,iv 0,iv 0,iv 0,iv 0,iv 0,iv 0,iv 0,iv 0,iv 0])) ⟨I0,I0,T0⟩ ⟨rfl,T0⟩ rfl (pM (aC (.bool false)) (Ze (Zd (Zk (Zj ?_)))))))))))
 refine Ye Try.results41 (.cellS rfl rfl U78 rfl (z:=16) (by kernel_rfl) rfl (by decide)) (.tmp rfl) ?_
 have hr:(Rd.rdX p n f c)=false:=by simp only [Rd.rdX,Rd.rdB,hs1f,decide_true,decide_false,Bool.and_true,Bool.true_and,Bool.false_and,Bool.and_false,Bool.not_true,Bool.not_false,if_true,if_false,true_or,or_true,or_self,not_true_eq_false,not_false_eq_true,ite_true,ite_false,or_false,false_or]
 rw [show (Rd.rdY p n f c)=false from hr,hr]
 exact rfl
namespace En
def cfV (s:Int) (c:Cf):List AV :=
  [iv s,iv (c.st.getD 0 0),iv (c.st.getD 1 0),iv (c.st.getD 2 0),iv (c.st.getD 3 0),iv (c.st.getD 4 0),iv (c.st.getD 5 0),iv (c.st.getD 6 0),iv (c.st.getD 7 0),
   iv (c.se.getD 0 0),iv (c.se.getD 1 0),iv (c.se.getD 2 0),iv (c.fa.getD 0 0),iv (c.fa.getD 1 0),iv (c.fa.getD 2 0),iv c.val]
theorem plain_cfV (s:Int) (c:Cf):∀ X∈cfV s c,Plain X:=by
  intro X hX
  simp only [cfV,List.mem_cons,List.not_mem_nil,or_false] at hX
  rcases hX with rfl | rfl | rfl | rfl | rfl | rfl | rfl | rfl | rfl | rfl | rfl | rfl | rfl | rfl | rfl | rfl<;>exact .v _
theorem cfV_st {s:Int} {c:Cf} {k:Nat} (h:k<8):(cfV s c)[1+k*1]? = some (iv (c.st.getD k 0)):=by
  obtain rfl | rfl | rfl | rfl | rfl | rfl | rfl | rfl:k=0∨k=1∨k=2∨k=3∨k=4∨k=5∨k=6∨k=7:=by omega
  all_goals rfl
theorem cfV_fa {s:Int} {c:Cf} {k:Nat} (h:k<3):(cfV s c)[12+k*1]? = some (iv (c.fa.getD k 0)):=by
  obtain rfl | rfl | rfl:k=0∨k=1∨k=2:=by omega
  all_goals rfl
theorem cfV_row {s:Int} {c:Cf} (h:c.st.length≤8):((cfV s c).drop 1).take c.st.length=c.st.map iv:=by
  apply List.ext_getElem?
  intro j
  rw [List.getElem?_take]
  by_cases hj:j<c.st.length
  · rw [if_pos hj,List.getElem?_drop,List.getElem?_map,List.getElem?_eq_getElem hj,Option.map_some]
    have:=cfV_st (s:=s) (c:=c) (k:=j) (by omega)
    rw [Nat.mul_one,Ct.getD_at hj] at this
    exact this
  rw [if_neg hj,List.getElem?_map,List.getElem?_eq_none (by omega)];rfl
def hdV (p:Fm) (f:Int) (c:Cf) (m:Nat):Int:=if p.fault=1∨p.fault=2 then c.se.getD m 0+c.fa.getD m 0 else if p.fault=3 then c.se.getD m 0+f else c.se.getD m 0
def hdJ (p:Fm) (f:Int) (c:Cf) (j m:Nat):Int:=if m<j then hdV p f c m else c.se.getD m 0
def msA (g:Nat→Int):List AV:=midF [] 3 (fun m=>iv (g m)) []
theorem plain_msA (g:Nat→Int):∀ X∈msA g,Plain X:=by
  intro X hX
  unfold msA midF at hX
  rw [List.nil_append,List.append_nil] at hX
  obtain ⟨j,_,rfl⟩:=List.mem_map.1 hX;exact .v _
theorem msA_get {g:Nat→Int} {k:Nat} (h:k<3):(msA g)[0+k*1]? = some (iv (g k)):=midF_get (i:=k) h (by show 0+k=_;omega)
theorem msA_step {p:Fm} {f:Int} {c:Cf} {j:Nat} {x:Int} (h:j<3) (hx:x=hdV p f c j):setAll (msA (hdJ p f c j)) (0+j*1) [iv x]=msA (hdJ p f c (j+1)) :=
  midF_set (i:=j) h (by show 0+j=_;omega) (by unfold hdJ;rw [if_pos (by omega),hx]) fun k _ hne=>by
    refine congrArg iv ?_
    unfold hdJ
    by_cases a:k<j
    · rw [if_pos a,if_pos (by omega)]
    rw [if_neg a,if_neg (by omega)]
theorem hdJ_skip {p:Fm} {f:Int} {c:Cf} {j:Nat} (h1:¬ p.fault=1) (h2:¬ p.fault=2) (h3:¬ p.fault=3):hdJ p f c (j+1)=hdJ p f c j:=by
  funext k
  unfold hdJ
  by_cases a:k<j
  · rw [if_pos a,if_pos (by omega)]
  rw [if_neg a]
  by_cases b:k<j+1
  · rw [if_pos b];unfold hdV;rw [if_neg (by omega),if_neg h3]
  rw [if_neg b]
theorem hdJ_at {p:Fm} {f:Int} {c:Cf} {j:Nat}:hdJ p f c j j=c.se.getD j 0:=by unfold hdJ;rw [if_neg (by omega)]
theorem hd_12 {p:Fm} {f:Int} {c:Cf} {j:Nat} (h:p.fault=1∨p.fault=2):hdJ p f c j j+c.fa.getD j 0=hdV p f c j:=by rw [hdJ_at];unfold hdV;rw [if_pos h]
theorem hd_3 {p:Fm} {f:Int} {c:Cf} {j:Nat} (h:¬ p.fault=1) (h2:¬ p.fault=2) (h3:p.fault=3):hdJ p f c j j+f=hdV p f c j:=by rw [hdJ_at];unfold hdV;rw [if_neg (by omega),if_pos h3]
def isP (n:Nat) (i:Int):Bool:=decide (0≤i)&&decide (i<((n:Nat):Int))
def ptB (c:Cf) (r:Ru) (i:Nat) (k:Int):Bool:=if r.kind=2∨r.kind=5 then isP c.st.length k && !decide (k=((i:Nat):Int))&&decide (c.st.getD k.toNat 0=r.pf) else decide (k = -1)
def rdN (c:Cf) (r:Ru):Bool:=decide (0≤r.rd) && !decide (c.val=r.rd)
def gdN (n t f:Int) (g:Nat→Int) (q:Th):Bool:=decide (q.coef*g q.msg.toNat<evN q.bd.c q.bd.n q.bd.t q.bd.f n t f)
def faN (c:Cf) (r:Ru) (i j:Nat):Bool := !decide (j=i)&&(decide (0<r.fa.length) && !decide (c.st.getD j 0∈r.fa))
def exY (c:Cf) (r:Ru) (i j:Nat):Bool := !decide (j=i)&&decide (c.st.getD j 0∈r.ex)
def exU (c:Cf) (r:Ru) (i J:Nat):Bool:=decide (((r.ex.length:Nat):Int)=0)||(List.range J).any (exY c r i)
def noF (c:Cf) (r:Ru) (i J:Nat):Prop:=∀ j,j<J→faN c r i j=false
def loB (n t f:Int) (c:Cf) (r:Ru) (g:Nat→Int) (i:Nat):Bool := !rdN c r&&(!r.guards.any (gdN n t f g)&&(!(List.range c.st.length).any (faN c r i)&&exU c r i c.st.length))
theorem noF_zero {c:Cf} {r:Ru} {i:Nat}:noF c r i 0:=fun _ h=>absurd h (by omega)
theorem noF_succ {c:Cf} {r:Ru} {i J:Nat} (h:noF c r i J) (e:faN c r i J=false):noF c r i (J+1):=fun j hj=>by
  by_cases a:j=J
  · subst a;exact e
  exact h j (by omega)
theorem exU_zero {c:Cf} {r:Ru} {i:Nat}:exU c r i 0=decide (((r.ex.length:Nat):Int)=0):=by unfold exU;simp
theorem exU_succ {c:Cf} {r:Ru} {i J:Nat}:exU c r i (J+1)=(exU c r i J||exY c r i J):=by unfold exU;rw [List.range_succ,List.any_append];simp [Bool.or_assoc]
theorem exU_same {c:Cf} {r:Ru} {i J:Nat} (h:J=i):exU c r i (J+1)=exU c r i J:=by rw [exU_succ];unfold exY;rw [decide_eq_true h];simp
theorem exU_t {c:Cf} {r:Ru} {i J:Nat} (h:exU c r i J=true):exU c r i (J+1)=true:=by rw [exU_succ,h];rfl
theorem exU_f {c:Cf} {r:Ru} {i J:Nat} (hJ:J<c.st.length) (h:exU c r i J=false) (hne:¬ J=i):exU c r i (J+1)=decide (c.st[J]∈r.ex):=by rw [exU_succ,h];unfold exY;rw [decide_eq_false hne,Ct.getD_at hJ];rfl
theorem lo_rd {n t f:Int} {c:Cf} {r:Ru} {g:Nat→Int} {i:Nat} (h:rdN c r=true):loB n t f c r g i=false:=by unfold loB;rw [h];rfl
theorem lo_gd {n t f:Int} {c:Cf} {r:Ru} {g:Nat→Int} {i k:Nat} (hk:k<r.guards.length) (h:r.guards[k].coef*g r.guards[k].msg.toNat<gbV r n t f k):loB n t f c r g i=false:=by
  have:r.guards.any (gdN n t f g)=true:=by
    refine Rd.any_one hk ?_
    unfold gdN
    unfold gbV at h
    rw [List.getD_eq_getElem?_getD,List.getElem?_eq_getElem hk,Option.getD_some] at h
    exact decide_eq_true h
  unfold loB
  rw [this]
  simp
theorem gd_no {n t f:Int} {r:Ru} {g:Nat→Int} {k:Nat} (hk:k<r.guards.length) (h:¬ r.guards[k].coef*g r.guards[k].msg.toNat<gbV r n t f k):gdN n t f g r.guards[k]=false:=by
  unfold gdN
  unfold gbV at h
  rw [List.getD_eq_getElem?_getD,List.getElem?_eq_getElem hk,Option.getD_some] at h
  exact decide_eq_false h
theorem lo_fa {n t f:Int} {c:Cf} {r:Ru} {g:Nat→Int} {i j:Nat} (hj:j<c.st.length) (h:faN c r i j=true):loB n t f c r g i=false:=by
  have:(List.range c.st.length).any (faN c r i)=true:=List.any_eq_true.2 ⟨j,List.mem_range.2 hj,h⟩
  unfold loB
  rw [this]
  simp
theorem lo_ex {n t f:Int} {c:Cf} {r:Ru} {g:Nat→Int} {i k j:Nat} (h:rdN c r=false) (hk:¬ k<r.guards.length) (h2:Rd.noP r.guards (gdN n t f g) k) (hj:¬ j<c.st.length) (hjl:j≤c.st.length) (h3:noF c r i j):loB n t f c r g i=exU c r i j:=by
  obtain rfl:j=c.st.length:=by omega
  have h4:(List.range c.st.length).any (faN c r i)=false:=List.any_eq_false.2 fun x hx=>by
    have:=h3 x (List.mem_range.1 hx)
    simp [this]
  unfold loB
  rw [h,Rd.any_none hk h2,h4]
  rfl
theorem fa_same {c:Cf} {r:Ru} {i j:Nat} (h:j=i):faN c r i j=false:=by unfold faN;rw [decide_eq_true h];rfl
theorem fa_none {c:Cf} {r:Ru} {i j:Nat} (h:¬ 0<((r.fa.length:Nat):Int)):faN c r i j=false:=by unfold faN;rw [decide_eq_false (show ¬ 0<r.fa.length by omega)];simp
theorem fa_in {c:Cf} {r:Ru} {i j:Nat} (hj:j<c.st.length) (h:decide (c.st[j]∈r.fa)=true):faN c r i j=false:=by unfold faN;rw [Ct.getD_at hj,h];simp
theorem fa_out {c:Cf} {r:Ru} {i j:Nat} (hj:j<c.st.length) (hne:¬ j=i) (h0:0<((r.fa.length:Nat):Int)) (h:decide (c.st[j]∈r.fa)=false):faN c r i j=true:=by
  unfold faN;rw [Ct.getD_at hj,h,decide_eq_false hne,decide_eq_true (show 0<r.fa.length by omega)];rfl
def lkP (top:Int) (sh:List Int) (n i:Nat):Int:=if top=4 then (trun sh sh.length).pa i else (rowL top n i).2.2
def fitB (c:Cf) (w:Int) (l:List Int):Bool:=decide (((l.length:Nat):Int)=0)||(decide (0≤w)&&decide (c.st.getD w.toNat 0∈l))
def nbB (top:Int) (c:Cf) (r:Ru) (i:Nat):Bool :=
  !(decide (r.pos=1) && !decide (((i:Nat):Int)=0))&&(!(decide (r.pos=2)&&decide (0≤Jd.lkS top c.sh c.st.length i)) &&
    (fitB c (Jd.lkF top c.sh c.st.length i) r.left&&(fitB c (Jd.lkS top c.sh c.st.length i) r.right&&fitB c (lkP top c.sh c.st.length i) r.parent)))
def psB (top:Int) (c:Cf) (r:Ru) (i:Nat) (k:Int):Bool :=
  if r.dir=1 then decide (k=Jd.lkS top c.sh c.st.length i) else if r.dir=2 then decide (k=Jd.lkF top c.sh c.st.length i)
  else if r.dir=3 then decide (k=Jd.lkF top c.sh c.st.length i)||decide (k=Jd.lkS top c.sh c.st.length i) else decide (k=lkP top c.sh c.st.length i)
def enR (top n t f:Int) (c:Cf) (g:Nat→Int) (r:Ru) (i:Nat) (k:Int):Bool :=
  decide (c.st.getD i 0=r.frm)&&(ptB c r i k&&(if r.kind=1 then loB n t f c r g i else if r.kind=4 then nbB top c r i else if r.kind=5 then psB top c r i k else decide (r.rd<0)||decide (c.val=r.rd)))
def enB (p:Fm) (n t f:Int) (c:Cf) (g:Nat→Int) (x y k:Int):Bool :=
  isP p.rules.length x&&(isP c.st.length y&&enR p.top n t f c g (p.rules.getD x.toNat default) y.toNat k)
theorem lk_el {top:Int} {sh:List Int} {n i:Nat} (h:i<n):(((List.range (n*3)).map fun j=>iv (Jd.lkC top sh n j)).drop (i*3)).take 3=[iv (Jd.lkF top sh n i),iv (Jd.lkS top sh n i),iv (lkP top sh n i)]:=by
  have e2:Jd.lkC top sh n (i*3+2)=lkP top sh n i:=by
    unfold Jd.lkC lkP
    rw [if_neg (by omega),if_neg (by omega),show (i*3+2) / 3=i by omega,show (((i*3+2:Nat):Int)) / 3=((i:Nat):Int) by omega]
  apply List.ext_getElem?
  intro j
  rw [List.getElem?_take]
  by_cases hj:j<3
  · rw [if_pos hj,List.getElem?_drop,List.getElem?_map,List.getElem?_range (by omega),Option.map_some]
    obtain rfl | rfl | rfl:j=0∨j=1∨j=2:=by omega
    · rw [Nat.add_zero,Jd.lkC_F];rfl
    · rw [Jd.lkC_S];rfl
    rw [e2];rfl
  rw [if_neg hj,List.getElem?_eq_none (by simp;omega)]
theorem links_at {top:Int} {c:Cf} {n:Nat} {s:Int} (hs:(shS top n)[s.toNat]? = some c.sh) (hn:n=c.st.length):((shS top n).flatMap (cLkS top n))[s.toNat*1]? = some (Jd.lkA top c.sh c.st.length):=by
  obtain ⟨h1,h2⟩:=List.getElem?_eq_some_iff.1 hs
  have:=Zu (z:=1) (f:=cLkS top n) (fun _=>rfl) (shS top n) s.toNat 0 h1 (by decide)
  rw [Nat.add_zero] at this
  rw [this,h2,← hn]
  rfl
theorem mulW {a b:Int} (h1:1≤a) (h2:a≤100) (h3:0≤b) (h4:b≤3000000):IntKind.i64.wrap (a*b)=a*b:=by
  have h5:0≤a*b:=Int.mul_nonneg (by omega) h3
  have h6:a*b≤100*3000000:=Int.mul_le_mul h2 h4 h3 (by omega)
  exact w64 rfl (by omega) (by omega)
structure RuV (p:Fm) (r:Ru):Prop where
  kd:1≤r.kind∧r.kind≤5
  kt:r.kind≤3↔p.top=1
  gd:∀ g∈r.guards,0≤g.msg∧g.msg<p.msgs.length∧1≤g.coef∧g.coef≤100
  gl:r.guards.length≤2
  rd:r.rd = -1∨(0≤r.rd∧r.rd<p.vals.length)
  wr:r.wr = -1∨(0≤r.wr∧r.wr<p.vals.length)
  em:¬ r.kind=1→¬ r.kind=2→¬ r.kind=3→r.rd = -1∧r.wr = -1
  po:r.kind=4→r.pos≠0→p.top≠3
  pi:r.kind=4→0≤r.pos∧r.pos≤2
  dr:r.kind=5→(p.top=4→r.dir=3∨r.dir=4)∧(p.top≠4→r.dir=1∨r.dir=2)
  tf:(0≤r.to∧r.to<p.states.length)∧(0≤r.frm∧r.frm<p.states.length)
  pt:r.kind=2∨r.kind=5→0≤r.pt∧r.pt<p.states.length
  re:r.kind=3→r.resp.length=p.states.length∧∀ x∈r.resp,0≤x∧x<p.states.length
  se:∀ x∈r.send,0≤x∧x<p.msgs.length
  sk:¬ r.kind=1→r.send=[]
theorem ix_in {n:Nat} {x:Int} (h:ixB n x=true):0≤x∧x<n:=by
  unfold ixB inB at h
  simp only [Bool.and_eq_true,decide_eq_true_eq] at h
  omega
theorem set_in {n:Nat} {xs:List Int} (h:setE n xs=0):∀ x∈xs,0≤x∧x<n:=by
  unfold setE at h
  split at h
  · cases h
  rename_i h1
  intro x hx
  simp only [Bool.not_eq_false,allK,List.take_length,List.all_eq_true] at h1
  exact ix_in (h1 x hx)
theorem gus_in {n:Nat}:∀ {gs:List Th},gusE n gs=0→∀ g∈gs,guE n g=0
  | [],_,g,hg=>by cases hg
  | a::l,h,g,hg=>by
    unfold gusE at h
    split at h
    · rename_i h1
      rcases List.mem_cons.1 hg with rfl | hg
      · exact h1
      exact gus_in h g hg
    rename_i h1;exact absurd h h1
theorem gu_in {n:Nat} {g:Th} (h:guE n g=0):0≤g.msg∧g.msg<n∧1≤g.coef∧g.coef≤100:=by
  unfold guE at h
  split at h
  · cases h
  rename_i h1
  split at h
  · cases h
  rename_i h2
  have h3:=ix_in (by simpa using h1)
  unfold inB at h2
  simp only [Bool.not_eq_false,Bool.and_eq_true,decide_eq_true_eq] at h2
  omega
theorem sh_in {n:Nat} {a b:Int} (h:shE n a b=0):(a = -1∨(0≤a∧a<n))∧(b = -1∨(0≤b∧b<n)):=by
  unfold shE at h
  split at h
  · cases h
  rename_i h1
  simp only [not_or,not_and,Bool.not_eq_false] at h1
  constructor
  · by_cases e:a = -1
    · exact .inl e
    exact .inr (ix_in (h1.1 e))
  by_cases e:b = -1
  · exact .inl e
  exact .inr (ix_in (h1.2 e))
theorem val_rule {p:Fm} (h:valE p=0) {r:Ru} (hr:r∈p.rules):∃ i,rruleE p i r=0:=by
  unfold valE at h
  split at h
  · cases h
  split at h
  · cases h
  split at h
  · cases h
  rename_i hst
  split at h
  · cases h
  split at h
  · cases h
  split at h
  · cases h
  split at h
  · cases h
  have a3:=ZN (ZN (ZN h).2).2
  obtain ⟨j,hj,rfl⟩:=List.getElem_of_mem hr
  have:=Ns.rulesE_all _ _ a3.1 j (Nat.zero_le _) (by omega)
  rw [List.getD_eq_getElem?_getD,List.getElem?_eq_getElem hj,Option.getD_some] at this
  exact ⟨j,by rw [← rule_eq p j _ (fun e=>hst (by rw [e];rfl))];exact this⟩
theorem rule_in {p:Fm} {r:Ru} {i:Nat} (h:rruleE p i r=0):RuV p r:=by
  unfold rruleE at h
  split at h
  · cases h
  split at h
  · cases h
  rename_i h1
  split at h
  · cases h
  rename_i h2
  have hk:rkindB r p.top=true:=by simpa using h1
  unfold rkindB at hk
  rw [Bool.and_eq_true,Bool.and_eq_true] at hk
  obtain ⟨⟨k1,k2⟩,k3⟩:=hk
  have E:=(unused_emp r p.top).1 (by simpa using k3)
  have hs:rstB r p.states.length=true:=by simpa using h2
  unfold rstB at hs
  rw [Bool.and_eq_true,Bool.and_eq_true] at hs
  obtain ⟨⟨s1,s2⟩,s3⟩:=hs
  unfold inB at k1
  simp only [Bool.and_eq_true,decide_eq_true_eq] at k1
  have k2':r.kind≤3↔p.top=1:=by
    have:=eq_of_beq k2
    exact decide_eq_decide.1 this
  unfold rpartE at h
  have a0:=ZN h
  have a1:=ZN a0.2
  have a2:=ZN a1.2
  have a3:=ZN a2.2
  have a4:=ZN a3.2
  have a5:=ZN a4.2
  have a6:=ZN a5.2
  have a7:=ZN a6.2
  have a8:=ZN a7.2
  have a9:=ZN a8.2
  have hg:=a1.1
  unfold guardE at hg
  refine ⟨k1,k2',fun g hgm => ?_,?_,(sh_in a4.1).1,(sh_in a4.1).2,fun n1 n2 n3=>E.s n1 n2 n3,fun k4 hp => ?_,fun k4 => ?_,fun k5 => ?_,⟨ix_in s2,ix_in s1⟩,fun hpp => ?_,fun k3 => ?_,set_in a5.1,fun n1=>(E.g n1).2.2.2⟩
  · split at hg
    · rename_i g0
      exact gu_in (gus_in g0 g hgm)
    rename_i g0;exact absurd hg g0
  · split at hg
    · split at hg
      · cases hg
      omega
    rename_i g0;exact absurd hg g0
  · have hpo:=a9.1
    rw [if_pos k4] at hpo
    unfold posE at hpo
    split at hpo
    · cases hpo
    rename_i hq
    intro h3
    exact hq (.inr ⟨hp,h3⟩)
  · have hpo:=a9.1
    rw [if_pos k4] at hpo
    unfold posE at hpo
    split at hpo
    · cases hpo
    rename_i hq
    have hq1:inB 0 2 r.pos=true:=by
      cases e:inB 0 2 r.pos with
      | true=>rfl
      | false=>exact absurd (.inl e) hq
    unfold inB at hq1
    simpa using hq1
  · have hd:=a9.2
    rw [if_pos k5] at hd
    unfold dirE at hd
    constructor
    · intro h4
      rw [if_pos h4] at hd
      split at hd
      · assumption
      cases hd
    intro h4
    rw [if_neg h4] at hd
    split at hd
    · assumption
    cases hd
  · rw [Bool.or_eq_true] at s3
    rcases s3 with s3 | s3
    · rw [Bool.not_eq_true',Bool.or_eq_false_iff,decide_eq_false_iff_not,decide_eq_false_iff_not] at s3
      omega
    rw [Bool.and_eq_true] at s3
    exact ix_in s3.2
  have hre:=a0.1
  rw [if_pos k3] at hre
  unfold reE at hre
  split at hre
  · cases hre
  rename_i hl
  split at hre
  · cases hre
  rename_i h5
  refine ⟨by simpa using hl,fun x hx => ?_⟩
  simp only [Bool.not_eq_false,allK,List.take_length,List.all_eq_true] at h5
  exact ix_in (h5 x hx)
theorem val_in {p:Fm} (h:valE p=0) {r:Ru} (hr:r∈p.rules):RuV p r:=by
  obtain ⟨i,h⟩:=val_rule h hr
  exact rule_in h
theorem val_sizes {p:Fm} (h:valE p=0):p.rules.length≤8∧p.states.length≤6∧p.msgs.length≤3∧p.vals.length≤3:=by
  unfold valE at h
  split at h
  · cases h
  split at h
  · cases h
  split at h
  · cases h
  split at h
  · cases h
  rename_i g
  exact too_rules (by simpa using g)
structure CfV (p:Fm) (n f:Int) (c:Cf):Prop where
  ln:((c.st.length:Nat):Int)=Ns.cntE p n f
  st:∀ x∈c.st,0≤x∧x<p.states.length
  co:c.cor=n-f
  ls:c.se.length=p.msgs.length
  se:∀ x∈c.se,0≤x∧x≤1048576
  lf:c.fa.length=p.msgs.length
  fa:∀ x∈c.fa,0≤x∧x≤1048576
  fz:¬ p.fault=1→¬ p.fault=2→∀ x∈c.fa,x=0
  va:0≤c.val∧c.val<max ((p.vals.length:Nat):Int) 1
  sh:Rd.shB p.top (Ns.shT p.top (Ns.cntE p n f)) c.sh=true
theorem bel_in {xs:List Int} {m:Int} (h:Rd.belB xs m=true):∀ x∈xs,0≤x∧x<m:=by
  intro x hx
  unfold Rd.belB at h
  rw [Bool.not_eq_true',List.any_eq_false] at h
  have:=h x hx
  unfold Rd.outB at this
  simp only [Bool.or_eq_true,decide_eq_true_eq,not_or] at this
  omega
theorem cf_in {p:Fm} {n f:Int} {c:Cf} (h:Rd.rdX p n f c=true):CfV p n f c:=by
  unfold Rd.rdX Rd.rdB at h
  simp only [Bool.and_eq_true,Bool.not_eq_true',decide_eq_true_eq,decide_eq_false_iff_not] at h
  obtain ⟨⟨⟨⟨⟨⟨⟨⟨⟨h1,h2⟩,h3⟩,h4⟩,h5⟩,h6⟩,h7⟩,h8⟩,h9⟩,h10⟩:=h
  have hm:=Rd.mf_in p
  refine ⟨h2,bel_in h3,h4,by omega,fun x hx => ?_,by omega,fun x hx => ?_,fun n1 n2 x hx => ?_,by omega,h1⟩
  · have:=bel_in h6 x hx;omega
  · have:=bel_in h8 x hx;omega
  have:=bel_in h8 x hx
  unfold Rd.mfE at this
  rw [if_neg (by omega)] at this
  omega
theorem CfV.se_at {p:Fm} {n f:Int} {c:Cf} (h:CfV p n f c) (m:Nat):0≤c.se.getD m 0∧c.se.getD m 0≤1048576:=by
  by_cases hm:m<c.se.length
  · rw [Ct.getD_at hm];exact h.se _ (List.getElem_mem hm)
  rw [List.getD_eq_getElem?_getD,List.getElem?_eq_none (by omega)];exact ⟨by decide,by decide⟩
theorem CfV.fa_at {p:Fm} {n f:Int} {c:Cf} (h:CfV p n f c) (m:Nat):0≤c.fa.getD m 0∧c.fa.getD m 0≤1048576:=by
  by_cases hm:m<c.fa.length
  · rw [Ct.getD_at hm];exact h.fa _ (List.getElem_mem hm)
  rw [List.getD_eq_getElem?_getD,List.getElem?_eq_none (by omega)];exact ⟨by decide,by decide⟩
theorem hdV_in {p:Fm} {n f:Int} {c:Cf} (h:CfV p n f c) (hf:0≤f∧f≤1048576) (m:Nat):0≤hdV p f c m∧hdV p f c m≤3000000:=by
  have h1:=h.se_at m
  have h2:=h.fa_at m
  unfold hdV
  split
  · omega
  split<;>omega
theorem hdJ_in {p:Fm} {n f:Int} {c:Cf} (h:CfV p n f c) (hf:0≤f∧f≤1048576) (j m:Nat):0≤hdJ p f c j m∧hdJ p f c j m≤3000000:=by
  have h1:=h.se_at m
  have h2:=hdV_in h hf m
  unfold hdJ
  split
  · exact h2
  omega
theorem shI_at {p:Fm} {n f:Int} {c:Cf} (h:CfV p n f c) (h1:¬ p.top=1) (ht:1≤p.top∧p.top≤4) (h0:0≤Ns.cntE p n f):0≤Rd.shI p.top (Ns.shT p.top (Ns.cntE p n f)) c.sh∧Rd.shI p.top (Ns.shT p.top (Ns.cntE p n f)) c.sh<(((shS p.top (Ns.cntE p n f).toNat).length:Nat):Int)∧(shS p.top (Ns.cntE p n f).toNat)[(Rd.shI p.top (Ns.shT p.top (Ns.cntE p n f)) c.sh).toNat]? = some c.sh:=by
  have hs:=h.sh
  obtain ⟨m,hm⟩:=Int.eq_ofNat_of_zero_le h0
  rw [hm] at hs ⊢
  rw [Int.toNat_natCast]
  by_cases h4:p.top=4
  · rw [Rd.shB_tree h4,decide_eq_true_iff] at hs
    rw [Rd.shI_tree h4]
    unfold shS
    rw [if_pos h4]
    rw [Ns.shT_tree h4] at hs ⊢
    rw [Int.max_eq_left hs]
    unfold Rd.ixP at hs ⊢
    split
    · rename_i i hi
      obtain ⟨a,b,_⟩:=List.findIdx?_eq_some_iff_getElem.1 hi
      refine ⟨by omega,by omega,?_⟩
      rw [Int.toNat_natCast,List.getElem?_eq_getElem a]
      have:=of_decide_eq_true b
      rw [this]
    rename_i hi
    rw [hi] at hs
    exact absurd hs (by decide)
  rw [Rd.shB_no h4,decide_eq_true_iff] at hs
  rw [Rd.shI_no h4]
  unfold shS
  rw [if_neg h4,if_pos (by omega)]
  have:c.sh=[]:=List.eq_nil_of_length_eq_zero (by omega)
  rw [this]
  exact ⟨by decide,by decide,rfl⟩
theorem sh_tree {p:Fm} {n f:Int} {c:Cf} (h:CfV p n f c) (h4:p.top=4):isShp c.sh ((c.st.length:Nat):Int)=true:=by
  have hs:=h.sh
  have hl:=h.ln
  rw [Rd.shB_tree h4,decide_eq_true_iff,Ns.shT_tree h4,← hl] at hs
  unfold Rd.ixP at hs
  split at hs
  · rename_i i hi
    obtain ⟨a,b,_⟩:=List.findIdx?_eq_some_iff_getElem.1 hi
    have e:=of_decide_eq_true b
    have:=shX_is _ (List.getElem_mem a)
    rw [← e] at this
    unfold isShp
    rw [this.2,decide_eq_true (by omega)];rfl
  exact absurd hs (by decide)
theorem lk_ok {p:Fm} {n f:Int} {c:Cf} (h:CfV p n f c) (h1:¬ p.top=1) (ht:1≤p.top∧p.top≤4) {i:Nat} (hi:i<c.st.length):Jd.lkF p.top c.sh c.st.length i<((c.st.length:Nat):Int)∧Jd.lkS p.top c.sh c.st.length i<((c.st.length:Nat):Int)∧lkP p.top c.sh c.st.length i<((c.st.length:Nat):Int):=by
  by_cases h4:p.top=4
  · have hs:=sh_tree h h4
    unfold isShp at hs
    simp only [Bool.and_eq_true,decide_eq_true_eq] at hs
    have hl:c.sh.length=c.st.length:=by omega
    have:=Jd.lk_tree hs.2 i (by omega)
    rw [h4,← hl]
    refine ⟨this.1,this.2,?_⟩
    unfold lkP
    rw [if_pos rfl]
    rcases (tree_ok c.sh hs.2).1.par i (by omega) with e | ⟨q,hq,e,_⟩<;>omega
  have:=Jd.lk_row (sh:=c.sh) (n:=c.st.length) (show p.top=2∨p.top=3 by omega) i hi
  refine ⟨this.1,this.2,?_⟩
  unfold lkP
  rw [if_neg h4]
  unfold rowL
  dsimp only
  omega
end En
end Go.Proofs.Ytengacodacejiaa
