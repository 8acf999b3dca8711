import Derived.Test.YtmobmhgobpipkaaGreatGrpmeogbljb
import Derived.Test.YtmobmhgobpipkaaGreatGrpngaglejp
import Derived.Test.YtmobmhgobpipkaaGreatGrphfaodecj
set_option linter.all false
namespace Go.Proofs.YtmobmhgobpipkaaGreat
open Go.RowKit Go.Deep
set_option maxHeartbeats 12800000
variable {J:World→Prop}
namespace En
theorem place_cx {top c:Int} (h0:0≤c) (h8:c≤8) (xs:Nat→Value):CtrW Tryz.prog J 66 [.box 1000000 0] 1000000 (.box 105 [.v (xs 0),iv top,.v (xs 2),.v (xs 3),.v (xs 4),.v (xs 5),.v (xs 6),.v (xs 7),.v (xs 8),.v (xs 9),.v (xs 10),.v (xs 11),.v (xs 12),iv c,.v (xs 14),.v (xs 15),.v (xs 16),.v (xs 17),.v (xs 18),.v (xs 19),.v (xs 20),.v (xs 21),.v (xs 22),.v (xs 23),.v (xs 24),.v (xs 25),.v (xs 26),.v (xs 27),.v (xs 28),.v (xs 29),.v (xs 30),.v (.slice none 0 0),.v (.slice none 0 0)]) (.box 105 [.v (xs 0),iv top,.v (xs 2),.v (xs 3),.v (xs 4),.v (xs 5),.v (xs 6),.v (xs 7),.v (xs 8),.v (xs 9),.v (xs 10),.v (xs 11),.v (xs 12),iv c,.v (xs 14),.v (xs 15),.v (xs 16),.v (xs 17),.v (xs 18),.v (xs 19),.v (xs 20),.v (xs 21),.v (xs 22),.v (xs 23),.v (xs 24),.v (xs 25),.v (xs 26),.v (xs 27),.v (xs 28),.v (xs 29),.v (xs 30),.fr (slA 1 cLi (Ns.shT top c)),.fr ((lkS top c.toNat))]) (.v (.tuple #[])):=by
  obtain ⟨m,rfl⟩:=Int.eq_ofNat_of_zero_le h0
  exact place_x (by omega) xs
theorem place_mx {p:Fm} {n t f:Int} (b:Nat→AV) (h0:0≤Ns.cntE p n f) (h8:Ns.cntE p n f≤8):∀ xs':Nat→Value,CtrW Tryz.prog J 66 [.box 1000000 0] 1000000 (.box 105 (maskC [true,false,true,true,true,true,true,true,true,true,true,true,true,false,true,true,true,true,true,true,true,true,true,true,true,true,true,true,true,true,true,false,false] xs' [sv p.nm,iv p.top,ZD p.states,ZD p.msgs,ZD p.vals,iv p.fault,slA 4 cLn p.res,Ze p.init,Ze p.leader,slA 18 cRu p.rules,iv n,iv t,iv f,iv (Ns.cntE p n f),iv (n-f),b 0,b 1,b 2,b 3,b 4,b 5,b 6,b 7,b 8,b 9,b 10,b 11,b 12,b 13,b 14,b 15,.v (.slice none 0 0),.v (.slice none 0 0)])) (.box 105 (maskC [true,false,true,true,true,true,true,true,true,true,true,true,true,false,true,true,true,true,true,true,true,true,true,true,true,true,true,true,true,true,true,false,false] xs' [sv p.nm,iv p.top,ZD p.states,ZD p.msgs,ZD p.vals,iv p.fault,slA 4 cLn p.res,Ze p.init,Ze p.leader,slA 18 cRu p.rules,iv n,iv t,iv f,iv (Ns.cntE p n f),iv (n-f),b 0,b 1,b 2,b 3,b 4,b 5,b 6,b 7,b 8,b 9,b 10,b 11,b 12,b 13,b 14,b 15,.fr (slA 1 cLi (Ns.shT p.top (Ns.cntE p n f))),.fr (En.lkS p.top (Ns.cntE p n f).toNat)])) (.v (.tuple #[])):=fun xs=>place_cx h0 h8 xs
end En
set_option maxRecDepth 100000 in
theorem newSystem_P {p:Fm} (HP:FmOk p) {n t f:Int} (hs:Ns.sysE p n t f=0):CtrA Tryz.prog J 46 [.agg (cFm p),.agg (cSz n t f)] (.tup [.el (En.sysP p n t f) 0,iv 0]):=by
 obtain ⟨hv,ha,h8⟩:=Ns.sys_ok hs
 obtain ⟨hr8,hg2⟩:=Ns.val_lims hv
 have hai:=Ns.adm_in ha
 have hc0:=Ns.cnt_lo (p:=p) hai
 have hc8:=Ns.cnt_hi (p:=p) hai h8
 refine ctrA_of_tri Tryz.func46 rfl (by intro X hX;simp only [List.mem_cons,List.not_mem_nil,or_false] at hX;rcases hX with rfl | rfl;exact Zq (Z9 p);exact Zq (Yi n t f)) (n:=80) rfl (by simp) (fun w0 => ?_)
 refine kW 80 [] [(0,.agg (cFm p)),(1,.agg (cSz n t f))] (Zb (Za (ZM rfl (ZT (X := .agg (cFm p)) (k:=1) (.tmp 0) rfl rfl) ⟨I0,T0⟩ T0 rfl (ZM rfl (ZT (X := .agg (cSz n t f)) (k:=2) (.tmp 1) rfl rfl) ⟨I0,T0⟩ T0 rfl (pM (Yw (.const (.pointer none)) (.v (.pointer none)) rfl) (pM (aC (.int .i64 0)) (Zd (Zc (Zb (Zb (Za (oB (lS (cFm p) 10 2 U27) I0 rfl (oC (sc #[.tmp 12] [] (qValidate_c HP) [.agg (cFm p)] rfl rfl rfl) I0 I0 (pM (aT 13 (iv (valE p))) (Zd (Zc (Zb (Za (pM (mT 6 (iv (valE p))) (oC (Zv rfl (dT' hv)) I0 I0 (Zd (Zc (Zn rfl ?_)))))))))))))))))))))))
 refine Zi (Zc (Zb (Zb (Za (oB (lS (cFm p) 10 2 U27) I0 rfl (oB (lS (cSz n t f) 3 3 U29) I0 rfl (oD (sc #[.tmp 17,.tmp 18] [] (ZA (Ns.adm_c HP hv) ha) [.agg (cFm p),.agg (cSz n t f)] rfl rfl rfl) I0 I0 I0 (oA (Zr rfl rfl) I0 (Zd (Zc (Zn rfl (Zi (Zc (Zb (Zb (Za (oA (fb 0 3 U29 1) I0 (oB (lb (iv n) 21 U3) I0 rfl (oC (ZS rfl (dF h8)) I0 I0 (Zd (Zc (Zn rfl (Zi ?_)))))))))))))))))))))))
 refine Zc (Zb (Za (oB (lS (cFm p) 10 2 U27) I0 rfl (oB (lS (cSz n t f) 3 3 U29) I0 rfl (oA (fb 0 3 U29 1) I0 (oB (lb (iv n) 26 U3) I0 rfl (oA (fb 0 3 U29 1) I0 (oB (lb (iv n) 28 U3) I0 rfl (oA (fb 2 3 U29 1) I0 (oB (lb (iv f) 30 U3) I0 rfl (oC (Z5 (c:=n-f) rfl (w64 (by omega) (by omega) (by omega))) I0 I0 (ZM rfl (sp_bldG [0,1,2,3] [.tmp 24,.tmp 25,.tmp 27,.tmp 32] [.agg (cFm p),.agg (cSz n t f),iv n,iv (n-f)] [.inr 0,.inr 1,.inr 2,.inr 3,.inr 4,.inr 5,.inr 6,.inr 7,.inr 8,.inr 9,.inr 10,.inr 11,.inr 12,.inr 13,.inr 14,.inl (.int .i64 0),.inl (.int .i64 0),.inl (.int .i64 0),.inl (.int .i64 0),.inl (.int .i64 0),.inl (.int .i64 0),.inl (.int .i64 0),.inl (.int .i64 0),.inl (.int .i64 0),.inl (.int .i64 0),.inl (.int .i64 0),.inl (.int .i64 0),.inl (.int .i64 0),.inl (.int .i64 0),.inl (.int .i64 0),.inl (.int .i64 0),.inl (.slice none 0 0),.inl (.slice none 0 0)] rfl rfl rfl rfl rfl (fun _=>by kernel_rfl) rfl (ds:=[sv p.nm,iv p.top,ZD p.states,ZD p.msgs,ZD p.vals,iv p.fault,slA 4 cLn p.res,Ze p.init,Ze p.leader,slA 18 cRu p.rules,iv n,iv t,iv f,iv n,iv (n-f),iv 0,iv 0,iv 0,iv 0,iv 0,iv 0,iv 0,iv 0,iv 0,iv 0,iv 0,iv 0,iv 0,iv 0,iv 0,iv 0,.v (.slice none 0 0),.v (.slice none 0 0)]) rfl) ⟨I0,I0,I0,I0,T0⟩ T0 T0 (ZM rfl (ZT (X := .agg [sv p.nm,iv p.top,ZD p.states,ZD p.msgs,ZD p.vals,iv p.fault,slA 4 cLn p.res,Ze p.init,Ze p.leader,slA 18 cRu p.rules,iv n,iv t,iv f,iv n,iv (n-f),iv 0,iv 0,iv 0,iv 0,iv 0,iv 0,iv 0,iv 0,iv 0,iv 0,iv 0,iv 0,iv 0,iv 0,iv 0,iv 0,.v (.slice none 0 0),.v (.slice none 0 0)]) (k:=3) (.tmp 33) rfl rfl) ⟨I0,T0⟩ T0 rfl (pM (aT 34 (.box 3 0)) (Zd (Zc (Zb (Zb (Za (oA (fb 5 2 U27 1) I0 (oB (lb (iv p.fault) 35 U3) I0 rfl (oC (Zp rfl rfl) I0 I0 (kN 80 [(1,.box 27 (cFm p)),(2,.box 29 (cSz n t f)),(3,.box 105 [sv p.nm,iv p.top,ZD p.states,ZD p.msgs,ZD p.vals,iv p.fault,slA 4 cLn p.res,Ze p.init,Ze p.leader,slA 18 cRu p.rules,iv n,iv t,iv f,iv n,iv (n-f),iv 0,iv 0,iv 0,iv 0,iv 0,iv 0,iv 0,iv 0,iv 0,iv 0,iv 0,iv 0,iv 0,iv 0,iv 0,iv 0,.v (.slice none 0 0),.v (.slice none 0 0)])] [(2,.box 1 0),(3,.box 2 0),(4,.v (.pointer none)),(5,iv 0),(7,.box 3 0),(37,bv (decide (p.fault=3)))] ?_)))))))))))))))))))))))
 refine Zc ?_
 refine YN (True) (ofL [(1,.box 27 (cFm p)),(2,.box 29 (cSz n t f)),(3,.box 105 [sv p.nm,iv p.top,ZD p.states,ZD p.msgs,ZD p.vals,iv p.fault,slA 4 cLn p.res,Ze p.init,Ze p.leader,slA 18 cRu p.rules,iv n,iv t,iv f,iv (Ns.cntE p n f),iv (n-f),iv 0,iv 0,iv 0,iv 0,iv 0,iv 0,iv 0,iv 0,iv 0,iv 0,iv 0,iv 0,iv 0,iv 0,iv 0,iv 0,.v (.slice none 0 0),.v (.slice none 0 0)])]) (ofT 80 [(2,.box 1 0),(3,.box 2 0),(4,.v (.pointer none)),(5,iv 0),(7,.box 3 0)]) ?_ (fun _ => ?_)
 by_cases hs1:p.fault=3
 rw [dT hs1]
 refine kW 80 [(1,.box 27 (cFm p)),(2,.box 29 (cSz n t f)),(3,.box 105 [sv p.nm,iv p.top,ZD p.states,ZD p.msgs,ZD p.vals,iv p.fault,slA 4 cLn p.res,Ze p.init,Ze p.leader,slA 18 cRu p.rules,iv n,iv t,iv f,iv n,iv (n-f),iv 0,iv 0,iv 0,iv 0,iv 0,iv 0,iv 0,iv 0,iv 0,iv 0,iv 0,iv 0,iv 0,iv 0,iv 0,iv 0,.v (.slice none 0 0),.v (.slice none 0 0)])] [(2,.box 1 0),(3,.box 2 0),(4,.v (.pointer none)),(5,iv 0),(7,.box 3 0),(37,bT)] (Zm rfl (Za (pM (mT 7 (.box 3 0)) (pM (mT 7 (.box 3 0)) (oA (Yt (off:=0) (.tmp 39) rfl) I0 (oA (fb 14 40 U105 1) I0 (oB (lb (iv (n-f)) 41 U3) I0 rfl (oA (Yt (off:=0) (.tmp 38) rfl) I0 (oA (fb 13 43 U105 1) I0 (ZM rfl (sB 1 44 (.tmp 42) (iv (n-f))) ⟨I0,I0,T0⟩ ⟨rfl,T0⟩ rfl (kN 80 [(1,.box 27 (cFm p)),(2,.box 29 (cSz n t f)),(3,.box 105 [sv p.nm,iv p.top,ZD p.states,ZD p.msgs,ZD p.vals,iv p.fault,slA 4 cLn p.res,Ze p.init,Ze p.leader,slA 18 cRu p.rules,iv n,iv t,iv f,iv (n-f),iv (n-f),iv 0,iv 0,iv 0,iv 0,iv 0,iv 0,iv 0,iv 0,iv 0,iv 0,iv 0,iv 0,iv 0,iv 0,iv 0,iv 0,.v (.slice none 0 0),.v (.slice none 0 0)])] [(2,.box 1 0),(3,.box 2 0),(4,.v (.pointer none)),(5,iv 0),(7,.box 3 0)] ?_)))))))))))
 rw [show Ns.cntE p n f=n-f from if_pos hs1]
 exact Zx T0 (Zk _ _ rfl (by kernel_rfl) (by kernel_rfl))
 rw [dF hs1]
 refine kW 80 [(1,.box 27 (cFm p)),(2,.box 29 (cSz n t f)),(3,.box 105 [sv p.nm,iv p.top,ZD p.states,ZD p.msgs,ZD p.vals,iv p.fault,slA 4 cLn p.res,Ze p.init,Ze p.leader,slA 18 cRu p.rules,iv n,iv t,iv f,iv n,iv (n-f),iv 0,iv 0,iv 0,iv 0,iv 0,iv 0,iv 0,iv 0,iv 0,iv 0,iv 0,iv 0,iv 0,iv 0,iv 0,iv 0,.v (.slice none 0 0),.v (.slice none 0 0)])] [(2,.box 1 0),(3,.box 2 0),(4,.v (.pointer none)),(5,iv 0),(7,.box 3 0),(37,bF)] (Zn rfl (Zi ?_))
 rw [show Ns.cntE p n f=n from if_neg hs1]
 exact Zx T0 (Zk _ _ rfl (by kernel_rfl) (by kernel_rfl))
 refine Zc (Zb (Zb (Za (oA (fb 9 2 U27 1) I0 (oB (lb (slA 18 cRu p.rules) 45 U25) I0 rfl (oA (nS 46 U25) I0 (pM (Kp (.const (.int .i64 0)) (iv 0) rfl) (kN 80 [(2,.box 29 (cSz n t f)),(3,.box 105 [sv p.nm,iv p.top,ZD p.states,ZD p.msgs,ZD p.vals,iv p.fault,slA 4 cLn p.res,Ze p.init,Ze p.leader,slA 18 cRu p.rules,iv n,iv t,iv f,iv (Ns.cntE p n f),iv (n-f),iv 0,iv 0,iv 0,iv 0,iv 0,iv 0,iv 0,iv 0,iv 0,iv 0,iv 0,iv 0,iv 0,iv 0,iv 0,iv 0,.v (.slice none 0 0),.v (.slice none 0 0)])] [(3,.box 2 0),(4,.v (.pointer none)),(5,iv 0),(7,.box 3 0),(46,slA 18 cRu p.rules),(47,iv p.rules.length),(48,iv 0)] (Zc (Zy ?_))))))))))
 refine Yd (σ:={j:Nat // j≤p.rules.length}) (fun s=>(ofL [(2,.box 29 (cSz n t f)),(3,.box 105 (En.sysB p n t f s.1 0 (.v (.slice none 0 0)) (.v (.slice none 0 0))))],ofT 80 [(3,.box 2 0),(4,.v (.pointer none)),(5,iv 0),(7,.box 3 0),(46,slA 18 cRu p.rules),(47,iv p.rules.length),(48,iv s.1)])) (fun s=>p.rules.length-s.1) ⟨0,Nat.zero_le _⟩ (Zk _ _ rfl (by kernel_rfl) (by kernel_rfl)) (fun s => ?_)
 obtain ⟨j,hj0⟩:=s
 show ETri J w0 (ofL [(2,.box 29 (cSz n t f)),(3,.box 105 (En.sysB p n t f j 0 (.v (.slice none 0 0)) (.v (.slice none 0 0))))]) (ofT 80 [(3,.box 2 0),(4,.v (.pointer none)),(5,iv 0),(7,.box 3 0),(46,slA 18 cRu p.rules),(47,iv p.rules.length),(48,iv j)]) _
 refine Zb ?_
 by_cases hs2:((j:Nat):Int)<((p.rules.length:Nat):Int)
 have hj1:j<p.rules.length:=by omega
 have hgj:=hg2 _ (List.getElem_mem hj1)
 refine Za (oC (ZW rfl (dT hs2)) I0 I0 (Zd (Zc (Zb (Zm rfl (Zi (Zc (Zb (Zy (Zb (Za (pM (mT 48 (iv j)) (oC (xS (j*18) 46 48 U25) I0 I0 (oA (ZC (z:=18) (.tmp 51) rfl U57 rfl (by kernel_rfl) (YS lenRu p.rules j (by omega)) rfl) I0 (ZM rfl (Yl (z := .agg #[.string (⟨#[]⟩),.int .i64 0,.int .i64 0,.int .i64 0,.int .i64 0,.int .i64 0,.slice none 0 0,.slice none 0 0,.slice none 0 0,.slice none 0 0,.int .i64 0,.int .i64 0,.slice none 0 0,.int .i64 0,.slice none 0 0,.slice none 0 0,.slice none 0 0,.int .i64 0]) (k:=4) rfl (by kernel_rfl)) T0 T0 rfl (pM (aT 50 (iv j)) (ZM rfl (sB 18 9 (.tmp 52) (.agg (cRu p.rules[j]))) ⟨I0,I0,T0⟩ ⟨rfl,T0⟩ rfl (Zd (Zc (Zb (Za (oA (fb 7 9 U57 1) I0 (oB (lb (slA 6 cTh p.rules[j].guards) 53 U55) I0 rfl ?_)))))))))))))))))))))))
 refine oA (nS 54 U55) I0 (pM (Kp (.const (.int .i64 0)) (iv 0) rfl) (kN 80 [(2,.box 29 (cSz n t f)),(3,.box 105 (En.sysB p n t f j 0 (.v (.slice none 0 0)) (.v (.slice none 0 0)))),(4,.box 57 (cRu p.rules[j]))] [(3,.box 2 0),(4,.v (.pointer none)),(5,iv 0),(7,.box 3 0),(8,iv j),(9,.box 4 0),(46,slA 18 cRu p.rules),(47,iv p.rules.length),(48,iv j),(49,bT),(54,slA 6 cTh p.rules[j].guards),(55,iv (p.rules[j].guards.length:Nat)),(56,iv 0)] (Zc (Zy ?_))))
 refine Yd (σ:={k:Nat // k≤p.rules[j].guards.length}) (fun s=>(ofL [(2,.box 29 (cSz n t f)),(3,.box 105 (En.sysB p n t f j s.1 (.v (.slice none 0 0)) (.v (.slice none 0 0)))),(4,.box 57 (cRu p.rules[j]))],ofT 80 [(3,.box 2 0),(4,.v (.pointer none)),(5,iv 0),(7,.box 3 0),(8,iv j),(9,.box 4 0),(46,slA 18 cRu p.rules),(47,iv p.rules.length),(48,iv j),(49,bT),(54,slA 6 cTh p.rules[j].guards),(55,iv (p.rules[j].guards.length:Nat)),(56,iv s.1)])) (fun s=>p.rules[j].guards.length-s.1) ⟨0,Nat.zero_le _⟩ (Zk _ _ rfl (by kernel_rfl) (by kernel_rfl)) (fun s => ?_)
 obtain ⟨k,hk0⟩:=s
 show ETri J w0 (ofL [(2,.box 29 (cSz n t f)),(3,.box 105 (En.sysB p n t f j k (.v (.slice none 0 0)) (.v (.slice none 0 0)))),(4,.box 57 (cRu p.rules[j]))]) (ofT 80 [(3,.box 2 0),(4,.v (.pointer none)),(5,iv 0),(7,.box 3 0),(8,iv j),(9,.box 4 0),(46,slA 18 cRu p.rules),(47,iv p.rules.length),(48,iv j),(49,bT),(54,slA 6 cTh p.rules[j].guards),(55,iv (p.rules[j].guards.length:Nat)),(56,iv k)]) _
 refine Zb ?_
 by_cases hs3:((k:Nat):Int)<((p.rules[j].guards.length:Nat):Int)
 have hk1:k<p.rules[j].guards.length:=by omega
 refine Za (oC (ZW rfl (dT hs3)) I0 I0 (Zd (Zc (Zb (Zm rfl (Zi (Zc (Zb (Zy (Zb (Za (pM (mT 56 (iv k)) (oC (xS (k*6) 54 56 U55) I0 I0 (oA (ZC (z:=6) (.tmp 59) rfl U123 rfl (by kernel_rfl) (YS lenTh p.rules[j].guards k (by omega)) rfl) I0 (ZM rfl (Yl (z := .agg #[.int .i64 0,.int .i64 0,.int .i64 0,.int .i64 0,.int .i64 0,.int .i64 0]) (k:=5) rfl (by kernel_rfl)) T0 T0 rfl (pM (aT 58 (iv k)) (ZM rfl (sB 6 11 (.tmp 60) (.agg (cTh p.rules[j].guards[k]))) ⟨I0,I0,T0⟩ ⟨rfl,T0⟩ rfl (Zd (Zc ?_)))))))))))))))))))
 refine Zs (dM (mT 7 (.box 3 0)) (dM (mT 8 (iv j)) (dM (mT 10 (iv k)) (dA (fb 2 11 U123 4) I0 (dB (lS ([iv p.rules[j].guards[k].bd.c,iv p.rules[j].guards[k].bd.n,iv p.rules[j].guards[k].bd.t,iv p.rules[j].guards[k].bd.f]) 4 65 U121) I0 rfl (dB (lS (cSz n t f) 3 3 U29) I0 rfl (dD (sc #[.tmp 66,.tmp 67] [] (Ns.Evaluate_c (l:=p.rules[j].guards[k].bd)) [.agg [iv p.rules[j].guards[k].bd.c,iv p.rules[j].guards[k].bd.n,iv p.rules[j].guards[k].bd.t,iv p.rules[j].guards[k].bd.f],.agg (cSz n t f)] rfl rfl rfl) I0 I0 I0 (dM (mT 68 (.tup [iv (evN p.rules[j].guards[k].bd.c p.rules[j].guards[k].bd.n p.rules[j].guards[k].bd.t p.rules[j].guards[k].bd.f n t f),iv (evE p.rules[j].guards[k].bd.c p.rules[j].guards[k].bd.n p.rules[j].guards[k].bd.t p.rules[j].guards[k].bd.f n t f)])) (dA (ZQ (X:=iv (evN p.rules[j].guards[k].bd.c p.rules[j].guards[k].bd.n p.rules[j].guards[k].bd.t p.rules[j].guards[k].bd.f n t f)) (.tmp 61) rfl rfl) I0 (dA (ZQ (X:=iv (evE p.rules[j].guards[k].bd.c p.rules[j].guards[k].bd.n p.rules[j].guards[k].bd.t p.rules[j].guards[k].bd.f n t f)) (.tmp 61) rfl rfl) I0 (dA (Yt (off:=0) (.tmp 62) rfl) I0 (dA (fb 15 71 U105 16) I0 (dC (YZ (off':=15+j*2) (.tmp 72) (.tmp 63) rfl U102 (by kernel_rfl) (by omega) (by omega) rfl) I0 I0 (dC (YZ (off':=15+j*2+k*1) (.tmp 73) (.tmp 64) rfl U101 (by kernel_rfl) (by omega) (by omega) rfl) I0 I0 (dR (ZK (T0:=105) (X:=iv (evN p.rules[j].guards[k].bd.c p.rules[j].guards[k].bd.n p.rules[j].guards[k].bd.t p.rules[j].guards[k].bd.f n t f)) (off:=15+j*2+k*1) (cs:=En.sysB p n t f j k (.v (.slice none 0 0)) (.v (.slice none 0 0))) (ds:=En.sysB p n t f j (k+1) (.v (.slice none 0 0)) (.v (.slice none 0 0))) (z:=1) (.tmp 74) (.tmp 69) rfl (by kernel_rfl) (by kernel_rfl) (by kernel_rfl) (by rw [En.sysB_len];omega) (En.sysB_step hj1 hr8 hk1 (by omega) rfl)) ⟨I0,I0,T0⟩ ⟨rfl,T0⟩ rfl (dE ?_)))))))))))))))) (by kernel_rfl)
 show ETri J w0 _ _ _
 refine kW 80 [(2,.box 29 (cSz n t f)),(3,.box 105 (En.sysB p n t f j (k+1) (.v (.slice none 0 0)) (.v (.slice none 0 0)))),(4,.box 57 (cRu p.rules[j])),(5,.box 123 (cTh p.rules[j].guards[k]))] [(3,.box 2 0),(4,.v (.pointer none)),(5,iv 0),(7,.box 3 0),(8,iv j),(9,.box 4 0),(10,iv k),(11,.box 5 0),(46,slA 18 cRu p.rules),(47,iv p.rules.length),(48,iv j),(49,bT),(54,slA 6 cTh p.rules[j].guards),(55,iv (p.rules[j].guards.length:Nat)),(56,iv k),(57,bT)] (ZL (Zc (Za (oC (ZZ (c:=((k+1:Nat):Int)) rfl (w64 (by omega) (by omega) (by omega))) I0 I0 (pM (mT 75 (iv (k+1:Nat))) (kN 80 [(2,.box 29 (cSz n t f)),(3,.box 105 (En.sysB p n t f j (k+1) (.v (.slice none 0 0)) (.v (.slice none 0 0)))),(4,.box 57 (cRu p.rules[j])),(5,.box 123 (cTh p.rules[j].guards[k]))] [(3,.box 2 0),(4,.v (.pointer none)),(5,iv 0),(7,.box 3 0),(8,iv j),(9,.box 4 0),(10,iv k),(11,.box 5 0),(46,slA 18 cRu p.rules),(47,iv p.rules.length),(48,iv j),(49,bT),(54,slA 6 cTh p.rules[j].guards),(55,iv (p.rules[j].guards.length:Nat)),(56,iv (k+1:Nat)),(57,bT)] (Zc ?_)))))))
 refine ZI ⟨k+1,by omega⟩ (show p.rules[j].guards.length-(k+1)<p.rules[j].guards.length-k by omega) ?_
 exact Zk _ _ rfl (by kernel_rfl) (by kernel_rfl)
 refine Za (oC (ZW rfl (dF hs3)) I0 I0 (Zd (Zc (Zb (Zn rfl (Yb (Zt (Zt (Kb (ZL (Zc (Za (oC (ZZ (c:=((j+1:Nat):Int)) rfl (w64 (by omega) (by omega) (by omega))) I0 I0 (pM (mT 76 (iv (j+1:Nat))) (kN 80 [(2,.box 29 (cSz n t f)),(3,.box 105 (En.sysB p n t f j k (.v (.slice none 0 0)) (.v (.slice none 0 0)))),(4,.box 57 (cRu p.rules[j]))] [(3,.box 2 0),(4,.v (.pointer none)),(5,iv 0),(7,.box 3 0),(8,iv j),(9,.box 4 0),(46,slA 18 cRu p.rules),(47,iv p.rules.length),(48,iv (j+1:Nat)),(49,bT),(54,slA 6 cTh p.rules[j].guards),(55,iv (p.rules[j].guards.length:Nat)),(56,iv k),(57,bF)] (Zc ?_))))))))))))))))
 refine ZI ⟨j+1,by omega⟩ (show p.rules.length-(j+1)<p.rules.length-j by omega) ?_
 show Wk _ _ (ofL [(2,.box 29 (cSz n t f)),(3,.box 105 (En.sysB p n t f (j+1) 0 (.v (.slice none 0 0)) (.v (.slice none 0 0))))]) (ofT 80 [(3,.box 2 0),(4,.v (.pointer none)),(5,iv 0),(7,.box 3 0),(46,slA 18 cRu p.rules),(47,iv p.rules.length),(48,iv ((j+1):Nat))])
 rw [En.sysB_row hj1 (by omega:¬ k<p.rules[j].guards.length)]
 exact Zk _ _ rfl (by kernel_rfl) (by kernel_rfl)
 refine Za (oC (ZW rfl (dF hs2)) I0 I0 (kN 80 [(2,.box 29 (cSz n t f)),(3,.box 105 (En.sysB p n t f j 0 (.v (.slice none 0 0)) (.v (.slice none 0 0))))] [(3,.box 2 0),(4,.v (.pointer none)),(5,iv 0),(7,.box 3 0),(46,slA 18 cRu p.rules),(47,iv p.rules.length),(48,iv j),(49,bF)] (Zc (Zb (Zn rfl (Yb (Zt (Zt (Kb (Zc (Zb (kW 80 [(3,.box 105 (En.sysB p n t f j 0 (.v (.slice none 0 0)) (.v (.slice none 0 0))))] [(4,.v (.pointer none)),(5,iv 0),(7,.box 3 0)] ?_))))))))))))
 rw [show j=p.rules.length by omega]
 refine Za (pM (mT 7 (.box 3 0)) (ZM rfl (sp_callWB (T:=105) (cs:=En.sysB p n t f p.rules.length 0 (.v (.slice none 0 0)) (.v (.slice none 0 0))) (ds:=En.sysB p n t f p.rules.length 0 (.fr (slA 1 cLi (Ns.shT p.top (Ns.cntE p n f)))) (.fr ((En.lkS p.top (Ns.cntE p n f).toNat)))) (c := .func 66) (xs := #[.tmp 77]) (k:=3) 1000000 [true,false,true,true,true,true,true,true,true,true,true,true,true,false,true,true,true,true,true,true,true,true,true,true,true,true,true,true,true,true,true,false,false] [] (fun xs_=>(En.place_mx (p:=p) (n:=n) (t:=t) (f:=f) (fun q=>iv (En.bdP p n t f p.rules.length 0 q)) hc0 hc8 xs_)) rfl (by kernel_rfl) rfl (Xs:=[.box 3 0]) rfl rfl (Ns.pw1) rfl rfl rfl (Ns.plain_mask (fun _=>by kernel_rfl)) rfl rfl rfl) ⟨I0,I0,T0⟩ ⟨rfl,T0⟩ rfl (Zd (Zc (Zb (Za (pM (mT 7 (.box 3 0)) (pM (aT 79 (.box 3 0)) (pM (aC (.int .i64 0)) (Zd (Zc (Zl ?_))))))))))))
 refine tri_endA2 [(3,.box 105 (En.sysB p n t f p.rules.length 0 (.fr (slA 1 cLi (Ns.shT p.top (Ns.cntE p n f)))) (.fr ((En.lkS p.top (Ns.cntE p n f).toNat)))))] Tryz.results46 (.tmp rfl) (.tmp rfl) (by kernel_rfl) rfl rfl rfl ?_ ?_ ?_
 · exact (show Plain (.el (En.sysP p n t f) 0) from .el (Ya (En.plain_sysP p n t f)))
 · exact .v _
 kernel_rfl
set_option maxRecDepth 100000
set_option maxHeartbeats 6400000
theorem outB_c {x m:Int}:Ctr Tryz.prog J 83 [iv x,.el ([iv m]) 0] (bv (Rd.outB m x)):=by
 refine Zw Tryz.func83 rfl (by intro X hX;simp only [List.mem_cons,List.not_mem_nil,or_false] at hX;rcases hX with rfl | rfl;exact .v _;exact .el (Ya (by intro X hX;rw [List.mem_singleton.1 hX];exact .v _))) (n:=11) rfl (by simp) (fun w0 => ?_)
 refine kW 11 [] [(0,iv x),(1,.el ([iv m]) 0)] (Zb (Za (pM (aC (.bool false)) (Zd (Zc (Zb ?_))))))
 by_cases hs1:x<0
 refine Za (pM (mT 0 (iv x)) (oC (ZW rfl (dT hs1)) I0 I0 (pM (mT 5 bT) (qK (qK (qK (pP (pk true bT (.v (.tuple #[])) rfl) (pM (aT 10 bT) (Zd (Zc (Zl ?_)))))))))))
 refine Zh Tryz.results83 (.tmp rfl) ?_
 exact congrArg (fun x:Bool=>AV.v (.bool x)) ((Rd.outB_lo hs1).symm)
 refine Za (pM (mT 0 (iv x)) (oC (ZW rfl (dF hs1)) I0 I0 (pM (mT 5 bF) (qM (mT 0 (iv x)) (gA (lE (iv m) 1 U3) I0 (gC (YI rfl rfl) I0 I0 (pP (pk false bT (bv (decide (m≤x))) rfl) (pM (aT 10 (bv (decide (m≤x)))) (Zd (Zc (Zl ?_)))))))))))
 refine Zh Tryz.results83 (.tmp rfl) ?_
 exact congrArg (fun x:Bool=>AV.v (.bool x)) ((Rd.outB_hi hs1).symm)
theorem ixOut_c (xs:List Int) {m:Int} (lx:xs.length≤9223372036854775807):Ctr Tryz.prog J 112 [Ze xs,.clo 83 [.el ([iv m]) 0]] (iv (Rd.ixP xs (Rd.outB m))):=by
 refine Zw Tryz.func112 rfl (by intro X hX;simp only [List.mem_cons,List.not_mem_nil,or_false] at hX;rcases hX with rfl | rfl;exact Z6 _;exact .clo (fun j hj=>match j,hj with | 0,_ => .el (Ya (by intro X hX;rw [List.mem_singleton.1 hX];exact .v _)))) (n:=19) rfl (by simp) (fun w0 => ?_)
 refine kW 19 [] [(0,Ze xs),(1,.clo 83 [.el ([iv m]) 0])] (Zb (Za (pM (aC (.int .i64 0)) (Zd (Zc (Zb (Zb (Za (pM (mT 0 (Ze xs)) (oA (nS 6 U24) I0 (pM (Kp (.const (.int .i64 0)) (iv 0) rfl) (kN 19 [] [(0,Ze xs),(1,.clo 83 [.el ([iv m]) 0]),(4,iv 0),(7,iv xs.length),(8,iv 0)] (Zc (Zy ?_))))))))))))))
 refine Yd (σ:={k:Nat // k≤xs.length∧Rd.noP xs (Rd.outB m) k}) (fun s=>(ofL [],ofT 19 [(0,Ze xs),(1,.clo 83 [.el ([iv m]) 0]),(7,iv xs.length),(8,iv s.1)])) (fun s=>xs.length-s.1) ⟨0,Nat.zero_le _,Rd.noP_zero _ _⟩ (Zk [] _ rfl (by kernel_rfl) (by kernel_rfl)) (fun s => ?_)
 obtain ⟨k,hk0,hs0⟩:=s
 show ETri J w0 (ofL []) (ofT 19 [(0,Ze xs),(1,.clo 83 [.el ([iv m]) 0]),(7,iv xs.length),(8,iv k)]) _
 refine Zb ?_
 by_cases hs1:((k:Nat):Int)<((xs.length:Nat):Int)
 refine Za (oC (ZW rfl (dT hs1)) I0 I0 (Zd (Zc (Zb (Zm rfl (Zi (Zc (Zb (Zy (Zb (Za (pM (mT 8 (iv k)) (pM (aT 10 (iv k)) (Zd (Zc (Zb ?_))))))))))))))))
 by_cases hs2:(Rd.outB m xs[k])=true
 refine Za (pM (mT 1 (.clo 83 [.el ([iv m]) 0])) (pM (mT 0 (Ze xs)) (pM (mT 5 (iv k)) (oC (xS (k*1) 12 13 U24) I0 I0 (oA (lE (iv xs[k]) 14 U3 (ZU xs (by omega))) I0 (oC (sp_callClo (c := .tmp 11) (xs := #[.tmp 15]) (Cs:=[.el ([iv m]) 0]) [] (ZA outB_c hs2) rfl (by kernel_rfl) rfl (Xs:=[iv xs[k]]) rfl rfl rfl rfl rfl) I0 I0 (Zd (Zc (Zm rfl (Zb (Za (pM (mT 5 (iv k)) (pM (aT 17 (iv k)) (Zd (Zc (Zl (Zu (Zf (Zf (Zu (Zf ?_)))))))))))))))))))))
 refine Zh Tryz.results112 (.tmp rfl) ?_
 exact congrArg (fun x:Int=>AV.v (.int .i64 x)) ((Rd.ixP_at (by omega) hs0 hs2).symm)
 have hs2f:(Rd.outB m xs[k])=false:=by simpa using hs2
 refine Za (pM (mT 1 (.clo 83 [.el ([iv m]) 0])) (pM (mT 0 (Ze xs)) (pM (mT 5 (iv k)) (oC (xS (k*1) 12 13 U24) I0 I0 (oA (lE (iv xs[k]) 14 U3 (ZU xs (by omega))) I0 (oC (sp_callClo (c := .tmp 11) (xs := #[.tmp 15]) (Cs:=[.el ([iv m]) 0]) [] (ZA outB_c hs2f) rfl (by kernel_rfl) rfl (Xs:=[iv xs[k]]) rfl rfl rfl rfl rfl) I0 I0 (Zd (Zc (Zn rfl (Zi (ZL (Zc (Za (oC (ZZ (c:=((k+1:Nat):Int)) rfl (w64 (by omega) (by omega) (by omega))) I0 I0 (pM (mT 18 (iv (k+1:Nat))) (kN 19 [] [(0,Ze xs),(1,.clo 83 [.el ([iv m]) 0]),(5,iv k),(7,iv xs.length),(8,iv (k+1:Nat)),(9,bT),(16,bF)] (Zc ?_)))))))))))))))))
 refine ZI ⟨k+1,by omega,Rd.noP_succ (by omega) hs0 hs2f⟩ (show xs.length-(k+1)<xs.length-k by omega) ?_
 exact Zk [] _ rfl (by kernel_rfl) (by kernel_rfl)
 refine Za (oC (ZW rfl (dF hs1)) I0 I0 (Zd (Zc (Zb (Zn rfl (Yb (Zt (Zt (Kb (Zc (Zb (Za (pM (aC (.int .i64 (-1))) (Zd (Zc (Zl ?_))))))))))))))))
 refine Zh Tryz.results112 (.tmp rfl) ?_
 exact congrArg (fun x:Int=>AV.v (.int .i64 x)) ((Rd.ixP_none (k:=k) (by omega) hs0).symm)
theorem hasOut_c (xs:List Int) {m:Int} (lx:xs.length≤9223372036854775807):Ctr Tryz.prog J 82 [Ze xs,.clo 83 [.el ([iv m]) 0]] (bv (xs.any (Rd.outB m))):=by
 refine Zw Tryz.func82 rfl (by intro X hX;simp only [List.mem_cons,List.not_mem_nil,or_false] at hX;rcases hX with rfl | rfl;exact Z6 _;exact .clo (fun j hj=>match j,hj with | 0,_ => .el (Ya (by intro X hX;rw [List.mem_singleton.1 hX];exact .v _)))) (n:=9) rfl (by simp) (fun w0 => ?_)
 refine kW 9 [] [(0,Ze xs),(1,.clo 83 [.el ([iv m]) 0])] (Zb (Za (pM (aC (.bool false)) (Zd (Zc (Zb (Za (pM (mT 0 (Ze xs)) (pM (mT 1 (.clo 83 [.el ([iv m]) 0])) (oD (sc #[.tmp 5,.tmp 6] [] (ixOut_c xs lx) [Ze xs,.clo 83 [.el ([iv m]) 0]] rfl rfl rfl) I0 I0 I0 (oC (YI rfl rfl) I0 I0 (pM (aT 8 (bv (decide (0≤(Rd.ixP xs (Rd.outB m)))))) (Zd (Zc (Zl ?_)))))))))))))))
 refine Zh Tryz.results82 (.tmp rfl) ?_
 exact congrArg (fun x:Bool=>AV.v (.bool x)) (Rd.anyP_ix xs (Rd.outB m))
theorem Kk (xs:List Int) {m:Int} (lx:xs.length≤9223372036854775807):Ctr Tryz.prog J 60 [Ze xs,iv m] (bv (Rd.belB xs m)):=by
 refine Zw Tryz.func60 rfl (by intro X hX;simp only [List.mem_cons,List.not_mem_nil,or_false] at hX;rcases hX with rfl | rfl;exact Z6 _;exact .v _) (n:=9) rfl (by simp) (fun w0 => ?_)
 refine kW 9 [] [(0,Ze xs),(1,iv m)] (Zb (Za (ZM rfl (ZT (X:=iv m) (k:=1) (.tmp 1) rfl rfl) ⟨I0,T0⟩ T0 rfl (pM (aC (.bool false)) (Zd (Zc (Zb (Za (pM (mT 0 (Ze xs)) (oA (sp_makeFunc (xs := #[.tmp 3]) (Xs:=[.box 1 0]) rfl rfl) I0 (ZM rfl (sc #[.tmp 5,.tmp 6] [(1,.box 3 [iv m])] (hasOut_c xs lx) [Ze xs,.clo 83 [.box 1 0]] rfl rfl rfl) ⟨I0,I0,I0,T0⟩ ⟨rfl,T0⟩ T0 (oA (Zr rfl rfl) I0 (pM (aT 8 (bv (!(xs.any (Rd.outB m))))) (Zd (Zc (Zl ?_))))))))))))))))
 refine Zh Tryz.results60 (.tmp rfl) ?_
 exact rfl
theorem isShape1_c {x sh:List Int} (HX:InOk x) (HS:InOk sh):Ctr Tryz.prog J 101 [Ze x,.el ([Ze sh]) 0] (bv (decide (sh=x))):=by
 refine Zw Tryz.func101 rfl (by intro X hX;simp only [List.mem_cons,List.not_mem_nil,or_false] at hX;rcases hX with rfl | rfl;exact Z6 _;exact .el (Ya (by intro X hX;rw [List.mem_singleton.1 hX];exact Z6 _))) (n:=7) rfl (by simp) (fun w0 => ?_)
 refine kW 7 [] [(0,Ze x),(1,.el ([Ze sh]) 0)] (Zb (Za (pM (aC (.bool false)) (Zd (Zc (Zb (Za (oA (lE (Ze sh) 1 U24) I0 (pM (mT 0 (Ze x)) (oD (sc #[.tmp 4,.tmp 5] [] (eqIntsG sh x HS HX) [Ze sh,Ze x] rfl rfl rfl) I0 I0 I0 (pM (aT 6 (bv (decide (sh=x)))) (Zd (Zc (Zl ?_))))))))))))))
 refine Zh Tryz.results101 (.tmp rfl) ?_
 exact rfl
theorem ixShape_c {S:List (List Int)} (hS:∀ x∈S,InOk x) (lS:S.length≤5) {sh:List Int} (HS:InOk sh):Ctr Tryz.prog J 100 [slA 1 cLi S,.clo 101 [.el ([Ze sh]) 0]] (iv (Rd.ixP S fun x=>decide (sh=x))):=by
 refine Zw Tryz.func100 rfl (by intro X hX;simp only [List.mem_cons,List.not_mem_nil,or_false] at hX;rcases hX with rfl | rfl;exact plain_sl plain_li _;exact .clo (fun j hj=>match j,hj with | 0,_ => .el (Ya (by intro X hX;rw [List.mem_singleton.1 hX];exact Z6 _)))) (n:=19) rfl (by simp) (fun w0 => ?_)
 refine kW 19 [] [(0,slA 1 cLi S),(1,.clo 101 [.el ([Ze sh]) 0])] (Zb (Za (pM (aC (.int .i64 0)) (Zd (Zc (Zb (Zb (Za (pM (mT 0 (slA 1 cLi S)) (oA (nS 6 U61) I0 (pM (Kp (.const (.int .i64 0)) (iv 0) rfl) (kN 19 [] [(0,slA 1 cLi S),(1,.clo 101 [.el ([Ze sh]) 0]),(4,iv 0),(7,iv S.length),(8,iv 0)] (Zc (Zy ?_))))))))))))))
 refine Yd (σ:={k:Nat // k≤S.length∧Rd.noP S (fun x=>decide (sh=x)) k}) (fun s=>(ofL [],ofT 19 [(0,slA 1 cLi S),(1,.clo 101 [.el ([Ze sh]) 0]),(7,iv S.length),(8,iv s.1)])) (fun s=>S.length-s.1) ⟨0,Nat.zero_le _,Rd.noP_zero _ _⟩ (Zk [] _ rfl (by kernel_rfl) (by kernel_rfl)) (fun s => ?_)
 obtain ⟨k,hk0,hs0⟩:=s
 show ETri J w0 (ofL []) (ofT 19 [(0,slA 1 cLi S),(1,.clo 101 [.el ([Ze sh]) 0]),(7,iv S.length),(8,iv k)]) _
 refine Zb ?_
 by_cases hs1:((k:Nat):Int)<((S.length:Nat):Int)
 refine Za (oC (ZW rfl (dT hs1)) I0 I0 (Zd (Zc (Zb (Zm rfl (Zi (Zc (Zb (Zy (Zb (Za (pM (mT 8 (iv k)) (pM (aT 10 (iv k)) (Zd (Zc (Zb ?_))))))))))))))))
 by_cases hs2:(decide (sh=S[k]))=true
 refine Za (pM (mT 1 (.clo 101 [.el ([Ze sh]) 0])) (pM (mT 0 (slA 1 cLi S)) (pM (mT 5 (iv k)) (oC (xS (k*1) 12 13 U61) I0 I0 (oA (lE (Ze S[k]) 14 U24 ((ZH lenLi S k 0 (by omega) (by decide)).trans rfl)) I0 (oC (sp_callClo (c := .tmp 11) (xs := #[.tmp 15]) (Cs:=[.el ([Ze sh]) 0]) [] (ZA (isShape1_c (hS S[k] (List.getElem_mem (by omega))) HS) hs2) rfl (by kernel_rfl) rfl (Xs:=[Ze S[k]]) rfl rfl rfl rfl rfl) I0 I0 (Zd (Zc (Zm rfl (Zb (Za (pM (mT 5 (iv k)) (pM (aT 17 (iv k)) (Zd (Zc (Zl (Zu (Zf (Zf (Zu (Zf ?_)))))))))))))))))))))
 refine Zh Tryz.results100 (.tmp rfl) ?_
 exact congrArg (fun x:Int=>AV.v (.int .i64 x)) ((Rd.ixP_at (by omega) hs0 hs2).symm)
 have hs2f:(decide (sh=S[k]))=false:=by simpa using hs2
 refine Za (pM (mT 1 (.clo 101 [.el ([Ze sh]) 0])) (pM (mT 0 (slA 1 cLi S)) (pM (mT 5 (iv k)) (oC (xS (k*1) 12 13 U61) I0 I0 (oA (lE (Ze S[k]) 14 U24 ((ZH lenLi S k 0 (by omega) (by decide)).trans rfl)) I0 (oC (sp_callClo (c := .tmp 11) (xs := #[.tmp 15]) (Cs:=[.el ([Ze sh]) 0]) [] (ZA (isShape1_c (hS S[k] (List.getElem_mem (by omega))) HS) hs2f) rfl (by kernel_rfl) rfl (Xs:=[Ze S[k]]) rfl rfl rfl rfl rfl) I0 I0 (Zd (Zc (Zn rfl (Zi (ZL (Zc (Za (oC (ZZ (c:=((k+1:Nat):Int)) rfl (w64 (by omega) (by omega) (by omega))) I0 I0 (pM (mT 18 (iv (k+1:Nat))) (kN 19 [] [(0,slA 1 cLi S),(1,.clo 101 [.el ([Ze sh]) 0]),(5,iv k),(7,iv S.length),(8,iv (k+1:Nat)),(9,bT),(16,bF)] (Zc ?_)))))))))))))))))
 refine ZI ⟨k+1,by omega,Rd.noP_succ (by omega) hs0 hs2f⟩ (show S.length-(k+1)<S.length-k by omega) ?_
 exact Zk [] _ rfl (by kernel_rfl) (by kernel_rfl)
 refine Za (oC (ZW rfl (dF hs1)) I0 I0 (Zd (Zc (Zb (Zn rfl (Yb (Zt (Zt (Kb (Zc (Zb (Za (pM (aC (.int .i64 (-1))) (Zd (Zc (Zl ?_))))))))))))))))
 refine Zh Tryz.results100 (.tmp rfl) ?_
 exact congrArg (fun x:Int=>AV.v (.int .i64 x)) ((Rd.ixP_none (k:=k) (by omega) hs0).symm)
theorem Rd.shT_ok (top n:Int):∀ x∈Ns.shT top n,InOk x:=by
  unfold Ns.shT
  split
  · exact fun x hx=>(Sh.shX_mem n x hx).2
  intro x hx;cases hx
theorem Rd.shT_len (top n:Int):(Ns.shT top n).length≤5:=by
  unfold Ns.shT
  split
  · exact Sh.shX_len n
  simp
theorem readShape_c {p:Fm} {n t f:Int} {sh:List Int} (HS:InOk sh) (lsh:sh.length≤100):Ctr Tryz.prog J 67 [.el (Ns.sysC p n t f) 0,Ze sh] (.tup [iv (Rd.shI p.top (Ns.shT p.top (Ns.cntE p n f)) sh),bv (Rd.shB p.top (Ns.shT p.top (Ns.cntE p n f)) sh)]):=by
 refine Zw Tryz.func67 rfl (by intro X hX;simp only [List.mem_cons,List.not_mem_nil,or_false] at hX;rcases hX with rfl | rfl;exact (show Plain (.el (Ns.sysC p n t f) 0) from .el (Ya (Ns.plain_sys p n t f)));exact Z6 _) (n:=26) rfl (by simp) (fun w0 => ?_)
 refine kW 26 [] [(0,.el (Ns.sysC p n t f) 0),(1,Ze sh)] (Zb (Za (ZM rfl (ZT (X:=Ze sh) (k:=1) (.tmp 1) rfl rfl) ⟨I0,T0⟩ T0 rfl (pM (aC (.int .i64 0)) (pM (aC (.bool false)) (Zd (Zc (Zb (Zb ?_)))))))))
 by_cases hs1:p.top=4
 refine Za (pM (mT 0 (.el (Ns.sysC p n t f) 0)) (oA (Zz (off:=0) (.tmp 7) rfl) I0 (oA (fe 0 8 U105 10) I0 (oA (fe 1 9 U27 1) I0 (oA (lE (iv p.top) 10 U3) I0 (oC (Zv rfl (dT' hs1)) I0 I0 (Zd (Zc (Zn rfl (Zi (Zc (Zb (Za (pM (mT 0 (.el (Ns.sysC p n t f) 0)) (oA (Zz (off:=0) (.tmp 16) rfl) I0 (oA (fe 31 17 U105 1) I0 (oA (lE (slA 1 cLi (Ns.shT p.top (Ns.cntE p n f))) 18 U61) I0 (oA (sp_makeFunc (xs := #[.tmp 3]) (Xs:=[.box 1 0]) rfl rfl) I0 (ZM rfl (sc #[.tmp 19,.tmp 20] [(1,.box 24 [Ze sh])] (ixShape_c (Rd.shT_ok _ _) (Rd.shT_len _ _) HS) [slA 1 cLi (Ns.shT p.top (Ns.cntE p n f)),.clo 101 [.box 1 0]] rfl rfl rfl) ⟨I0,I0,I0,T0⟩ ⟨rfl,T0⟩ T0 (pM (aT 21 (iv (Rd.ixP (Ns.shT p.top (Ns.cntE p n f)) fun x=>decide (sh=x)))) (Zd (Zc (Zb ?_)))))))))))))))))))))))
 refine Za (pM (mT 6 (iv (Rd.ixP (Ns.shT p.top (Ns.cntE p n f)) fun x=>decide (sh=x)))) (oC (sp_max (.tmp 22) (.const (.int .i64 0)) rfl) I0 I0 (pM (mT 6 (iv (Rd.ixP (Ns.shT p.top (Ns.cntE p n f)) fun x=>decide (sh=x)))) (oC (YI rfl rfl) I0 I0 (pM (aT 23 (iv (max (Rd.ixP (Ns.shT p.top (Ns.cntE p n f)) fun x=>decide (sh=x)) 0))) (pM (aT 25 (bv (decide (0≤(Rd.ixP (Ns.shT p.top (Ns.cntE p n f)) fun x=>decide (sh=x)))))) (Zd (Zc (Zl ?_)))))))))
 refine Yv Tryz.results67 (.tmp rfl) (.tmp rfl) ?_
 rw [Rd.shI_tree hs1,Rd.shB_tree hs1]
 exact rfl
 refine Za (pM (mT 0 (.el (Ns.sysC p n t f) 0)) (oA (Zz (off:=0) (.tmp 7) rfl) I0 (oA (fe 0 8 U105 10) I0 (oA (fe 1 9 U27 1) I0 (oA (lE (iv p.top) 10 U3) I0 (oC (Zv rfl (dF' hs1)) I0 I0 (Zd (Zc (Zm rfl (Zb ?_))))))))))
 refine Zs (dB (lb (Ze sh) 3 U24) I0 rfl (dA (nS 13 U24) I0 (dC (Zp rfl rfl) I0 I0 (dM (aC (.int .i64 0)) (dM (aT 15 (bv (decide (((sh.length:Nat):Int)=0)))) (dE ?_)))))) (by kernel_rfl)
 show ETri J w0 _ _ _
 refine Zc (Zl (Zf ?_))
 refine Yv Tryz.results67 (.tmp rfl) (.tmp rfl) ?_
 rw [Rd.shI_no hs1,Rd.shB_no hs1]
 exact rfl
theorem Rd.mf_t {p:Fm} (h:Rd.looseB p=true):Rd.mfE p-1=1048576:=by
  unfold Rd.looseB at h
  rw [Bool.or_eq_true,decide_eq_true_iff,decide_eq_true_iff] at h
  unfold Rd.mfE;rw [if_pos h];rfl
theorem Rd.mf_in (p:Fm):1≤Rd.mfE p∧Rd.mfE p≤1048577:=by
  unfold Rd.mfE;split<;>omega
theorem Rd.mf_f {p:Fm} (h:Rd.looseB p=false):Rd.mfE p-1=0:=by
  unfold Rd.looseB at h
  rw [Bool.or_eq_false_iff,decide_eq_false_iff_not,decide_eq_false_iff_not] at h
  unfold Rd.mfE;rw [if_neg (not_or.2 h)];rfl
set_option maxRecDepth 100000 in
set_option maxHeartbeats 6400000 in
theorem read_c {p:Fm} {n t f:Int} {c:Cf} (HC:Rd.CgOk c):Ctr Tryz.prog J 47 [.el (Ns.sysC p n t f) 0,.agg (Rd.cCg c)] (.tup [.agg (Rd.cfZ (Rd.rdY p n f c) (Rd.shI p.top (Ns.shT p.top (Ns.cntE p n f)) c.sh) c),bv (Rd.rdX p n f c)]):=by
 have hmf:=Rd.mf_in p
 refine Zw Tryz.func47 rfl (by intro X hX;simp only [List.mem_cons,List.not_mem_nil,or_false] at hX;rcases hX with rfl | rfl;exact (show Plain (.el (Ns.sysC p n t f) 0) from .el (Ya (Ns.plain_sys p n t f)));exact Zq (Rd.plain_cg c)) (n:=124) rfl (by simp) (fun w0 => ?_)
 refine kW 124 [] [(0,.el (Ns.sysC p n t f) 0),(1,.agg (Rd.cCg c))] (Zb (Za (ZM rfl (ZT (X := .agg (Rd.cCg c)) (k:=1) (.tmp 1) rfl rfl) ⟨I0,T0⟩ T0 rfl (ZM rfl (Yl (z := .agg #[.int .i64 0,.int .i64 0,.int .i64 0,.int .i64 0,.int .i64 0,.int .i64 0,.int .i64 0,.int .i64 0,.int .i64 0,.int .i64 0,.int .i64 0,.int .i64 0,.int .i64 0,.int .i64 0,.int .i64 0,.int .i64 0]) (k:=2) rfl (by kernel_rfl)) T0 T0 rfl (pM (aC (.bool false)) (Zd (Zc (Zb (Za (pM (mT 0 (.el (Ns.sysC p n t f) 0)) (oA (Zz (off:=0) (.tmp 11) rfl) I0 (oA (fe 0 12 U105 10) I0 (oA (ZC (z:=10) (ds:=[sv p.nm,iv p.top,ZD p.states,ZD p.msgs,ZD p.vals,iv p.fault,slA 4 cLn p.res,Ze p.init,Ze p.leader,slA 18 cRu p.rules]) (.tmp 13) rfl U27 rfl (by kernel_rfl) (by kernel_rfl) rfl) I0 (ZM rfl (Yl (z := .agg #[.string (⟨#[]⟩),.int .i64 0,.slice none 0 0,.slice none 0 0,.slice none 0 0,.int .i64 0,.slice none 0 0,.slice none 0 0,.slice none 0 0,.slice none 0 0]) (k:=3) rfl (by kernel_rfl)) T0 T0 rfl (ZM rfl (sB 10 6 (.tmp 14) (.agg [sv p.nm,iv p.top,ZD p.states,ZD p.msgs,ZD p.vals,iv p.fault,slA 4 cLn p.res,Ze p.init,Ze p.leader,slA 18 cRu p.rules])) ⟨I0,I0,T0⟩ ⟨rfl,T0⟩ rfl (Zd (Zc (Zb (Za (pM (mT 0 (.el (Ns.sysC p n t f) 0)) (oA (fb 0 3 U31 1) I0 (oB (lb (Ze c.sh) 17 U24) I0 rfl (oD (sc #[.tmp 16,.tmp 18] [] (readShape_c HC.sh HC.lsh) [.el (Ns.sysC p n t f) 0,Ze c.sh] rfl rfl rfl) I0 I0 I0 ?_)))))))))))))))))))))))
 refine pM (mT 19 (.tup [iv (Rd.shI p.top (Ns.shT p.top (Ns.cntE p n f)) c.sh),bv (Rd.shB p.top (Ns.shT p.top (Ns.cntE p n f)) c.sh)])) (oA (ZQ (X:=iv (Rd.shI p.top (Ns.shT p.top (Ns.cntE p n f)) c.sh)) (.tmp 15) rfl rfl) I0 (oA (ZQ (X:=bv (Rd.shB p.top (Ns.shT p.top (Ns.cntE p n f)) c.sh)) (.tmp 15) rfl rfl) I0 (pM (aT 20 (iv (Rd.shI p.top (Ns.shT p.top (Ns.cntE p n f)) c.sh))) (pM (aT 21 (bv (Rd.shB p.top (Ns.shT p.top (Ns.cntE p n f)) c.sh))) (Zd (Zc (Zb (Zb ?_))))))))
 by_cases hs1:(Rd.shB p.top (Ns.shT p.top (Ns.cntE p n f)) c.sh)=true
 rw [hs1]
 refine kW 124 [(1,.box 31 (Rd.cCg c)),(2,.box 70 [iv 0,iv 0,iv 0,iv 0,iv 0,iv 0,iv 0,iv 0,iv 0,iv 0,iv 0,iv 0,iv 0,iv 0,iv 0,iv 0]),(3,.box 27 [sv p.nm,iv p.top,ZD p.states,ZD p.msgs,ZD p.vals,iv p.fault,slA 4 cLn p.res,Ze p.init,Ze p.leader,slA 18 cRu p.rules])] [(0,.el (Ns.sysC p n t f) 0),(3,.box 1 0),(4,.box 2 0),(5,bF),(6,.box 3 0),(7,iv (Rd.shI p.top (Ns.shT p.top (Ns.cntE p n f)) c.sh)),(8,bT)] ?_
 by_cases hs2:((c.st.length:Nat):Int)=(Ns.cntE p n f)
 by_cases hs3:(Rd.belB c.st ((p.states.length:Nat):Int))=true
 by_cases hs4:c.cor=(n-f)
 refine Zs (dM (mT 8 bT) (dA (Zr rfl rfl) I0 (dM (mT 23 bF) (dA (fb 1 3 U31 1) I0 (dB (lb (Ze c.st) 25 U24) I0 rfl (dA (nS 26 U24) I0 (dM (mT 0 (.el (Ns.sysC p n t f) 0)) (dA (Zz (off:=0) (.tmp 28) rfl) I0 (dA (fe 13 29 U105 1) I0 (dA (lE (iv (Ns.cntE p n f)) 30 U3) I0 (dC (Zv rfl (dT' hs2)) I0 I0 (dP (pk false bT bF rfl) (dM (mT 33 bF) (dA (fb 1 3 U31 1) I0 (dB (lb (Ze c.st) 35 U24) I0 rfl (dA (fb 2 6 U27 1) I0 (dB (lb (ZD p.states) 37 U22) I0 rfl (dA (nS 38 U22) I0 (dD (sc #[.tmp 36,.tmp 39] [] (ZA (Kk c.st (Nat.le_trans HC.lst (by decide))) hs3) [Ze c.st,iv p.states.length] rfl rfl rfl) I0 I0 I0 (dA (Zr rfl rfl) I0 (dP (pk false bT bF rfl) (dM (mT 42 bF) (dA (fb 2 3 U31 1) I0 (dB (lb (iv c.cor) 44 U3) I0 rfl (dM (mT 0 (.el (Ns.sysC p n t f) 0)) (dA (Zz (off:=0) (.tmp 46) rfl) I0 (dA (fe 14 47 U105 1) I0 (dA (lE (iv (n-f)) 48 U3) I0 (dC (Zv rfl (dT' hs4)) I0 I0 (dP (pk false bT bF rfl) (dE ?_))))))))))))))))))))))))))))))) (by kernel_rfl)
 show ETri J w0 _ _ _
 refine kW 124 [(1,.box 31 (Rd.cCg c)),(2,.box 70 [iv 0,iv 0,iv 0,iv 0,iv 0,iv 0,iv 0,iv 0,iv 0,iv 0,iv 0,iv 0,iv 0,iv 0,iv 0,iv 0]),(3,.box 27 [sv p.nm,iv p.top,ZD p.states,ZD p.msgs,ZD p.vals,iv p.fault,slA 4 cLn p.res,Ze p.init,Ze p.leader,slA 18 cRu p.rules])] [(3,.box 1 0),(4,.box 2 0),(5,bF),(6,.box 3 0),(7,iv (Rd.shI p.top (Ns.shT p.top (Ns.cntE p n f)) c.sh)),(51,bF)] (Zc (Zn rfl (Zi (Zc (Zb (Zb ?_))))))
 by_cases hs5:((c.se.length:Nat):Int)=((p.msgs.length:Nat):Int)
 by_cases hs6:(Rd.belB c.se 1048577)=true
 refine Za (oA (fb 3 3 U31 1) I0 (oB (lb (Ze c.se) 53 U24) I0 rfl (oA (nS 54 U24) I0 (oA (fb 3 6 U27 1) I0 (oB (lb (ZD p.msgs) 56 U22) I0 rfl (oA (nS 57 U22) I0 (oC (Zv rfl (dT' hs5)) I0 I0 (pM (mT 59 bF) (gA (fb 3 3 U31 1) I0 (gB (lb (Ze c.se) 61 U24) I0 rfl (gD (sc #[.tmp 62,.const (.int .i64 1048577)] [] (ZA (Kk c.se (Nat.le_trans HC.lse (by decide))) hs6) [Ze c.se,iv 1048577] rfl rfl rfl) I0 I0 I0 (gA (Zr rfl rfl) I0 (pP (pk false bT bF rfl) (Zd (Zc (Zn rfl (Zi (Zc (Zb (Za (pM (aC (.int .i64 0)) (kN 124 [(1,.box 31 (Rd.cCg c)),(2,.box 70 [iv 0,iv 0,iv 0,iv 0,iv 0,iv 0,iv 0,iv 0,iv 0,iv 0,iv 0,iv 0,iv 0,iv 0,iv 0,iv 0]),(3,.box 27 [sv p.nm,iv p.top,ZD p.states,ZD p.msgs,ZD p.vals,iv p.fault,slA 4 cLn p.res,Ze p.init,Ze p.leader,slA 18 cRu p.rules])] [(3,.box 1 0),(4,.box 2 0),(5,bF),(6,.box 3 0),(7,iv (Rd.shI p.top (Ns.shT p.top (Ns.cntE p n f)) c.sh)),(9,iv 0)] (Zc ?_)))))))))))))))))))))))
 refine Zb (Zb ?_)
 refine YN (True) (ofL [(1,.box 31 (Rd.cCg c)),(2,.box 70 [iv 0,iv 0,iv 0,iv 0,iv 0,iv 0,iv 0,iv 0,iv 0,iv 0,iv 0,iv 0,iv 0,iv 0,iv 0,iv 0]),(3,.box 27 [sv p.nm,iv p.top,ZD p.states,ZD p.msgs,ZD p.vals,iv p.fault,slA 4 cLn p.res,Ze p.init,Ze p.leader,slA 18 cRu p.rules])]) (ofT 124 [(3,.box 1 0),(4,.box 2 0),(5,bF),(6,.box 3 0),(7,iv (Rd.shI p.top (Ns.shT p.top (Ns.cntE p n f)) c.sh)),(9,iv 0),(74,bv (Rd.looseB p))]) ?_ (fun _ => ?_)
 by_cases hs7:p.fault=1
 refine Za (oA (fb 5 6 U27 1) I0 (oB (lb (iv p.fault) 67 U3) I0 rfl (oC (Zp rfl (dT hs7)) I0 I0 (pM (mT 69 bT) (qK (qK (qK (pP (pk true bT (.v (.tuple #[])) rfl) (kN 124 [(1,.box 31 (Rd.cCg c)),(2,.box 70 [iv 0,iv 0,iv 0,iv 0,iv 0,iv 0,iv 0,iv 0,iv 0,iv 0,iv 0,iv 0,iv 0,iv 0,iv 0,iv 0]),(3,.box 27 [sv p.nm,iv p.top,ZD p.states,ZD p.msgs,ZD p.vals,iv p.fault,slA 4 cLn p.res,Ze p.init,Ze p.leader,slA 18 cRu p.rules])] [(3,.box 1 0),(4,.box 2 0),(5,bF),(6,.box 3 0),(7,iv (Rd.shI p.top (Ns.shT p.top (Ns.cntE p n f)) c.sh)),(9,iv 0),(74,bT)] ?_)))))))))
 rw [show (Rd.looseB p)=true by simp only [Rd.looseB,hs7,decide_true,decide_false,Bool.true_or,Bool.false_or]]
 exact Zx T0 (Zk _ _ rfl (by kernel_rfl) (by kernel_rfl))
 refine Za (oA (fb 5 6 U27 1) I0 (oB (lb (iv p.fault) 67 U3) I0 rfl (oC (Zp rfl (dF hs7)) I0 I0 (pM (mT 69 bF) (gA (fb 5 6 U27 1) I0 (gB (lb (iv p.fault) 71 U3) I0 rfl (gC (Zp rfl rfl) I0 I0 (pP (pk false bT (bv (decide (p.fault=2))) rfl) (kN 124 [(1,.box 31 (Rd.cCg c)),(2,.box 70 [iv 0,iv 0,iv 0,iv 0,iv 0,iv 0,iv 0,iv 0,iv 0,iv 0,iv 0,iv 0,iv 0,iv 0,iv 0,iv 0]),(3,.box 27 [sv p.nm,iv p.top,ZD p.states,ZD p.msgs,ZD p.vals,iv p.fault,slA 4 cLn p.res,Ze p.init,Ze p.leader,slA 18 cRu p.rules])] [(3,.box 1 0),(4,.box 2 0),(5,bF),(6,.box 3 0),(7,iv (Rd.shI p.top (Ns.shT p.top (Ns.cntE p n f)) c.sh)),(9,iv 0),(74,bv (decide (p.fault=2)))] ?_)))))))))
 rw [show (Rd.looseB p)=(decide (p.fault=2)) by simp only [Rd.looseB,hs7,decide_true,decide_false,Bool.true_or,Bool.false_or]]
 exact Zx T0 (Zk _ _ rfl (by kernel_rfl) (by kernel_rfl))
 refine Zc ?_
 refine YN (True) (ofL [(1,.box 31 (Rd.cCg c)),(2,.box 70 [iv 0,iv 0,iv 0,iv 0,iv 0,iv 0,iv 0,iv 0,iv 0,iv 0,iv 0,iv 0,iv 0,iv 0,iv 0,iv 0]),(3,.box 27 [sv p.nm,iv p.top,ZD p.states,ZD p.msgs,ZD p.vals,iv p.fault,slA 4 cLn p.res,Ze p.init,Ze p.leader,slA 18 cRu p.rules])]) (ofT 124 [(3,.box 1 0),(4,.box 2 0),(5,bF),(6,.box 3 0),(7,iv (Rd.shI p.top (Ns.shT p.top (Ns.cntE p n f)) c.sh)),(9,iv (Rd.mfE p-1))]) ?_ (fun _ => ?_)
 by_cases hs8:(Rd.looseB p)=true
 rw [hs8]
 refine kW 124 [(1,.box 31 (Rd.cCg c)),(2,.box 70 [iv 0,iv 0,iv 0,iv 0,iv 0,iv 0,iv 0,iv 0,iv 0,iv 0,iv 0,iv 0,iv 0,iv 0,iv 0,iv 0]),(3,.box 27 [sv p.nm,iv p.top,ZD p.states,ZD p.msgs,ZD p.vals,iv p.fault,slA 4 cLn p.res,Ze p.init,Ze p.leader,slA 18 cRu p.rules])] [(3,.box 1 0),(4,.box 2 0),(5,bF),(6,.box 3 0),(7,iv (Rd.shI p.top (Ns.shT p.top (Ns.cntE p n f)) c.sh)),(9,iv 0),(74,bT)] (Zm rfl (Za (pM (aC (.int .i64 1048576)) (kN 124 [(1,.box 31 (Rd.cCg c)),(2,.box 70 [iv 0,iv 0,iv 0,iv 0,iv 0,iv 0,iv 0,iv 0,iv 0,iv 0,iv 0,iv 0,iv 0,iv 0,iv 0,iv 0]),(3,.box 27 [sv p.nm,iv p.top,ZD p.states,ZD p.msgs,ZD p.vals,iv p.fault,slA 4 cLn p.res,Ze p.init,Ze p.leader,slA 18 cRu p.rules])] [(3,.box 1 0),(4,.box 2 0),(5,bF),(6,.box 3 0),(7,iv (Rd.shI p.top (Ns.shT p.top (Ns.cntE p n f)) c.sh)),(9,iv 1048576)] ?_))))
 rw [Rd.mf_t hs8]
 exact Zx T0 (Zk _ _ rfl (by kernel_rfl) (by kernel_rfl))
 have hs8f:(Rd.looseB p)=false:=by simpa using hs8
 rw [hs8f]
 refine kW 124 [(1,.box 31 (Rd.cCg c)),(2,.box 70 [iv 0,iv 0,iv 0,iv 0,iv 0,iv 0,iv 0,iv 0,iv 0,iv 0,iv 0,iv 0,iv 0,iv 0,iv 0,iv 0]),(3,.box 27 [sv p.nm,iv p.top,ZD p.states,ZD p.msgs,ZD p.vals,iv p.fault,slA 4 cLn p.res,Ze p.init,Ze p.leader,slA 18 cRu p.rules])] [(3,.box 1 0),(4,.box 2 0),(5,bF),(6,.box 3 0),(7,iv (Rd.shI p.top (Ns.shT p.top (Ns.cntE p n f)) c.sh)),(9,iv 0),(74,bF)] (Zn rfl (Zi ?_))
 rw [Rd.mf_f hs8f]
 exact Zx T0 (Zk _ _ rfl (by kernel_rfl) (by kernel_rfl))
 refine Zc (Zb (Zb ?_))
 by_cases hs9:((c.fa.length:Nat):Int)=((p.msgs.length:Nat):Int)
 by_cases hs10:(Rd.belB c.fa ((Rd.mfE p-1)+1))=true
 refine Za (oA (fb 4 3 U31 1) I0 (oB (lb (Ze c.fa) 75 U24) I0 rfl (oA (nS 76 U24) I0 (oA (fb 3 6 U27 1) I0 (oB (lb (ZD p.msgs) 78 U22) I0 rfl (oA (nS 79 U22) I0 (oC (Zv rfl (dT' hs9)) I0 I0 (pM (mT 81 bF) (gA (fb 4 3 U31 1) I0 (gB (lb (Ze c.fa) 83 U24) I0 rfl (qM (mT 9 (iv (Rd.mfE p-1))) (gC (ZZ (c:=(Rd.mfE p-1)+1) rfl (w64 (by omega) (by omega) (by omega))) I0 I0 (gD (sc #[.tmp 84,.tmp 86] [] (ZA (Kk c.fa (Nat.le_trans HC.lfa (by decide))) hs10) [Ze c.fa,iv ((Rd.mfE p-1)+1)] rfl rfl rfl) I0 I0 I0 (gA (Zr rfl rfl) I0 (pP (pk false bT bF rfl) (Zd (Zc (Zn rfl (Zi (Zc (Zb (Zb ?_))))))))))))))))))))))
 by_cases hs11:c.val<0
 refine Za (oA (fb 5 3 U31 1) I0 (oB (lb (iv c.val) 91 U3) I0 rfl (oC (ZW rfl (dT hs11)) I0 I0 (pM (mT 93 bT) (qK (qK (qK (qK (qK (qK (qK (pP (pk true bT (.v (.tuple #[])) rfl) (Zd (Zc (Zm rfl (Zb (Za (ZM rfl (Kh [] #[.int .i64 0,.int .i64 0,.int .i64 0,.int .i64 0,.int .i64 0,.int .i64 0,.int .i64 0,.int .i64 0,.int .i64 0,.int .i64 0,.int .i64 0,.int .i64 0,.int .i64 0,.int .i64 0,.int .i64 0,.int .i64 0] rfl rfl (by kernel_rfl) rfl) T0 T0 T0 (ZM rfl (sB 16 4 (.tmp 103) (.agg [iv 0,iv 0,iv 0,iv 0,iv 0,iv 0,iv 0,iv 0,iv 0,iv 0,iv 0,iv 0,iv 0,iv 0,iv 0,iv 0])) ⟨I0,I0,T0⟩ ⟨rfl,T0⟩ rfl (pM (aC (.bool false)) (Zd (Zc (Zl ?_)))))))))))))))))))))))
 refine Zf ?_
 refine Yv Tryz.results47 (.cellS rfl rfl U70 rfl (z:=16) (by kernel_rfl) rfl (by decide)) (.tmp rfl) ?_
 rw [Int.sub_add_cancel] at hs10
 have hr:(Rd.rdX p n f c)=false:=by simp only [Rd.rdX,Rd.rdB,hs1,hs2,hs3,hs4,hs5,hs6,hs9,hs10,hs11,decide_true,decide_false,Bool.and_true,Bool.true_and,Bool.false_and,Bool.and_false,Bool.not_true,Bool.not_false,if_true,if_false,true_or,or_true,or_self,not_true_eq_false,not_false_eq_true,ite_true,ite_false,or_false,false_or]
 rw [show (Rd.rdY p n f c)=false from hr,hr]
 exact rfl
 by_cases hs12:(max ((p.vals.length:Nat):Int) 1)≤c.val
 refine Za (oA (fb 5 3 U31 1) I0 (oB (lb (iv c.val) 91 U3) I0 rfl (oC (ZW rfl (dF hs11)) I0 I0 (pM (mT 93 bF) (gA (fb 5 3 U31 1) I0 (gB (lb (iv c.val) 95 U3) I0 rfl (gA (fb 4 6 U27 1) I0 (gB (lb (ZD p.vals) 97 U22) I0 rfl (gA (nS 98 U22) I0 (gC (sp_max (.tmp 99) (.const (.int .i64 1)) rfl) I0 I0 (gC (YI rfl (dT hs12)) I0 I0 (pP (pk false bT bT rfl) (Zd (Zc (Zm rfl (Zb (Za (ZM rfl (Kh [] #[.int .i64 0,.int .i64 0,.int .i64 0,.int .i64 0,.int .i64 0,.int .i64 0,.int .i64 0,.int .i64 0,.int .i64 0,.int .i64 0,.int .i64 0,.int .i64 0,.int .i64 0,.int .i64 0,.int .i64 0,.int .i64 0] rfl rfl (by kernel_rfl) rfl) T0 T0 T0 (ZM rfl (sB 16 4 (.tmp 103) (.agg [iv 0,iv 0,iv 0,iv 0,iv 0,iv 0,iv 0,iv 0,iv 0,iv 0,iv 0,iv 0,iv 0,iv 0,iv 0,iv 0])) ⟨I0,I0,T0⟩ ⟨rfl,T0⟩ rfl (pM (aC (.bool false)) (Zd (Zc (Zl ?_)))))))))))))))))))))))
 refine Zf ?_
 refine Yv Tryz.results47 (.cellS rfl rfl U70 rfl (z:=16) (by kernel_rfl) rfl (by decide)) (.tmp rfl) ?_
 rw [Int.sub_add_cancel] at hs10
 have hr:(Rd.rdX p n f c)=false:=by simp only [Rd.rdX,Rd.rdB,hs1,hs2,hs3,hs4,hs5,hs6,hs9,hs10,hs11,hs12,decide_true,decide_false,Bool.and_true,Bool.true_and,Bool.false_and,Bool.and_false,Bool.not_true,Bool.not_false,if_true,if_false,true_or,or_true,or_self,not_true_eq_false,not_false_eq_true,ite_true,ite_false,or_false,false_or]
 rw [show (Rd.rdY p n f c)=false from hr,hr]
 exact rfl
 refine Za (oA (fb 5 3 U31 1) I0 (oB (lb (iv c.val) 91 U3) I0 rfl (oC (ZW rfl (dF hs11)) I0 I0 (pM (mT 93 bF) (gA (fb 5 3 U31 1) I0 (gB (lb (iv c.val) 95 U3) I0 rfl (gA (fb 4 6 U27 1) I0 (gB (lb (ZD p.vals) 97 U22) I0 rfl (gA (nS 98 U22) I0 (gC (sp_max (.tmp 99) (.const (.int .i64 1)) rfl) I0 I0 (gC (YI rfl (dF hs12)) I0 I0 (pP (pk false bT bF rfl) (Zd (Zc (Zn rfl (Zi (Zc (Zb (Za (pM (mT 7 (iv (Rd.shI p.top (Ns.shT p.top (Ns.cntE p n f)) c.sh))) (oA (fb 5 3 U31 1) I0 (oB (lb (iv c.val) 105 U3) I0 rfl (oC (Kh [(.tmp 104,.int .i64 (Rd.shI p.top (Ns.shT p.top (Ns.cntE p n f)) c.sh)),(.tmp 106,.int .i64 c.val)] #[.int .i64 (Rd.shI p.top (Ns.shT p.top (Ns.cntE p n f)) c.sh),.int .i64 0,.int .i64 0,.int .i64 0,.int .i64 0,.int .i64 0,.int .i64 0,.int .i64 0,.int .i64 0,.int .i64 0,.int .i64 0,.int .i64 0,.int .i64 0,.int .i64 0,.int .i64 0,.int .i64 c.val] rfl rfl (by kernel_rfl) rfl) I0 I0 ?_)))))))))))))))))))))))
 refine ZM rfl (Yl (z := .agg #[.int .i64 0,.int .i64 0,.int .i64 0,.int .i64 0,.int .i64 0,.int .i64 0,.int .i64 0,.int .i64 0,.int .i64 0,.int .i64 0,.int .i64 0,.int .i64 0,.int .i64 0,.int .i64 0,.int .i64 0,.int .i64 0]) (k:=4) rfl (by kernel_rfl)) T0 T0 rfl (ZM rfl (sB 16 10 (.tmp 107) (.agg [iv (Rd.shI p.top (Ns.shT p.top (Ns.cntE p n f)) c.sh),iv 0,iv 0,iv 0,iv 0,iv 0,iv 0,iv 0,iv 0,iv 0,iv 0,iv 0,iv 0,iv 0,iv 0,iv c.val])) ⟨I0,I0,T0⟩ ⟨rfl,T0⟩ rfl (Zd (Zc (Zb ?_))))
 refine Zs (dA (fb 1 10 U70 8) I0 (dA (sp_sliceArr (z:=1) (.tmp 108) rfl U66 (by kernel_rfl)) I0 (dA (fb 1 3 U31 1) I0 (dB (lb (Ze c.st) 110 U24) I0 rfl (dR (sp_copyInts (old:=[iv (Rd.shI p.top (Ns.shT p.top (Ns.cntE p n f)) c.sh),iv 0,iv 0,iv 0,iv 0,iv 0,iv 0,iv 0,iv 0,iv 0,iv 0,iv 0,iv 0,iv 0,iv 0,iv c.val]) (new:=[iv (Rd.shI p.top (Ns.shT p.top (Ns.cntE p n f)) c.sh),iv (c.st.getD 0 0),iv (c.st.getD 1 0),iv (c.st.getD 2 0),iv (c.st.getD 3 0),iv (c.st.getD 4 0),iv (c.st.getD 5 0),iv (c.st.getD 6 0),iv (c.st.getD 7 0),iv 0,iv 0,iv 0,iv 0,iv 0,iv 0,iv c.val]) c.st (.tmp 109) (.tmp 111) rfl U24 (by kernel_rfl) (by kernel_rfl) (by kernel_rfl) (by kernel_rfl)) ⟨I0,I0,T0⟩ ⟨rfl,T0⟩ rfl (dE ?_)))))) (by kernel_rfl)
 show ETri J w0 _ _ _
 refine kW 124 [(1,.box 31 (Rd.cCg c)),(2,.box 70 [iv 0,iv 0,iv 0,iv 0,iv 0,iv 0,iv 0,iv 0,iv 0,iv 0,iv 0,iv 0,iv 0,iv 0,iv 0,iv 0]),(4,.box 70 [iv (Rd.shI p.top (Ns.shT p.top (Ns.cntE p n f)) c.sh),iv (c.st.getD 0 0),iv (c.st.getD 1 0),iv (c.st.getD 2 0),iv (c.st.getD 3 0),iv (c.st.getD 4 0),iv (c.st.getD 5 0),iv (c.st.getD 6 0),iv (c.st.getD 7 0),iv 0,iv 0,iv 0,iv 0,iv 0,iv 0,iv c.val])] [(3,.box 1 0),(4,.box 2 0),(5,bF),(10,.box 4 0)] (Zc (Zb ?_))
 refine Zs (dA (fb 9 10 U70 3) I0 (dA (sp_sliceArr (z:=1) (.tmp 113) rfl U68 (by kernel_rfl)) I0 (dA (fb 3 3 U31 1) I0 (dB (lb (Ze c.se) 115 U24) I0 rfl (dR (sp_copyInts (old:=[iv (Rd.shI p.top (Ns.shT p.top (Ns.cntE p n f)) c.sh),iv (c.st.getD 0 0),iv (c.st.getD 1 0),iv (c.st.getD 2 0),iv (c.st.getD 3 0),iv (c.st.getD 4 0),iv (c.st.getD 5 0),iv (c.st.getD 6 0),iv (c.st.getD 7 0),iv 0,iv 0,iv 0,iv 0,iv 0,iv 0,iv c.val]) (new:=[iv (Rd.shI p.top (Ns.shT p.top (Ns.cntE p n f)) c.sh),iv (c.st.getD 0 0),iv (c.st.getD 1 0),iv (c.st.getD 2 0),iv (c.st.getD 3 0),iv (c.st.getD 4 0),iv (c.st.getD 5 0),iv (c.st.getD 6 0),iv (c.st.getD 7 0),iv (c.se.getD 0 0),iv (c.se.getD 1 0),iv (c.se.getD 2 0),iv 0,iv 0,iv 0,iv c.val]) c.se (.tmp 114) (.tmp 116) rfl U24 (by kernel_rfl) (by kernel_rfl) (by kernel_rfl) (by kernel_rfl)) ⟨I0,I0,T0⟩ ⟨rfl,T0⟩ rfl (dE ?_)))))) (by kernel_rfl)
 show ETri J w0 _ _ _
 refine kW 124 [(1,.box 31 (Rd.cCg c)),(2,.box 70 [iv 0,iv 0,iv 0,iv 0,iv 0,iv 0,iv 0,iv 0,iv 0,iv 0,iv 0,iv 0,iv 0,iv 0,iv 0,iv 0]),(4,.box 70 [iv (Rd.shI p.top (Ns.shT p.top (Ns.cntE p n f)) c.sh),iv (c.st.getD 0 0),iv (c.st.getD 1 0),iv (c.st.getD 2 0),iv (c.st.getD 3 0),iv (c.st.getD 4 0),iv (c.st.getD 5 0),iv (c.st.getD 6 0),iv (c.st.getD 7 0),iv (c.se.getD 0 0),iv (c.se.getD 1 0),iv (c.se.getD 2 0),iv 0,iv 0,iv 0,iv c.val])] [(3,.box 1 0),(4,.box 2 0),(5,bF),(10,.box 4 0)] (Zc (Zb ?_))
 refine Zs (dA (fb 12 10 U70 3) I0 (dA (sp_sliceArr (z:=1) (.tmp 118) rfl U68 (by kernel_rfl)) I0 (dA (fb 4 3 U31 1) I0 (dB (lb (Ze c.fa) 120 U24) I0 rfl (dR (sp_copyInts (old:=[iv (Rd.shI p.top (Ns.shT p.top (Ns.cntE p n f)) c.sh),iv (c.st.getD 0 0),iv (c.st.getD 1 0),iv (c.st.getD 2 0),iv (c.st.getD 3 0),iv (c.st.getD 4 0),iv (c.st.getD 5 0),iv (c.st.getD 6 0),iv (c.st.getD 7 0),iv (c.se.getD 0 0),iv (c.se.getD 1 0),iv (c.se.getD 2 0),iv 0,iv 0,iv 0,iv c.val]) (new:=[iv (Rd.shI p.top (Ns.shT p.top (Ns.cntE p n f)) c.sh),iv (c.st.getD 0 0),iv (c.st.getD 1 0),iv (c.st.getD 2 0),iv (c.st.getD 3 0),iv (c.st.getD 4 0),iv (c.st.getD 5 0),iv (c.st.getD 6 0),iv (c.st.getD 7 0),iv (c.se.getD 0 0),iv (c.se.getD 1 0),iv (c.se.getD 2 0),iv (c.fa.getD 0 0),iv (c.fa.getD 1 0),iv (c.fa.getD 2 0),iv c.val]) c.fa (.tmp 119) (.tmp 121) rfl U24 (by kernel_rfl) (by kernel_rfl) (by kernel_rfl) (by kernel_rfl)) ⟨I0,I0,T0⟩ ⟨rfl,T0⟩ rfl (dE ?_)))))) (by kernel_rfl)
 show ETri J w0 _ _ _
 refine kW 124 [(2,.box 70 [iv 0,iv 0,iv 0,iv 0,iv 0,iv 0,iv 0,iv 0,iv 0,iv 0,iv 0,iv 0,iv 0,iv 0,iv 0,iv 0]),(4,.box 70 [iv (Rd.shI p.top (Ns.shT p.top (Ns.cntE p n f)) c.sh),iv (c.st.getD 0 0),iv (c.st.getD 1 0),iv (c.st.getD 2 0),iv (c.st.getD 3 0),iv (c.st.getD 4 0),iv (c.st.getD 5 0),iv (c.st.getD 6 0),iv (c.st.getD 7 0),iv (c.se.getD 0 0),iv (c.se.getD 1 0),iv (c.se.getD 2 0),iv (c.fa.getD 0 0),iv (c.fa.getD 1 0),iv (c.fa.getD 2 0),iv c.val])] [(4,.box 2 0),(5,bF),(10,.box 4 0)] (Zc (Zb (Za (oB (lS ([iv (Rd.shI p.top (Ns.shT p.top (Ns.cntE p n f)) c.sh),iv (c.st.getD 0 0),iv (c.st.getD 1 0),iv (c.st.getD 2 0),iv (c.st.getD 3 0),iv (c.st.getD 4 0),iv (c.st.getD 5 0),iv (c.st.getD 6 0),iv (c.st.getD 7 0),iv (c.se.getD 0 0),iv (c.se.getD 1 0),iv (c.se.getD 2 0),iv (c.fa.getD 0 0),iv (c.fa.getD 1 0),iv (c.fa.getD 2 0),iv c.val]) 16 10 U70) I0 rfl (ZM rfl (sB 16 4 (.tmp 123) (.agg [iv (Rd.shI p.top (Ns.shT p.top (Ns.cntE p n f)) c.sh),iv (c.st.getD 0 0),iv (c.st.getD 1 0),iv (c.st.getD 2 0),iv (c.st.getD 3 0),iv (c.st.getD 4 0),iv (c.st.getD 5 0),iv (c.st.getD 6 0),iv (c.st.getD 7 0),iv (c.se.getD 0 0),iv (c.se.getD 1 0),iv (c.se.getD 2 0),iv (c.fa.getD 0 0),iv (c.fa.getD 1 0),iv (c.fa.getD 2 0),iv c.val])) ⟨I0,I0,T0⟩ ⟨rfl,T0⟩ rfl (pM (aC (.bool true)) (Zd (Zc (Zl ?_)))))))))
 refine Yv Tryz.results47 (.cellS rfl rfl U70 rfl (z:=16) (by kernel_rfl) rfl (by decide)) (.tmp rfl) ?_
 rw [Int.sub_add_cancel] at hs10
 have hr:(Rd.rdX p n f c)=true:=by simp only [Rd.rdX,Rd.rdB,hs1,hs2,hs3,hs4,hs5,hs6,hs9,hs10,hs11,hs12,decide_true,decide_false,Bool.and_true,Bool.true_and,Bool.false_and,Bool.and_false,Bool.not_true,Bool.not_false,if_true,if_false,true_or,or_true,or_self,not_true_eq_false,not_false_eq_true,ite_true,ite_false,or_false,false_or]
 rw [show (Rd.rdY p n f c)=true from hr,hr]
 exact rfl
 have hs10f:(Rd.belB c.fa ((Rd.mfE p-1)+1))=false:=by simpa using hs10
 refine Za (oA (fb 4 3 U31 1) I0 (oB (lb (Ze c.fa) 75 U24) I0 rfl (oA (nS 76 U24) I0 (oA (fb 3 6 U27 1) I0 (oB (lb (ZD p.msgs) 78 U22) I0 rfl (oA (nS 79 U22) I0 (oC (Zv rfl (dT' hs9)) I0 I0 (pM (mT 81 bF) (gA (fb 4 3 U31 1) I0 (gB (lb (Ze c.fa) 83 U24) I0 rfl (qM (mT 9 (iv (Rd.mfE p-1))) (gC (ZZ (c:=(Rd.mfE p-1)+1) rfl (w64 (by omega) (by omega) (by omega))) I0 I0 (gD (sc #[.tmp 84,.tmp 86] [] (ZA (Kk c.fa (Nat.le_trans HC.lfa (by decide))) hs10f) [Ze c.fa,iv ((Rd.mfE p-1)+1)] rfl rfl rfl) I0 I0 I0 (gA (Zr rfl rfl) I0 (pP (pk false bT bT rfl) (Zd (Zc (Zm rfl (Zb (Za (ZM rfl (Kh [] #[.int .i64 0,.int .i64 0,.int .i64 0,.int .i64 0,.int .i64 0,.int .i64 0,.int .i64 0,.int .i64 0,.int .i64 0,.int .i64 0,.int .i64 0,.int .i64 0,.int .i64 0,.int .i64 0,.int .i64 0,.int .i64 0] rfl rfl (by kernel_rfl) rfl) T0 T0 T0 (ZM rfl (sB 16 4 (.tmp 90) (.agg [iv 0,iv 0,iv 0,iv 0,iv 0,iv 0,iv 0,iv 0,iv 0,iv 0,iv 0,iv 0,iv 0,iv 0,iv 0,iv 0])) ⟨I0,I0,T0⟩ ⟨rfl,T0⟩ rfl (pM (aC (.bool false)) ?_)))))))))))))))))))))))
 refine Zd (Zc (Zl (Zf ?_)))
 refine Yv Tryz.results47 (.cellS rfl rfl U70 rfl (z:=16) (by kernel_rfl) rfl (by decide)) (.tmp rfl) ?_
 rw [Int.sub_add_cancel] at hs10f
 have hr:(Rd.rdX p n f c)=false:=by simp only [Rd.rdX,Rd.rdB,hs1,hs2,hs3,hs4,hs5,hs6,hs9,hs10f,decide_true,decide_false,Bool.and_true,Bool.true_and,Bool.false_and,Bool.and_false,Bool.not_true,Bool.not_false,if_true,if_false,true_or,or_true,or_self,not_true_eq_false,not_false_eq_true,ite_true,ite_false,or_false,false_or]
 rw [show (Rd.rdY p n f c)=false from hr,hr]
 exact rfl
 refine Za (oA (fb 4 3 U31 1) I0 (oB (lb (Ze c.fa) 75 U24) I0 rfl (oA (nS 76 U24) I0 (oA (fb 3 6 U27 1) I0 (oB (lb (ZD p.msgs) 78 U22) I0 rfl (oA (nS 79 U22) I0 (oC (Zv rfl (dF' hs9)) I0 I0 (pM (mT 81 bT) (qK (qK (qK (qK (qK (qK (pP (pk true bT (.v (.tuple #[])) rfl) (Zd (Zc (Zm rfl (Zb (Za (ZM rfl (Kh [] #[.int .i64 0,.int .i64 0,.int .i64 0,.int .i64 0,.int .i64 0,.int .i64 0,.int .i64 0,.int .i64 0,.int .i64 0,.int .i64 0,.int .i64 0,.int .i64 0,.int .i64 0,.int .i64 0,.int .i64 0,.int .i64 0] rfl rfl (by kernel_rfl) rfl) T0 T0 T0 (ZM rfl (sB 16 4 (.tmp 90) (.agg [iv 0,iv 0,iv 0,iv 0,iv 0,iv 0,iv 0,iv 0,iv 0,iv 0,iv 0,iv 0,iv 0,iv 0,iv 0,iv 0])) ⟨I0,I0,T0⟩ ⟨rfl,T0⟩ rfl (pM (aC (.bool false)) ?_)))))))))))))))))))))))
 refine Zd (Zc (Zl (Zf ?_)))
 refine Yv Tryz.results47 (.cellS rfl rfl U70 rfl (z:=16) (by kernel_rfl) rfl (by decide)) (.tmp rfl) ?_
 have hr:(Rd.rdX p n f c)=false:=by simp only [Rd.rdX,Rd.rdB,hs1,hs2,hs3,hs4,hs5,hs6,hs9,decide_true,decide_false,Bool.and_true,Bool.true_and,Bool.false_and,Bool.and_false,Bool.not_true,Bool.not_false,if_true,if_false,true_or,or_true,or_self,not_true_eq_false,not_false_eq_true,ite_true,ite_false,or_false,false_or]
 rw [show (Rd.rdY p n f c)=false from hr,hr]
 exact rfl
 have hs6f:(Rd.belB c.se 1048577)=false:=by simpa using hs6
 refine Za (oA (fb 3 3 U31 1) I0 (oB (lb (Ze c.se) 53 U24) I0 rfl (oA (nS 54 U24) I0 (oA (fb 3 6 U27 1) I0 (oB (lb (ZD p.msgs) 56 U22) I0 rfl (oA (nS 57 U22) I0 (oC (Zv rfl (dT' hs5)) I0 I0 (pM (mT 59 bF) (gA (fb 3 3 U31 1) I0 (gB (lb (Ze c.se) 61 U24) I0 rfl (gD (sc #[.tmp 62,.const (.int .i64 1048577)] [] (ZA (Kk c.se (Nat.le_trans HC.lse (by decide))) hs6f) [Ze c.se,iv 1048577] rfl rfl rfl) I0 I0 I0 (gA (Zr rfl rfl) I0 (pP (pk false bT bT rfl) (Zd (Zc (Zm rfl (Zb (Za (ZM rfl (Kh [] #[.int .i64 0,.int .i64 0,.int .i64 0,.int .i64 0,.int .i64 0,.int .i64 0,.int .i64 0,.int .i64 0,.int .i64 0,.int .i64 0,.int .i64 0,.int .i64 0,.int .i64 0,.int .i64 0,.int .i64 0,.int .i64 0] rfl rfl (by kernel_rfl) rfl) T0 T0 T0 (ZM rfl (sB 16 4 (.tmp 66) (.agg [iv 0,iv 0,iv 0,iv 0,iv 0,iv 0,iv 0,iv 0,iv 0,iv 0,iv 0,iv 0,iv 0,iv 0,iv 0,iv 0])) ⟨I0,I0,T0⟩ ⟨rfl,T0⟩ rfl (pM (aC (.bool false)) (Zd (Zc ?_)))))))))))))))))))))))
 refine Zl (Zf ?_)
 refine Yv Tryz.results47 (.cellS rfl rfl U70 rfl (z:=16) (by kernel_rfl) rfl (by decide)) (.tmp rfl) ?_
 have hr:(Rd.rdX p n f c)=false:=by simp only [Rd.rdX,Rd.rdB,hs1,hs2,hs3,hs4,hs5,hs6f,decide_true,decide_false,Bool.and_true,Bool.true_and,Bool.false_and,Bool.and_false,Bool.not_true,Bool.not_false,if_true,if_false,true_or,or_true,or_self,not_true_eq_false,not_false_eq_true,ite_true,ite_false,or_false,false_or]
 rw [show (Rd.rdY p n f c)=false from hr,hr]
 exact rfl
 refine Za (oA (fb 3 3 U31 1) I0 (oB (lb (Ze c.se) 53 U24) I0 rfl (oA (nS 54 U24) I0 (oA (fb 3 6 U27 1) I0 (oB (lb (ZD p.msgs) 56 U22) I0 rfl (oA (nS 57 U22) I0 (oC (Zv rfl (dF' hs5)) I0 I0 (pM (mT 59 bT) (qK (qK (qK (qK (pP (pk true bT (.v (.tuple #[])) rfl) (Zd (Zc (Zm rfl (Zb (Za (ZM rfl (Kh [] #[.int .i64 0,.int .i64 0,.int .i64 0,.int .i64 0,.int .i64 0,.int .i64 0,.int .i64 0,.int .i64 0,.int .i64 0,.int .i64 0,.int .i64 0,.int .i64 0,.int .i64 0,.int .i64 0,.int .i64 0,.int .i64 0] rfl rfl (by kernel_rfl) rfl) T0 T0 T0 (ZM rfl (sB 16 4 (.tmp 66) (.agg [iv 0,iv 0,iv 0,iv 0,iv 0,iv 0,iv 0,iv 0,iv 0,iv 0,iv 0,iv 0,iv 0,iv 0,iv 0,iv 0])) ⟨I0,I0,T0⟩ ⟨rfl,T0⟩ rfl (pM (aC (.bool false)) (Zd (Zc ?_)))))))))))))))))))))))
 refine Zl (Zf ?_)
 refine Yv Tryz.results47 (.cellS rfl rfl U70 rfl (z:=16) (by kernel_rfl) rfl (by decide)) (.tmp rfl) ?_
 have hr:(Rd.rdX p n f c)=false:=by simp only [Rd.rdX,Rd.rdB,hs1,hs2,hs3,hs4,hs5,decide_true,decide_false,Bool.and_true,Bool.true_and,Bool.false_and,Bool.and_false,Bool.not_true,Bool.not_false,if_true,if_false,true_or,or_true,or_self,not_true_eq_false,not_false_eq_true,ite_true,ite_false,or_false,false_or]
 rw [show (Rd.rdY p n f c)=false from hr,hr]
 exact rfl
 refine Zs (dM (mT 8 bT) (dA (Zr rfl rfl) I0 (dM (mT 23 bF) (dA (fb 1 3 U31 1) I0 (dB (lb (Ze c.st) 25 U24) I0 rfl (dA (nS 26 U24) I0 (dM (mT 0 (.el (Ns.sysC p n t f) 0)) (dA (Zz (off:=0) (.tmp 28) rfl) I0 (dA (fe 13 29 U105 1) I0 (dA (lE (iv (Ns.cntE p n f)) 30 U3) I0 (dC (Zv rfl (dT' hs2)) I0 I0 (dP (pk false bT bF rfl) (dM (mT 33 bF) (dA (fb 1 3 U31 1) I0 (dB (lb (Ze c.st) 35 U24) I0 rfl (dA (fb 2 6 U27 1) I0 (dB (lb (ZD p.states) 37 U22) I0 rfl (dA (nS 38 U22) I0 (dD (sc #[.tmp 36,.tmp 39] [] (ZA (Kk c.st (Nat.le_trans HC.lst (by decide))) hs3) [Ze c.st,iv p.states.length] rfl rfl rfl) I0 I0 I0 (dA (Zr rfl rfl) I0 (dP (pk false bT bF rfl) (dM (mT 42 bF) (dA (fb 2 3 U31 1) I0 (dB (lb (iv c.cor) 44 U3) I0 rfl (dM (mT 0 (.el (Ns.sysC p n t f) 0)) (dA (Zz (off:=0) (.tmp 46) rfl) I0 (dA (fe 14 47 U105 1) I0 (dA (lE (iv (n-f)) 48 U3) I0 (dC (Zv rfl (dF' hs4)) I0 I0 (dP (pk false bT bT rfl) (dE ?_))))))))))))))))))))))))))))))) (by kernel_rfl)
 show ETri J w0 _ _ _
 refine kW 124 [(1,.box 31 (Rd.cCg c)),(2,.box 70 [iv 0,iv 0,iv 0,iv 0,iv 0,iv 0,iv 0,iv 0,iv 0,iv 0,iv 0,iv 0,iv 0,iv 0,iv 0,iv 0]),(3,.box 27 [sv p.nm,iv p.top,ZD p.states,ZD p.msgs,ZD p.vals,iv p.fault,slA 4 cLn p.res,Ze p.init,Ze p.leader,slA 18 cRu p.rules])] [(3,.box 1 0),(4,.box 2 0),(5,bF),(6,.box 3 0),(7,iv (Rd.shI p.top (Ns.shT p.top (Ns.cntE p n f)) c.sh)),(51,bT)] (Zc (Zm rfl (Zb (Za (ZM rfl (Kh [] #[.int .i64 0,.int .i64 0,.int .i64 0,.int .i64 0,.int .i64 0,.int .i64 0,.int .i64 0,.int .i64 0,.int .i64 0,.int .i64 0,.int .i64 0,.int .i64 0,.int .i64 0,.int .i64 0,.int .i64 0,.int .i64 0] rfl rfl (by kernel_rfl) rfl) T0 T0 T0 (ZM rfl (sB 16 4 (.tmp 52) (.agg [iv 0,iv 0,iv 0,iv 0,iv 0,iv 0,iv 0,iv 0,iv 0,iv 0,iv 0,iv 0,iv 0,iv 0,iv 0,iv 0])) ⟨I0,I0,T0⟩ ⟨rfl,T0⟩ rfl (pM (aC (.bool false)) (Zd (Zc (Zl (Zf ?_)))))))))))
 refine Yv Tryz.results47 (.cellS rfl rfl U70 rfl (z:=16) (by kernel_rfl) rfl (by decide)) (.tmp rfl) ?_
 have hr:(Rd.rdX p n f c)=false:=by simp only [Rd.rdX,Rd.rdB,hs1,hs2,hs3,hs4,decide_true,decide_false,Bool.and_true,Bool.true_and,Bool.false_and,Bool.and_false,Bool.not_true,Bool.not_false,if_true,if_false,true_or,or_true,or_self,not_true_eq_false,not_false_eq_true,ite_true,ite_false,or_false,false_or]
 rw [show (Rd.rdY p n f c)=false from hr,hr]
 exact rfl
 have hs3f:(Rd.belB c.st ((p.states.length:Nat):Int))=false:=by simpa using hs3
 refine Zs (dM (mT 8 bT) (dA (Zr rfl rfl) I0 (dM (mT 23 bF) (dA (fb 1 3 U31 1) I0 (dB (lb (Ze c.st) 25 U24) I0 rfl (dA (nS 26 U24) I0 (dM (mT 0 (.el (Ns.sysC p n t f) 0)) (dA (Zz (off:=0) (.tmp 28) rfl) I0 (dA (fe 13 29 U105 1) I0 (dA (lE (iv (Ns.cntE p n f)) 30 U3) I0 (dC (Zv rfl (dT' hs2)) I0 I0 (dP (pk false bT bF rfl) (dM (mT 33 bF) (dA (fb 1 3 U31 1) I0 (dB (lb (Ze c.st) 35 U24) I0 rfl (dA (fb 2 6 U27 1) I0 (dB (lb (ZD p.states) 37 U22) I0 rfl (dA (nS 38 U22) I0 (dD (sc #[.tmp 36,.tmp 39] [] (ZA (Kk c.st (Nat.le_trans HC.lst (by decide))) hs3f) [Ze c.st,iv p.states.length] rfl rfl rfl) I0 I0 I0 (dA (Zr rfl rfl) I0 (dP (pk false bT bT rfl) (dM (mT 42 bT) (dK (dK (dK (dK (dK (dK (dK (dP (pk true bT (.v (.tuple #[])) rfl) (dE ?_))))))))))))))))))))))))))))))) (by kernel_rfl)
 show ETri J w0 _ _ _
 refine kW 124 [(1,.box 31 (Rd.cCg c)),(2,.box 70 [iv 0,iv 0,iv 0,iv 0,iv 0,iv 0,iv 0,iv 0,iv 0,iv 0,iv 0,iv 0,iv 0,iv 0,iv 0,iv 0]),(3,.box 27 [sv p.nm,iv p.top,ZD p.states,ZD p.msgs,ZD p.vals,iv p.fault,slA 4 cLn p.res,Ze p.init,Ze p.leader,slA 18 cRu p.rules])] [(3,.box 1 0),(4,.box 2 0),(5,bF),(6,.box 3 0),(7,iv (Rd.shI p.top (Ns.shT p.top (Ns.cntE p n f)) c.sh)),(51,bT)] (Zc (Zm rfl (Zb (Za (ZM rfl (Kh [] #[.int .i64 0,.int .i64 0,.int .i64 0,.int .i64 0,.int .i64 0,.int .i64 0,.int .i64 0,.int .i64 0,.int .i64 0,.int .i64 0,.int .i64 0,.int .i64 0,.int .i64 0,.int .i64 0,.int .i64 0,.int .i64 0] rfl rfl (by kernel_rfl) rfl) T0 T0 T0 (ZM rfl (sB 16 4 (.tmp 52) (.agg [iv 0,iv 0,iv 0,iv 0,iv 0,iv 0,iv 0,iv 0,iv 0,iv 0,iv 0,iv 0,iv 0,iv 0,iv 0,iv 0])) ⟨I0,I0,T0⟩ ⟨rfl,T0⟩ rfl (pM (aC (.bool false)) (Zd (Zc (Zl (Zf ?_)))))))))))
 refine Yv Tryz.results47 (.cellS rfl rfl U70 rfl (z:=16) (by kernel_rfl) rfl (by decide)) (.tmp rfl) ?_
 have hr:(Rd.rdX p n f c)=false:=by simp only [Rd.rdX,Rd.rdB,hs1,hs2,hs3f,decide_true,decide_false,Bool.and_true,Bool.true_and,Bool.false_and,Bool.and_false,Bool.not_true,Bool.not_false,if_true,if_false,true_or,or_true,or_self,not_true_eq_false,not_false_eq_true,ite_true,ite_false,or_false,false_or]
 rw [show (Rd.rdY p n f c)=false from hr,hr]
 exact rfl
 refine Zs (dM (mT 8 bT) (dA (Zr rfl rfl) I0 (dM (mT 23 bF) (dA (fb 1 3 U31 1) I0 (dB (lb (Ze c.st) 25 U24) I0 rfl (dA (nS 26 U24) I0 (dM (mT 0 (.el (Ns.sysC p n t f) 0)) (dA (Zz (off:=0) (.tmp 28) rfl) I0 (dA (fe 13 29 U105 1) I0 (dA (lE (iv (Ns.cntE p n f)) 30 U3) I0 (dC (Zv rfl (dF' hs2)) I0 I0 (dP (pk false bT bT rfl) (dM (mT 33 bT) (dK (dK (dK (dK (dK (dK (dK (dP (pk true bT (.v (.tuple #[])) rfl) (dM (mT 42 bT) (dK (dK (dK (dK (dK (dK (dK (dP (pk true bT (.v (.tuple #[])) rfl) (dE ?_))))))))))))))))))))))))))))))) (by kernel_rfl)
 show ETri J w0 _ _ _
 refine kW 124 [(1,.box 31 (Rd.cCg c)),(2,.box 70 [iv 0,iv 0,iv 0,iv 0,iv 0,iv 0,iv 0,iv 0,iv 0,iv 0,iv 0,iv 0,iv 0,iv 0,iv 0,iv 0]),(3,.box 27 [sv p.nm,iv p.top,ZD p.states,ZD p.msgs,ZD p.vals,iv p.fault,slA 4 cLn p.res,Ze p.init,Ze p.leader,slA 18 cRu p.rules])] [(3,.box 1 0),(4,.box 2 0),(5,bF),(6,.box 3 0),(7,iv (Rd.shI p.top (Ns.shT p.top (Ns.cntE p n f)) c.sh)),(51,bT)] (Zc (Zm rfl (Zb (Za (ZM rfl (Kh [] #[.int .i64 0,.int .i64 0,.int .i64 0,.int .i64 0,.int .i64 0,.int .i64 0,.int .i64 0,.int .i64 0,.int .i64 0,.int .i64 0,.int .i64 0,.int .i64 0,.int .i64 0,.int .i64 0,.int .i64 0,.int .i64 0] rfl rfl (by kernel_rfl) rfl) T0 T0 T0 (ZM rfl (sB 16 4 (.tmp 52) (.agg [iv 0,iv 0,iv 0,iv 0,iv 0,iv 0,iv 0,iv 0,iv 0,iv 0,iv 0,iv 0,iv 0,iv 0,iv 0,iv 0])) ⟨I0,I0,T0⟩ ⟨rfl,T0⟩ rfl (pM (aC (.bool false)) (Zd (Zc (Zl (Zf ?_)))))))))))
 refine Yv Tryz.results47 (.cellS rfl rfl U70 rfl (z:=16) (by kernel_rfl) rfl (by decide)) (.tmp rfl) ?_
 have hr:(Rd.rdX p n f c)=false:=by simp only [Rd.rdX,Rd.rdB,hs1,hs2,decide_true,decide_false,Bool.and_true,Bool.true_and,Bool.false_and,Bool.and_false,Bool.not_true,Bool.not_false,if_true,if_false,true_or,or_true,or_self,not_true_eq_false,not_false_eq_true,ite_true,ite_false,or_false,false_or]
 rw [show (Rd.rdY p n f c)=false from hr,hr]
 exact rfl
 have hs1f:(Rd.shB p.top (Ns.shT p.top (Ns.cntE p n f)) c.sh)=false:=by simpa using hs1
 rw [hs1f]
 refine kW 124 [(1,.box 31 (Rd.cCg c)),(2,.box 70 [iv 0,iv 0,iv 0,iv 0,iv 0,iv 0,iv 0,iv 0,iv 0,iv 0,iv 0,iv 0,iv 0,iv 0,iv 0,iv 0]),(3,.box 27 [sv p.nm,iv p.top,ZD p.states,ZD p.msgs,ZD p.vals,iv p.fault,slA 4 cLn p.res,Ze p.init,Ze p.leader,slA 18 cRu p.rules])] [(0,.el (Ns.sysC p n t f) 0),(3,.box 1 0),(4,.box 2 0),(5,bF),(6,.box 3 0),(7,iv (Rd.shI p.top (Ns.shT p.top (Ns.cntE p n f)) c.sh)),(8,bF)] ?_
 refine Zs (dM (mT 8 bF) (dA (Zr rfl rfl) I0 (dM (mT 23 bT) (dK (dK (dK (dK (dK (dK (dK (dK (dP (pk true bT (.v (.tuple #[])) rfl) (dM (mT 33 bT) (dK (dK (dK (dK (dK (dK (dK (dP (pk true bT (.v (.tuple #[])) rfl) (dM (mT 42 bT) (dK (dK (dK (dK (dK (dK (dK (dP (pk true bT (.v (.tuple #[])) rfl) (dE ?_))))))))))))))))))))))))))))))) (by kernel_rfl)
 show ETri J w0 _ _ _
 refine kW 124 [(1,.box 31 (Rd.cCg c)),(2,.box 70 [iv 0,iv 0,iv 0,iv 0,iv 0,iv 0,iv 0,iv 0,iv 0,iv 0,iv 0,iv 0,iv 0,iv 0,iv 0,iv 0]),(3,.box 27 [sv p.nm,iv p.top,ZD p.states,ZD p.msgs,ZD p.vals,iv p.fault,slA 4 cLn p.res,Ze p.init,Ze p.leader,slA 18 cRu p.rules])] [(3,.box 1 0),(4,.box 2 0),(5,bF),(6,.box 3 0),(7,iv (Rd.shI p.top (Ns.shT p.top (Ns.cntE p n f)) c.sh)),(51,bT)] (Zc (Zm rfl (Zb (Za (ZM rfl (Kh [] #[.int .i64 0,.int .i64 0,.int .i64 0,.int .i64 0,.int .i64 0,.int .i64 0,.int .i64 0,.int .i64 0,.int .i64 0,.int .i64 0,.int .i64 0,.int .i64 0,.int .i64 0,.int .i64 0,.int .i64 0,.int .i64 0] rfl rfl (by kernel_rfl) rfl) T0 T0 T0 (ZM rfl (sB 16 4 (.tmp 52) (.agg [iv 0,iv 0,iv 0,iv 0,iv 0,iv 0,iv 0,iv 0,iv 0,iv 0,iv 0,iv 0,iv 0,iv 0,iv 0,iv 0])) ⟨I0,I0,T0⟩ ⟨rfl,T0⟩ rfl (pM (aC (.bool false)) (Zd (Zc (Zl (Zf ?_)))))))))))
 refine Yv Tryz.results47 (.cellS rfl rfl U70 rfl (z:=16) (by kernel_rfl) rfl (by decide)) (.tmp rfl) ?_
 have hr:(Rd.rdX p n f c)=false:=by simp only [Rd.rdX,Rd.rdB,hs1f,decide_true,decide_false,Bool.and_true,Bool.true_and,Bool.false_and,Bool.and_false,Bool.not_true,Bool.not_false,if_true,if_false,true_or,or_true,or_self,not_true_eq_false,not_false_eq_true,ite_true,ite_false,or_false,false_or]
 rw [show (Rd.rdY p n f c)=false from hr,hr]
 exact rfl
namespace En
def cfV (s:Int) (c:Cf):List AV :=
  [iv s,iv (c.st.getD 0 0),iv (c.st.getD 1 0),iv (c.st.getD 2 0),iv (c.st.getD 3 0),iv (c.st.getD 4 0),iv (c.st.getD 5 0),iv (c.st.getD 6 0),iv (c.st.getD 7 0),
   iv (c.se.getD 0 0),iv (c.se.getD 1 0),iv (c.se.getD 2 0),iv (c.fa.getD 0 0),iv (c.fa.getD 1 0),iv (c.fa.getD 2 0),iv c.val]
theorem plain_cfV (s:Int) (c:Cf):∀ X∈cfV s c,Plain X:=by
  intro X hX
  simp only [cfV,List.mem_cons,List.not_mem_nil,or_false] at hX
  rcases hX with rfl | rfl | rfl | rfl | rfl | rfl | rfl | rfl | rfl | rfl | rfl | rfl | rfl | rfl | rfl | rfl<;>exact .v _
theorem cfV_st {s:Int} {c:Cf} {k:Nat} (h:k<8):(cfV s c)[1+k*1]? = some (iv (c.st.getD k 0)):=by
  obtain rfl | rfl | rfl | rfl | rfl | rfl | rfl | rfl:k=0∨k=1∨k=2∨k=3∨k=4∨k=5∨k=6∨k=7:=by omega
  all_goals rfl
theorem cfV_fa {s:Int} {c:Cf} {k:Nat} (h:k<3):(cfV s c)[12+k*1]? = some (iv (c.fa.getD k 0)):=by
  obtain rfl | rfl | rfl:k=0∨k=1∨k=2:=by omega
  all_goals rfl
theorem cfV_row {s:Int} {c:Cf} (h:c.st.length≤8):((cfV s c).drop 1).take c.st.length=c.st.map iv:=by
  apply List.ext_getElem?
  intro j
  rw [List.getElem?_take]
  by_cases hj:j<c.st.length
  · rw [if_pos hj,List.getElem?_drop,List.getElem?_map,List.getElem?_eq_getElem hj,Option.map_some]
    have:=cfV_st (s:=s) (c:=c) (k:=j) (by omega)
    rw [Nat.mul_one,Ct.getD_at hj] at this
    exact this
  rw [if_neg hj,List.getElem?_map,List.getElem?_eq_none (by omega)];rfl
def hdV (p:Fm) (f:Int) (c:Cf) (m:Nat):Int:=if p.fault=1∨p.fault=2 then c.se.getD m 0+c.fa.getD m 0 else if p.fault=3 then c.se.getD m 0+f else c.se.getD m 0
def hdJ (p:Fm) (f:Int) (c:Cf) (j m:Nat):Int:=if m<j then hdV p f c m else c.se.getD m 0
def msA (g:Nat→Int):List AV:=midF [] 3 (fun m=>iv (g m)) []
theorem plain_msA (g:Nat→Int):∀ X∈msA g,Plain X:=by
  intro X hX
  unfold msA midF at hX
  rw [List.nil_append,List.append_nil] at hX
  obtain ⟨j,_,rfl⟩:=List.mem_map.1 hX;exact .v _
theorem msA_get {g:Nat→Int} {k:Nat} (h:k<3):(msA g)[0+k*1]? = some (iv (g k)):=midF_get (i:=k) h (by show 0+k=_;omega)
theorem msA_step {p:Fm} {f:Int} {c:Cf} {j:Nat} {x:Int} (h:j<3) (hx:x=hdV p f c j):setAll (msA (hdJ p f c j)) (0+j*1) [iv x]=msA (hdJ p f c (j+1)) :=
  midF_set (i:=j) h (by show 0+j=_;omega) (by unfold hdJ;rw [if_pos (by omega),hx]) fun k _ hne=>by
    refine congrArg iv ?_
    unfold hdJ
    by_cases a:k<j
    · rw [if_pos a,if_pos (by omega)]
    rw [if_neg a,if_neg (by omega)]
theorem hdJ_skip {p:Fm} {f:Int} {c:Cf} {j:Nat} (h1:¬ p.fault=1) (h2:¬ p.fault=2) (h3:¬ p.fault=3):hdJ p f c (j+1)=hdJ p f c j:=by
  funext k
  unfold hdJ
  by_cases a:k<j
  · rw [if_pos a,if_pos (by omega)]
  rw [if_neg a]
  by_cases b:k<j+1
  · rw [if_pos b];unfold hdV;rw [if_neg (by omega),if_neg h3]
  rw [if_neg b]
theorem hdJ_at {p:Fm} {f:Int} {c:Cf} {j:Nat}:hdJ p f c j j=c.se.getD j 0:=by unfold hdJ;rw [if_neg (by omega)]
theorem hd_12 {p:Fm} {f:Int} {c:Cf} {j:Nat} (h:p.fault=1∨p.fault=2):hdJ p f c j j+c.fa.getD j 0=hdV p f c j:=by rw [hdJ_at];unfold hdV;rw [if_pos h]
theorem hd_3 {p:Fm} {f:Int} {c:Cf} {j:Nat} (h:¬ p.fault=1) (h2:¬ p.fault=2) (h3:p.fault=3):hdJ p f c j j+f=hdV p f c j:=by rw [hdJ_at];unfold hdV;rw [if_neg (by omega),if_pos h3]
def hdG (p:Fm) (f:Int) (c:Cf) (fo:Bool):Nat→Int:=if fo=true then (if p.fault=1 then hdJ p f c p.msgs.length else fun m=>c.se.getD m 0) else hdJ p f c p.msgs.length
def isP (n:Nat) (i:Int):Bool:=decide (0≤i)&&decide (i<((n:Nat):Int))
def ptB (c:Cf) (r:Ru) (i:Nat) (k:Int):Bool:=if r.kind=2∨r.kind=5 then isP c.st.length k && !decide (k=((i:Nat):Int))&&decide (c.st.getD k.toNat 0=r.pf) else decide (k = -1)
def rdN (c:Cf) (r:Ru):Bool:=decide (0≤r.rd) && !decide (c.val=r.rd)
def gdN (n t f:Int) (g:Nat→Int) (q:Th):Bool:=decide (q.coef*g q.msg.toNat<evN q.bd.c q.bd.n q.bd.t q.bd.f n t f)
def faN (c:Cf) (r:Ru) (i j:Nat):Bool := !decide (j=i)&&(decide (0<r.fa.length) && !decide (c.st.getD j 0∈r.fa))
def exY (c:Cf) (r:Ru) (i j:Nat):Bool := !decide (j=i)&&decide (c.st.getD j 0∈r.ex)
def exU (c:Cf) (r:Ru) (i J:Nat):Bool:=decide (((r.ex.length:Nat):Int)=0)||(List.range J).any (exY c r i)
def noF (c:Cf) (r:Ru) (i J:Nat):Prop:=∀ j,j<J→faN c r i j=false
def loB (n t f:Int) (c:Cf) (r:Ru) (g:Nat→Int) (i:Nat):Bool := !rdN c r&&(!r.guards.any (gdN n t f g)&&(!(List.range c.st.length).any (faN c r i)&&exU c r i c.st.length))
theorem noF_zero {c:Cf} {r:Ru} {i:Nat}:noF c r i 0:=fun _ h=>absurd h (by omega)
theorem noF_succ {c:Cf} {r:Ru} {i J:Nat} (h:noF c r i J) (e:faN c r i J=false):noF c r i (J+1):=fun j hj=>by
  by_cases a:j=J
  · subst a;exact e
  exact h j (by omega)
theorem exU_zero {c:Cf} {r:Ru} {i:Nat}:exU c r i 0=decide (((r.ex.length:Nat):Int)=0):=by unfold exU;simp
theorem exU_succ {c:Cf} {r:Ru} {i J:Nat}:exU c r i (J+1)=(exU c r i J||exY c r i J):=by unfold exU;rw [List.range_succ,List.any_append];simp [Bool.or_assoc]
theorem exU_same {c:Cf} {r:Ru} {i J:Nat} (h:J=i):exU c r i (J+1)=exU c r i J:=by rw [exU_succ];unfold exY;rw [decide_eq_true h];simp
theorem exU_t {c:Cf} {r:Ru} {i J:Nat} (h:exU c r i J=true):exU c r i (J+1)=true:=by rw [exU_succ,h];rfl
theorem exU_f {c:Cf} {r:Ru} {i J:Nat} (hJ:J<c.st.length) (h:exU c r i J=false) (hne:¬ J=i):exU c r i (J+1)=decide (c.st[J]∈r.ex):=by rw [exU_succ,h];unfold exY;rw [decide_eq_false hne,Ct.getD_at hJ];rfl
theorem lo_rd {n t f:Int} {c:Cf} {r:Ru} {g:Nat→Int} {i:Nat} (h:rdN c r=true):loB n t f c r g i=false:=by unfold loB;rw [h];rfl
theorem lo_gd {n t f:Int} {c:Cf} {r:Ru} {g:Nat→Int} {i k:Nat} (hk:k<r.guards.length) (h:r.guards[k].coef*g r.guards[k].msg.toNat<gbV r n t f k):loB n t f c r g i=false:=by
  have:r.guards.any (gdN n t f g)=true:=by
    refine Rd.any_one hk ?_
    unfold gdN
    unfold gbV at h
    rw [List.getD_eq_getElem?_getD,List.getElem?_eq_getElem hk,Option.getD_some] at h
    exact decide_eq_true h
  unfold loB
  rw [this]
  simp
theorem gd_no {n t f:Int} {r:Ru} {g:Nat→Int} {k:Nat} (hk:k<r.guards.length) (h:¬ r.guards[k].coef*g r.guards[k].msg.toNat<gbV r n t f k):gdN n t f g r.guards[k]=false:=by
  unfold gdN
  unfold gbV at h
  rw [List.getD_eq_getElem?_getD,List.getElem?_eq_getElem hk,Option.getD_some] at h
  exact decide_eq_false h
theorem lo_fa {n t f:Int} {c:Cf} {r:Ru} {g:Nat→Int} {i j:Nat} (hj:j<c.st.length) (h:faN c r i j=true):loB n t f c r g i=false:=by
  have:(List.range c.st.length).any (faN c r i)=true:=List.any_eq_true.2 ⟨j,List.mem_range.2 hj,h⟩
  unfold loB
  rw [this]
  simp
theorem lo_ex {n t f:Int} {c:Cf} {r:Ru} {g:Nat→Int} {i k j:Nat} (h:rdN c r=false) (hk:¬ k<r.guards.length) (h2:Rd.noP r.guards (gdN n t f g) k) (hj:¬ j<c.st.length) (hjl:j≤c.st.length) (h3:noF c r i j):loB n t f c r g i=exU c r i j:=by
  obtain rfl:j=c.st.length:=by omega
  have h4:(List.range c.st.length).any (faN c r i)=false:=List.any_eq_false.2 fun x hx=>by
    have:=h3 x (List.mem_range.1 hx)
    simp [this]
  unfold loB
  rw [h,Rd.any_none hk h2,h4]
  rfl
theorem fa_same {c:Cf} {r:Ru} {i j:Nat} (h:j=i):faN c r i j=false:=by unfold faN;rw [decide_eq_true h];rfl
theorem fa_none {c:Cf} {r:Ru} {i j:Nat} (h:¬ 0<((r.fa.length:Nat):Int)):faN c r i j=false:=by unfold faN;rw [decide_eq_false (show ¬ 0<r.fa.length by omega)];simp
theorem fa_in {c:Cf} {r:Ru} {i j:Nat} (hj:j<c.st.length) (h:decide (c.st[j]∈r.fa)=true):faN c r i j=false:=by unfold faN;rw [Ct.getD_at hj,h];simp
theorem fa_out {c:Cf} {r:Ru} {i j:Nat} (hj:j<c.st.length) (hne:¬ j=i) (h0:0<((r.fa.length:Nat):Int)) (h:decide (c.st[j]∈r.fa)=false):faN c r i j=true:=by
  unfold faN;rw [Ct.getD_at hj,h,decide_eq_false hne,decide_eq_true (show 0<r.fa.length by omega)];rfl
def lkP (top:Int) (sh:List Int) (n i:Nat):Int:=if top=4 then (trun sh sh.length).pa i else (rowL top n i).2.2
def fitB (c:Cf) (w:Int) (l:List Int):Bool:=decide (((l.length:Nat):Int)=0)||(decide (0≤w)&&decide (c.st.getD w.toNat 0∈l))
def nbB (top:Int) (c:Cf) (r:Ru) (i:Nat):Bool :=
  !(decide (r.pos=1) && !decide (((i:Nat):Int)=0))&&(!(decide (r.pos=2)&&decide (0≤Jd.lkS top c.sh c.st.length i)) &&
    (fitB c (Jd.lkF top c.sh c.st.length i) r.left&&(fitB c (Jd.lkS top c.sh c.st.length i) r.right&&fitB c (lkP top c.sh c.st.length i) r.parent)))
def psB (top:Int) (c:Cf) (r:Ru) (i:Nat) (k:Int):Bool :=
  if r.dir=1 then decide (k=Jd.lkS top c.sh c.st.length i) else if r.dir=2 then decide (k=Jd.lkF top c.sh c.st.length i)
  else if r.dir=3 then decide (k=Jd.lkF top c.sh c.st.length i)||decide (k=Jd.lkS top c.sh c.st.length i) else decide (k=lkP top c.sh c.st.length i)
def enR (top n t f:Int) (c:Cf) (g:Nat→Int) (r:Ru) (i:Nat) (k:Int):Bool :=
  decide (c.st.getD i 0=r.frm)&&(ptB c r i k&&(if r.kind=1 then loB n t f c r g i else if r.kind=4 then nbB top c r i else if r.kind=5 then psB top c r i k else decide (r.rd<0)||decide (c.val=r.rd)))
def enB (p:Fm) (n t f:Int) (c:Cf) (g:Nat→Int) (x y k:Int):Bool :=
  isP p.rules.length x&&(isP c.st.length y&&enR p.top n t f c g (p.rules.getD x.toNat default) y.toNat k)
theorem lk_el {top:Int} {sh:List Int} {n i:Nat} (h:i<n):(((List.range (n*3)).map fun j=>iv (Jd.lkC top sh n j)).drop (i*3)).take 3=[iv (Jd.lkF top sh n i),iv (Jd.lkS top sh n i),iv (lkP top sh n i)]:=by
  have e2:Jd.lkC top sh n (i*3+2)=lkP top sh n i:=by
    unfold Jd.lkC lkP
    rw [if_neg (by omega),if_neg (by omega),show (i*3+2) / 3=i by omega,show (((i*3+2:Nat):Int)) / 3=((i:Nat):Int) by omega]
  apply List.ext_getElem?
  intro j
  rw [List.getElem?_take]
  by_cases hj:j<3
  · rw [if_pos hj,List.getElem?_drop,List.getElem?_map,List.getElem?_range (by omega),Option.map_some]
    obtain rfl | rfl | rfl:j=0∨j=1∨j=2:=by omega
    · rw [Nat.add_zero,Jd.lkC_F];rfl
    · rw [Jd.lkC_S];rfl
    rw [e2];rfl
  rw [if_neg hj,List.getElem?_eq_none (by simp;omega)]
theorem links_at {top:Int} {c:Cf} {n:Nat} {s:Int} (hs:(shS top n)[s.toNat]? = some c.sh) (hn:n=c.st.length):((shS top n).flatMap (cLkS top n))[s.toNat*1]? = some (Jd.lkA top c.sh c.st.length):=by
  obtain ⟨h1,h2⟩:=List.getElem?_eq_some_iff.1 hs
  have:=ZH (z:=1) (f:=cLkS top n) (fun _=>rfl) (shS top n) s.toNat 0 h1 (by decide)
  rw [Nat.add_zero] at this
  rw [this,h2,← hn]
  rfl
theorem mulW {a b:Int} (h1:1≤a) (h2:a≤100) (h3:0≤b) (h4:b≤3000000):IntKind.i64.wrap (a*b)=a*b:=by
  have h5:0≤a*b:=Int.mul_nonneg (by omega) h3
  have h6:a*b≤100*3000000:=Int.mul_le_mul h2 h4 h3 (by omega)
  exact w64 rfl (by omega) (by omega)
structure RuV (p:Fm) (r:Ru):Prop where
  kd:1≤r.kind∧r.kind≤5
  kt:r.kind≤3↔p.top=1
  gd:∀ g∈r.guards,0≤g.msg∧g.msg<p.msgs.length∧1≤g.coef∧g.coef≤100
  gl:r.guards.length≤2
  rd:r.rd = -1∨(0≤r.rd∧r.rd<p.vals.length)
  wr:r.wr = -1∨(0≤r.wr∧r.wr<p.vals.length)
  em:¬ r.kind=1→¬ r.kind=2→¬ r.kind=3→r.rd = -1∧r.wr = -1
  po:r.kind=4→r.pos≠0→p.top≠3
  pi:r.kind=4→0≤r.pos∧r.pos≤2
  dr:r.kind=5→(p.top=4→r.dir=3∨r.dir=4)∧(p.top≠4→r.dir=1∨r.dir=2)
  tf:(0≤r.to∧r.to<p.states.length)∧(0≤r.frm∧r.frm<p.states.length)
  pt:r.kind=2∨r.kind=5→0≤r.pt∧r.pt<p.states.length
  re:r.kind=3→r.resp.length=p.states.length∧∀ x∈r.resp,0≤x∧x<p.states.length
  se:∀ x∈r.send,0≤x∧x<p.msgs.length
  sk:¬ r.kind=1→r.send=[]
theorem ix_in {n:Nat} {x:Int} (h:ixB n x=true):0≤x∧x<n:=by
  unfold ixB inB at h
  simp only [Bool.and_eq_true,decide_eq_true_eq] at h
  omega
theorem set_in {n:Nat} {xs:List Int} (h:setE n xs=0):∀ x∈xs,0≤x∧x<n:=by
  unfold setE at h
  split at h
  · cases h
  rename_i h1
  intro x hx
  simp only [Bool.not_eq_false,allK,List.take_length,List.all_eq_true] at h1
  exact ix_in (h1 x hx)
theorem gus_in {n:Nat}:∀ {gs:List Th},gusE n gs=0→∀ g∈gs,guE n g=0
  | [],_,g,hg=>by cases hg
  | a::l,h,g,hg=>by
    unfold gusE at h
    split at h
    · rename_i h1
      rcases List.mem_cons.1 hg with rfl | hg
      · exact h1
      exact gus_in h g hg
    rename_i h1;exact absurd h h1
theorem gu_in {n:Nat} {g:Th} (h:guE n g=0):0≤g.msg∧g.msg<n∧1≤g.coef∧g.coef≤100:=by
  unfold guE at h
  split at h
  · cases h
  rename_i h1
  split at h
  · cases h
  rename_i h2
  have h3:=ix_in (by simpa using h1)
  unfold inB at h2
  simp only [Bool.not_eq_false,Bool.and_eq_true,decide_eq_true_eq] at h2
  omega
theorem sh_in {n:Nat} {a b:Int} (h:shE n a b=0):(a = -1∨(0≤a∧a<n))∧(b = -1∨(0≤b∧b<n)):=by
  unfold shE at h
  split at h
  · cases h
  rename_i h1
  simp only [not_or,not_and,Bool.not_eq_false] at h1
  constructor
  · by_cases e:a = -1
    · exact .inl e
    exact .inr (ix_in (h1.1 e))
  by_cases e:b = -1
  · exact .inl e
  exact .inr (ix_in (h1.2 e))
theorem val_rule {p:Fm} (h:valE p=0) {r:Ru} (hr:r∈p.rules):∃ i,rruleE p i r=0:=by
  unfold valE at h
  split at h
  · cases h
  split at h
  · cases h
  split at h
  · cases h
  rename_i hst
  split at h
  · cases h
  split at h
  · cases h
  split at h
  · cases h
  split at h
  · cases h
  have a3:=Z4 (Z4 (Z4 h).2).2
  obtain ⟨j,hj,rfl⟩:=List.getElem_of_mem hr
  have:=Ns.rulesE_all _ _ a3.1 j (Nat.zero_le _) (by omega)
  rw [List.getD_eq_getElem?_getD,List.getElem?_eq_getElem hj,Option.getD_some] at this
  exact ⟨j,by rw [← rule_eq p j _ (fun e=>hst (by rw [e];rfl))];exact this⟩
theorem rule_in {p:Fm} {r:Ru} {i:Nat} (h:rruleE p i r=0):RuV p r:=by
  unfold rruleE at h
  split at h
  · cases h
  split at h
  · cases h
  rename_i h1
  split at h
  · cases h
  rename_i h2
  have hk:rkindB r p.top=true:=by simpa using h1
  unfold rkindB at hk
  rw [Bool.and_eq_true,Bool.and_eq_true] at hk
  obtain ⟨⟨k1,k2⟩,k3⟩:=hk
  have E:=(unused_emp r p.top).1 (by simpa using k3)
  have hs:rstB r p.states.length=true:=by simpa using h2
  unfold rstB at hs
  rw [Bool.and_eq_true,Bool.and_eq_true] at hs
  obtain ⟨⟨s1,s2⟩,s3⟩:=hs
  unfold inB at k1
  simp only [Bool.and_eq_true,decide_eq_true_eq] at k1
  have k2':r.kind≤3↔p.top=1:=by
    have:=eq_of_beq k2
    exact decide_eq_decide.1 this
  unfold rpartE at h
  have a0:=Z4 h
  have a1:=Z4 a0.2
  have a2:=Z4 a1.2
  have a3:=Z4 a2.2
  have a4:=Z4 a3.2
  have a5:=Z4 a4.2
  have a6:=Z4 a5.2
  have a7:=Z4 a6.2
  have a8:=Z4 a7.2
  have a9:=Z4 a8.2
  have hg:=a1.1
  unfold guardE at hg
  refine ⟨k1,k2',fun g hgm => ?_,?_,(sh_in a4.1).1,(sh_in a4.1).2,fun n1 n2 n3=>E.s n1 n2 n3,fun k4 hp => ?_,fun k4 => ?_,fun k5 => ?_,⟨ix_in s2,ix_in s1⟩,fun hpp => ?_,fun k3 => ?_,set_in a5.1,fun n1=>(E.g n1).2.2.2⟩
  · split at hg
    · rename_i g0
      exact gu_in (gus_in g0 g hgm)
    rename_i g0;exact absurd hg g0
  · split at hg
    · split at hg
      · cases hg
      omega
    rename_i g0;exact absurd hg g0
  · have hpo:=a9.1
    rw [if_pos k4] at hpo
    unfold posE at hpo
    split at hpo
    · cases hpo
    rename_i hq
    intro h3
    exact hq (.inr ⟨hp,h3⟩)
  · have hpo:=a9.1
    rw [if_pos k4] at hpo
    unfold posE at hpo
    split at hpo
    · cases hpo
    rename_i hq
    have hq1:inB 0 2 r.pos=true:=by
      cases e:inB 0 2 r.pos with
      | true=>rfl
      | false=>exact absurd (.inl e) hq
    unfold inB at hq1
    simpa using hq1
  · have hd:=a9.2
    rw [if_pos k5] at hd
    unfold dirE at hd
    constructor
    · intro h4
      rw [if_pos h4] at hd
      split at hd
      · assumption
      cases hd
    intro h4
    rw [if_neg h4] at hd
    split at hd
    · assumption
    cases hd
  · rw [Bool.or_eq_true] at s3
    rcases s3 with s3 | s3
    · rw [Bool.not_eq_true',Bool.or_eq_false_iff,decide_eq_false_iff_not,decide_eq_false_iff_not] at s3
      omega
    rw [Bool.and_eq_true] at s3
    exact ix_in s3.2
  have hre:=a0.1
  rw [if_pos k3] at hre
  unfold reE at hre
  split at hre
  · cases hre
  rename_i hl
  split at hre
  · cases hre
  rename_i h5
  refine ⟨by simpa using hl,fun x hx => ?_⟩
  simp only [Bool.not_eq_false,allK,List.take_length,List.all_eq_true] at h5
  exact ix_in (h5 x hx)
theorem val_in {p:Fm} (h:valE p=0) {r:Ru} (hr:r∈p.rules):RuV p r:=by
  obtain ⟨i,h⟩:=val_rule h hr
  exact rule_in h
theorem val_sizes {p:Fm} (h:valE p=0):p.rules.length≤8∧p.states.length≤6∧p.msgs.length≤3∧p.vals.length≤3:=by
  unfold valE at h
  split at h
  · cases h
  split at h
  · cases h
  split at h
  · cases h
  split at h
  · cases h
  rename_i g
  exact too_rules (by simpa using g)
structure CfV (p:Fm) (n f:Int) (c:Cf):Prop where
  ln:((c.st.length:Nat):Int)=Ns.cntE p n f
  st:∀ x∈c.st,0≤x∧x<p.states.length
  co:c.cor=n-f
  ls:c.se.length=p.msgs.length
  se:∀ x∈c.se,0≤x∧x≤1048576
  lf:c.fa.length=p.msgs.length
  fa:∀ x∈c.fa,0≤x∧x≤1048576
  fz:¬ p.fault=1→¬ p.fault=2→∀ x∈c.fa,x=0
  va:0≤c.val∧c.val<max ((p.vals.length:Nat):Int) 1
  sh:Rd.shB p.top (Ns.shT p.top (Ns.cntE p n f)) c.sh=true
theorem bel_in {xs:List Int} {m:Int} (h:Rd.belB xs m=true):∀ x∈xs,0≤x∧x<m:=by
  intro x hx
  unfold Rd.belB at h
  rw [Bool.not_eq_true',List.any_eq_false] at h
  have:=h x hx
  unfold Rd.outB at this
  simp only [Bool.or_eq_true,decide_eq_true_eq,not_or] at this
  omega
theorem cf_in {p:Fm} {n f:Int} {c:Cf} (h:Rd.rdX p n f c=true):CfV p n f c:=by
  unfold Rd.rdX Rd.rdB at h
  simp only [Bool.and_eq_true,Bool.not_eq_true',decide_eq_true_eq,decide_eq_false_iff_not] at h
  obtain ⟨⟨⟨⟨⟨⟨⟨⟨⟨h1,h2⟩,h3⟩,h4⟩,h5⟩,h6⟩,h7⟩,h8⟩,h9⟩,h10⟩:=h
  have hm:=Rd.mf_in p
  refine ⟨h2,bel_in h3,h4,by omega,fun x hx => ?_,by omega,fun x hx => ?_,fun n1 n2 x hx => ?_,by omega,h1⟩
  · have:=bel_in h6 x hx;omega
  · have:=bel_in h8 x hx;omega
  have:=bel_in h8 x hx
  unfold Rd.mfE at this
  rw [if_neg (by omega)] at this
  omega
theorem CfV.se_at {p:Fm} {n f:Int} {c:Cf} (h:CfV p n f c) (m:Nat):0≤c.se.getD m 0∧c.se.getD m 0≤1048576:=by
  by_cases hm:m<c.se.length
  · rw [Ct.getD_at hm];exact h.se _ (List.getElem_mem hm)
  rw [List.getD_eq_getElem?_getD,List.getElem?_eq_none (by omega)];exact ⟨by decide,by decide⟩
theorem CfV.fa_at {p:Fm} {n f:Int} {c:Cf} (h:CfV p n f c) (m:Nat):0≤c.fa.getD m 0∧c.fa.getD m 0≤1048576:=by
  by_cases hm:m<c.fa.length
  · rw [Ct.getD_at hm];exact h.fa _ (List.getElem_mem hm)
  rw [List.getD_eq_getElem?_getD,List.getElem?_eq_none (by omega)];exact ⟨by decide,by decide⟩
theorem hdV_in {p:Fm} {n f:Int} {c:Cf} (h:CfV p n f c) (hf:0≤f∧f≤1048576) (m:Nat):0≤hdV p f c m∧hdV p f c m≤3000000:=by
  have h1:=h.se_at m
  have h2:=h.fa_at m
  unfold hdV
  split
  · omega
  split<;>omega
theorem hdJ_in {p:Fm} {n f:Int} {c:Cf} (h:CfV p n f c) (hf:0≤f∧f≤1048576) (j m:Nat):0≤hdJ p f c j m∧hdJ p f c j m≤3000000:=by
  have h1:=h.se_at m
  have h2:=hdV_in h hf m
  unfold hdJ
  split
  · exact h2
  omega
theorem hdG_in {p:Fm} {n f:Int} {c:Cf} (h:CfV p n f c) (hf:0≤f∧f≤1048576) (fo:Bool) (m:Nat):0≤hdG p f c fo m∧hdG p f c fo m≤3000000:=by
  have h1:=h.se_at m
  have h2:=hdJ_in h hf p.msgs.length m
  unfold hdG
  split
  · split
    · exact h2
    dsimp only;omega
  exact h2
theorem shI_at {p:Fm} {n f:Int} {c:Cf} (h:CfV p n f c) (h1:¬ p.top=1) (ht:1≤p.top∧p.top≤4) (h0:0≤Ns.cntE p n f):0≤Rd.shI p.top (Ns.shT p.top (Ns.cntE p n f)) c.sh∧Rd.shI p.top (Ns.shT p.top (Ns.cntE p n f)) c.sh<(((shS p.top (Ns.cntE p n f).toNat).length:Nat):Int)∧(shS p.top (Ns.cntE p n f).toNat)[(Rd.shI p.top (Ns.shT p.top (Ns.cntE p n f)) c.sh).toNat]? = some c.sh:=by
  have hs:=h.sh
  obtain ⟨m,hm⟩:=Int.eq_ofNat_of_zero_le h0
  rw [hm] at hs ⊢
  rw [Int.toNat_natCast]
  by_cases h4:p.top=4
  · rw [Rd.shB_tree h4,decide_eq_true_iff] at hs
    rw [Rd.shI_tree h4]
    unfold shS
    rw [if_pos h4]
    rw [Ns.shT_tree h4] at hs ⊢
    rw [Int.max_eq_left hs]
    unfold Rd.ixP at hs ⊢
    split
    · rename_i i hi
      obtain ⟨a,b,_⟩:=List.findIdx?_eq_some_iff_getElem.1 hi
      refine ⟨by omega,by omega,?_⟩
      rw [Int.toNat_natCast,List.getElem?_eq_getElem a]
      have:=of_decide_eq_true b
      rw [this]
    rename_i hi
    rw [hi] at hs
    exact absurd hs (by decide)
  rw [Rd.shB_no h4,decide_eq_true_iff] at hs
  rw [Rd.shI_no h4]
  unfold shS
  rw [if_neg h4,if_pos (by omega)]
  have:c.sh=[]:=List.eq_nil_of_length_eq_zero (by omega)
  rw [this]
  exact ⟨by decide,by decide,rfl⟩
theorem sh_tree {p:Fm} {n f:Int} {c:Cf} (h:CfV p n f c) (h4:p.top=4):isShp c.sh ((c.st.length:Nat):Int)=true:=by
  have hs:=h.sh
  have hl:=h.ln
  rw [Rd.shB_tree h4,decide_eq_true_iff,Ns.shT_tree h4,← hl] at hs
  unfold Rd.ixP at hs
  split at hs
  · rename_i i hi
    obtain ⟨a,b,_⟩:=List.findIdx?_eq_some_iff_getElem.1 hi
    have e:=of_decide_eq_true b
    have:=shX_is _ (List.getElem_mem a)
    rw [← e] at this
    unfold isShp
    rw [this.2,decide_eq_true (by omega)];rfl
  exact absurd hs (by decide)
theorem lk_ok {p:Fm} {n f:Int} {c:Cf} (h:CfV p n f c) (h1:¬ p.top=1) (ht:1≤p.top∧p.top≤4) {i:Nat} (hi:i<c.st.length):Jd.lkF p.top c.sh c.st.length i<((c.st.length:Nat):Int)∧Jd.lkS p.top c.sh c.st.length i<((c.st.length:Nat):Int)∧lkP p.top c.sh c.st.length i<((c.st.length:Nat):Int):=by
  by_cases h4:p.top=4
  · have hs:=sh_tree h h4
    unfold isShp at hs
    simp only [Bool.and_eq_true,decide_eq_true_eq] at hs
    have hl:c.sh.length=c.st.length:=by omega
    have:=Jd.lk_tree hs.2 i (by omega)
    rw [h4,← hl]
    refine ⟨this.1,this.2,?_⟩
    unfold lkP
    rw [if_pos rfl]
    rcases (tree_ok c.sh hs.2).1.par i (by omega) with e | ⟨q,hq,e,_⟩<;>omega
  have:=Jd.lk_row (sh:=c.sh) (n:=c.st.length) (show p.top=2∨p.top=3 by omega) i hi
  refine ⟨this.1,this.2,?_⟩
  unfold lkP
  rw [if_neg h4]
  unfold rowL
  dsimp only
  omega
end En
def Rd.rdW (p:Fm) (n t f:Int) (c:Cf):Bool:=decide (Ns.sysE p n t f=0)&&Rd.rdX p n f c
set_option maxRecDepth 100000 in
set_option maxHeartbeats 6400000 in
theorem open_err {p:Fm} (HP:FmOk p) {n t f:Int} {c:Cf} (HC:Rd.CgOk c) (hs:¬ Ns.sysE p n t f=0):Ctr Tryz.prog J 26 [.agg (cFm p),.agg (cSz n t f),.agg (Rd.cCg c)] (.tup [.any,.agg (Rd.cfZ (Rd.rdW p n t f c) (Rd.shI p.top (Ns.shT p.top (Ns.cntE p n f)) c.sh) c),iv (Rd.vcE p n t f c)]):=by
 refine Zw Tryz.func26 rfl (by intro X hX;simp only [List.mem_cons,List.not_mem_nil,or_false] at hX;rcases hX with rfl | rfl | rfl;exact Zq (Z9 p);exact Zq (Yi n t f);exact Zq (Rd.plain_cg c)) (n:=34) rfl (by simp) (fun w0 => ?_)
 refine kW 34 [] [(0,.agg (cFm p)),(1,.agg (cSz n t f)),(2,.agg (Rd.cCg c))] (Zb (Za (ZM rfl (ZT (X := .agg (cFm p)) (k:=1) (.tmp 0) rfl rfl) ⟨I0,T0⟩ T0 rfl (ZM rfl (ZT (X := .agg (cSz n t f)) (k:=2) (.tmp 1) rfl rfl) ⟨I0,T0⟩ T0 rfl (ZM rfl (ZT (X := .agg (Rd.cCg c)) (k:=3) (.tmp 2) rfl rfl) ⟨I0,T0⟩ T0 rfl (pM (Yw (.const (.pointer none)) (.v (.pointer none)) rfl) (ZM rfl (Yl (z := .agg #[.int .i64 0,.int .i64 0,.int .i64 0,.int .i64 0,.int .i64 0,.int .i64 0,.int .i64 0,.int .i64 0,.int .i64 0,.int .i64 0,.int .i64 0,.int .i64 0,.int .i64 0,.int .i64 0,.int .i64 0,.int .i64 0]) (k:=4) rfl (by kernel_rfl)) T0 T0 rfl (pM (aC (.int .i64 0)) (Zd (Zc (Zb (Za (oB (lS (cFm p) 10 3 U27) I0 rfl (oB (lS (cSz n t f) 3 4 U29) I0 rfl (oD (sp_callA (c := .func 46) (xs := #[.tmp 14,.tmp 15]) (newSystem_err HP hs) rfl (by kernel_rfl) rfl (Xs:=[.agg (cFm p),.agg (cSz n t f)]) rfl rfl) I0 I0 I0 (pM (mT 16 (.tup [.v (.pointer none),iv (Ns.sysE p n t f)])) (oA (ZQ (X := .v (.pointer none)) (.tmp 13) rfl rfl) I0 (oA (ZQ (X:=iv (Ns.sysE p n t f)) (.tmp 13) rfl rfl) I0 (pM (aT 17 (.v (.pointer none))) (pM (aT 18 (iv (Ns.sysE p n t f))) (Zd (Zc (Zb ?_)))))))))))))))))))))))
 refine Zb (Za (pM (mT 10 (iv (Ns.sysE p n t f))) (oC (Zv rfl (dF' hs)) I0 I0 (Zd (Zc (Zm rfl (Zb (Za (ZM rfl (Kh [] #[.int .i64 0,.int .i64 0,.int .i64 0,.int .i64 0,.int .i64 0,.int .i64 0,.int .i64 0,.int .i64 0,.int .i64 0,.int .i64 0,.int .i64 0,.int .i64 0,.int .i64 0,.int .i64 0,.int .i64 0,.int .i64 0] rfl rfl (by kernel_rfl) rfl) T0 T0 T0 (pM (mT 10 (iv (Ns.sysE p n t f))) (pM (Yw (.const (.pointer none)) (.v (.pointer none)) rfl) (ZM rfl (sB 16 7 (.tmp 21) (.agg [iv 0,iv 0,iv 0,iv 0,iv 0,iv 0,iv 0,iv 0,iv 0,iv 0,iv 0,iv 0,iv 0,iv 0,iv 0,iv 0])) ⟨I0,I0,T0⟩ ⟨rfl,T0⟩ rfl (pM (aT 22 (iv (Ns.sysE p n t f))) (Zd (Zc (Zl (Zf (kW 34 [(3,.box 31 (Rd.cCg c)),(4,.box 70 [iv 0,iv 0,iv 0,iv 0,iv 0,iv 0,iv 0,iv 0,iv 0,iv 0,iv 0,iv 0,iv 0,iv 0,iv 0,iv 0])] [(5,.box 3 0),(7,.box 4 0),(8,iv (Ns.sysE p n t f)),(9,.v (.pointer none))] ?_))))))))))))))))))
 refine Kt Tryz.results26 (.tmp rfl) (.cellS rfl rfl U70 rfl (z:=16) (by kernel_rfl) rfl (by decide)) (.tmp rfl) ?_
 have hw:(Rd.rdW p n t f c)=false:=by unfold Rd.rdW;rw [decide_eq_false hs];rfl
 have hr:Rd.vcE p n t f c=Ns.sysE p n t f:=by unfold Rd.vcE;rw [if_neg hs]
 rw [hw,hr]
 exact rfl
end Go.Proofs.YtmobmhgobpipkaaGreat
