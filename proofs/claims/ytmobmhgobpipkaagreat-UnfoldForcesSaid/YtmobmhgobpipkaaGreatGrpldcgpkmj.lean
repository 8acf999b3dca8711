import Derived.Test.YtmobmhgobpipkaaGreatGrpaahfeipb
import Derived.Test.YtmobmhgobpipkaaGreatGrpmeogbljb
import Derived.Test.YtmobmhgobpipkaaGreatGrpngaglejp
import Derived.Test.YtmobmhgobpipkaaGreatGrpibegefhb
set_option linter.all false
namespace Go.Proofs.YtmobmhgobpipkaaGreat
open Go.RowKit Go.Deep
variable {J:World→Prop}
theorem En.lo_gdr {n t f:Int} {c:Cf} {r:Ru} {g:Nat→Int} {i k:Nat} (hk:k<r.guards.length) (h:r.guards[k].coef*g r.guards[k].msg.toNat<evN r.guards[k].bd.c r.guards[k].bd.n r.guards[k].bd.t r.guards[k].bd.f n t f):En.loB n t f c r g i=false:=by
  refine En.lo_gd hk ?_
  unfold En.gbV
  rw [List.getD_eq_getElem?_getD,List.getElem?_eq_getElem hk,Option.getD_some]
  exact h
set_option maxRecDepth 100000 in
set_option maxHeartbeats 6400000 in
theorem rlocal_c {p:Fm} (HL:FamLen p) {n t f:Int} {c:Cf} (HC:Rd.CgOk c) (hc:En.CfV p n f c) (hf:0≤f∧f≤1048576) {r:Nat} (hr:r<p.rules.length) (R:En.RuV p p.rules[r]) {i:Nat} {fo:Bool} (hrd:En.rdN c p.rules[r]=false):Ctr Tryz.prog J 57 [.agg (cFm p),.agg (cSz n t f),.agg (Rd.cCg c),.agg (cRu p.rules[r]),iv i,bv fo] (bv (En.loB n t f c p.rules[r] (En.hdG p f c fo) i)):=by
 have hle:_≤9223372036854775807:=Nat.le_trans (HL.rules _ (List.getElem_mem hr)).ex (by decide)
 have hlf:_≤9223372036854775807:=Nat.le_trans (HL.rules _ (List.getElem_mem hr)).fa (by decide)
 have hlst:=HC.lst
 have hgl:=R.gl
 refine Zw Tryz.func57 rfl (by intro X hX;simp only [List.mem_cons,List.not_mem_nil,or_false] at hX;rcases hX with rfl | rfl | rfl | rfl | rfl | rfl;exact Zq (Z9 p);exact Zq (Yi n t f);exact Zq (Rd.plain_cg c);exact Zq (Y5 _);exact .v _;exact .v _) (n:=91) rfl (by simp) (fun w0 => ?_)
 refine kW 91 [] [(0,.agg (cFm p)),(1,.agg (cSz n t f)),(2,.agg (Rd.cCg c)),(3,.agg (cRu p.rules[r])),(4,iv i),(5,bv fo)] (Zb (Za (ZM rfl (ZT (X := .agg (cFm p)) (k:=1) (.tmp 0) rfl rfl) ⟨I0,T0⟩ T0 rfl (ZM rfl (ZT (X := .agg (cSz n t f)) (k:=2) (.tmp 1) rfl rfl) ⟨I0,T0⟩ T0 rfl (ZM rfl (ZT (X := .agg (Rd.cCg c)) (k:=3) (.tmp 2) rfl rfl) ⟨I0,T0⟩ T0 rfl (ZM rfl (ZT (X := .agg (cRu p.rules[r])) (k:=4) (.tmp 3) rfl rfl) ⟨I0,T0⟩ T0 rfl (pM (aC (.bool false)) (Zd (Zc (Zb (Zb (Za (pM (aC (.int .i64 0)) (kN 91 [(1,.box 27 (cFm p)),(2,.box 29 (cSz n t f)),(3,.box 31 (Rd.cCg c)),(4,.box 57 (cRu p.rules[r]))] [(4,iv i),(5,bv fo),(6,.box 1 0),(7,.box 2 0),(8,.box 3 0),(9,.box 4 0),(12,bF),(13,iv 0)] (Zc (Zy ?_))))))))))))))))
 refine Yd (σ:={k:Nat // k≤p.rules[r].guards.length∧Rd.noP p.rules[r].guards (En.gdN n t f (En.hdG p f c fo)) k}) (fun s=>(ofL [(1,.box 27 (cFm p)),(2,.box 29 (cSz n t f)),(3,.box 31 (Rd.cCg c)),(4,.box 57 (cRu p.rules[r]))],ofT 91 [(4,iv i),(5,bv fo),(6,.box 1 0),(7,.box 2 0),(8,.box 3 0),(9,.box 4 0),(13,iv s.1)])) (fun s=>p.rules[r].guards.length-s.1) ⟨0,Nat.zero_le _,Rd.noP_zero _ _⟩ (Zk _ _ rfl (by kernel_rfl) (by kernel_rfl)) (fun s => ?_)
 obtain ⟨k,hk0,hs0⟩:=s
 show ETri J w0 (ofL [(1,.box 27 (cFm p)),(2,.box 29 (cSz n t f)),(3,.box 31 (Rd.cCg c)),(4,.box 57 (cRu p.rules[r]))]) (ofT 91 [(4,iv i),(5,bv fo),(6,.box 1 0),(7,.box 2 0),(8,.box 3 0),(9,.box 4 0),(13,iv k)]) _
 refine Zb (Zb ?_)
 by_cases hs1:((k:Nat):Int)<((p.rules[r].guards.length:Nat):Int)
 have hk1:k<p.rules[r].guards.length:=by omega
 have hgk:=R.gd _ (List.getElem_mem hk1)
 have hgb:=En.hdG_in hc hf fo p.rules[r].guards[k].msg.toNat
 refine Za (pM (mT 13 (iv k)) (oA (fb 7 9 U57 1) I0 (oB (lb (slA 6 cTh p.rules[r].guards) 20 U55) I0 rfl (oA (nS 21 U55) I0 (oC (ZW rfl (dT hs1)) I0 I0 (Zd (Zc (Zm rfl (Zi (Zc (Zb (Zy (Zb (Za (oA (fb 7 9 U57 1) I0 (oB (lb (slA 6 cTh p.rules[r].guards) 26 U55) I0 rfl (pM (mT 13 (iv k)) (oC (xS (k*6) 27 28 U55) I0 I0 (oA (ZC (z:=6) (.tmp 29) rfl U123 rfl (by kernel_rfl) (YS lenTh p.rules[r].guards k (by omega)) rfl) I0 (ZM rfl (Yl (z := .agg #[.int .i64 0,.int .i64 0,.int .i64 0,.int .i64 0,.int .i64 0,.int .i64 0]) (k:=5) rfl (by kernel_rfl)) T0 T0 rfl (ZM rfl (sB 6 14 (.tmp 30) (.agg (cTh p.rules[r].guards[k]))) ⟨I0,I0,T0⟩ ⟨rfl,T0⟩ rfl (Zd (Zc ?_)))))))))))))))))))))))
 refine Zb (Za (oA (fb 2 14 U123 4) I0 (oB (lS ([iv p.rules[r].guards[k].bd.c,iv p.rules[r].guards[k].bd.n,iv p.rules[r].guards[k].bd.t,iv p.rules[r].guards[k].bd.f]) 4 32 U121) I0 rfl (oB (lS (cSz n t f) 3 7 U29) I0 rfl (oD (sc #[.tmp 33,.tmp 34] [] (rEv_c (l:=p.rules[r].guards[k].bd)) [.agg [iv p.rules[r].guards[k].bd.c,iv p.rules[r].guards[k].bd.n,iv p.rules[r].guards[k].bd.t,iv p.rules[r].guards[k].bd.f],.agg (cSz n t f)] rfl rfl rfl) I0 I0 I0 (pM (mT 35 (.tup [iv (evN p.rules[r].guards[k].bd.c p.rules[r].guards[k].bd.n p.rules[r].guards[k].bd.t p.rules[r].guards[k].bd.f n t f),iv (evE p.rules[r].guards[k].bd.c p.rules[r].guards[k].bd.n p.rules[r].guards[k].bd.t p.rules[r].guards[k].bd.f n t f)])) (oA (ZQ (X:=iv (evN p.rules[r].guards[k].bd.c p.rules[r].guards[k].bd.n p.rules[r].guards[k].bd.t p.rules[r].guards[k].bd.f n t f)) (.tmp 31) rfl rfl) I0 (oA (ZQ (X:=iv (evE p.rules[r].guards[k].bd.c p.rules[r].guards[k].bd.n p.rules[r].guards[k].bd.t p.rules[r].guards[k].bd.f n t f)) (.tmp 31) rfl rfl) I0 (pM (aT 36 (iv (evN p.rules[r].guards[k].bd.c p.rules[r].guards[k].bd.n p.rules[r].guards[k].bd.t p.rules[r].guards[k].bd.f n t f))) (pM (aT 37 (iv (evE p.rules[r].guards[k].bd.c p.rules[r].guards[k].bd.n p.rules[r].guards[k].bd.t p.rules[r].guards[k].bd.f n t f))) (Zd (Zc (Zb ?_)))))))))))))
 by_cases hs2:p.rules[r].guards[k].coef*(En.hdG p f c fo p.rules[r].guards[k].msg.toNat)<(evN p.rules[r].guards[k].bd.c p.rules[r].guards[k].bd.n p.rules[r].guards[k].bd.t p.rules[r].guards[k].bd.f n t f)
 refine Zs (dA (fb 1 14 U123 1) I0 (dB (lb (iv p.rules[r].guards[k].coef) 38 U3) I0 rfl (dB (lS (cFm p) 10 6 U27) I0 rfl (dB (lS (cSz n t f) 3 7 U29) I0 rfl (dB (lS (Rd.cCg c) 6 8 U31) I0 rfl (dA (fb 0 14 U123 1) I0 (dB (lb (iv p.rules[r].guards[k].msg) 43 U3) I0 rfl (dM (mT 5 (bv fo)) (dR (sc #[.tmp 40,.tmp 41,.tmp 42,.tmp 44,.tmp 45] [] (rheard_c hc hf hgk.1 (by omega)) [.agg (cFm p),.agg (cSz n t f),.agg (Rd.cCg c),iv p.rules[r].guards[k].msg,bv fo] rfl rfl rfl) ⟨I0,I0,I0,I0,I0,I0,T0⟩ T0 T0 (dC (sp_mul (c:=p.rules[r].guards[k].coef*(En.hdG p f c fo p.rules[r].guards[k].msg.toNat)) rfl (En.mulW hgk.2.2.1 hgk.2.2.2 hgb.1 hgb.2)) I0 I0 (dM (mT 15 (iv (evN p.rules[r].guards[k].bd.c p.rules[r].guards[k].bd.n p.rules[r].guards[k].bd.t p.rules[r].guards[k].bd.f n t f))) (dC (ZW rfl (dT hs2)) I0 I0 (dE ?_))))))))))))) (by kernel_rfl)
 show ETri J w0 _ _ _
 refine kW 91 [(1,.box 27 (cFm p)),(2,.box 29 (cSz n t f)),(3,.box 31 (Rd.cCg c)),(4,.box 57 (cRu p.rules[r])),(5,.box 123 (cTh p.rules[r].guards[k]))] [(4,iv i),(5,bv fo),(6,.box 1 0),(7,.box 2 0),(8,.box 3 0),(9,.box 4 0),(13,iv k),(14,.box 5 0),(15,iv (evN p.rules[r].guards[k].bd.c p.rules[r].guards[k].bd.n p.rules[r].guards[k].bd.t p.rules[r].guards[k].bd.f n t f)),(23,bT),(49,bT)] (Zc (Zm rfl (Zb (Za (pM (aC (.bool false)) (Zd (Zc (Zl (Zu (Zf (Zf (Zu (Zf ?_)))))))))))))
 refine Zh Tryz.results57 (.tmp rfl) ?_
 exact congrArg (fun x:Bool=>AV.v (.bool x)) ((En.lo_gdr hk1 hs2).symm)
 refine Zs (dA (fb 1 14 U123 1) I0 (dB (lb (iv p.rules[r].guards[k].coef) 38 U3) I0 rfl (dB (lS (cFm p) 10 6 U27) I0 rfl (dB (lS (cSz n t f) 3 7 U29) I0 rfl (dB (lS (Rd.cCg c) 6 8 U31) I0 rfl (dA (fb 0 14 U123 1) I0 (dB (lb (iv p.rules[r].guards[k].msg) 43 U3) I0 rfl (dM (mT 5 (bv fo)) (dR (sc #[.tmp 40,.tmp 41,.tmp 42,.tmp 44,.tmp 45] [] (rheard_c hc hf hgk.1 (by omega)) [.agg (cFm p),.agg (cSz n t f),.agg (Rd.cCg c),iv p.rules[r].guards[k].msg,bv fo] rfl rfl rfl) ⟨I0,I0,I0,I0,I0,I0,T0⟩ T0 T0 (dC (sp_mul (c:=p.rules[r].guards[k].coef*(En.hdG p f c fo p.rules[r].guards[k].msg.toNat)) rfl (En.mulW hgk.2.2.1 hgk.2.2.2 hgb.1 hgb.2)) I0 I0 (dM (mT 15 (iv (evN p.rules[r].guards[k].bd.c p.rules[r].guards[k].bd.n p.rules[r].guards[k].bd.t p.rules[r].guards[k].bd.f n t f))) (dC (ZW rfl (dF hs2)) I0 I0 (dE ?_))))))))))))) (by kernel_rfl)
 show ETri J w0 _ _ _
 refine kW 91 [(1,.box 27 (cFm p)),(2,.box 29 (cSz n t f)),(3,.box 31 (Rd.cCg c)),(4,.box 57 (cRu p.rules[r])),(5,.box 123 (cTh p.rules[r].guards[k]))] [(4,iv i),(5,bv fo),(6,.box 1 0),(7,.box 2 0),(8,.box 3 0),(9,.box 4 0),(13,iv k),(14,.box 5 0),(15,iv (evN p.rules[r].guards[k].bd.c p.rules[r].guards[k].bd.n p.rules[r].guards[k].bd.t p.rules[r].guards[k].bd.f n t f)),(23,bT),(49,bF)] (Zc (Zn rfl (Zi (ZL (Zc (Za (pM (mT 13 (iv k)) (oC (ZZ (c:=((k+1:Nat):Int)) rfl (w64 (by omega) (by omega) (by omega))) I0 I0 (pM (aT 25 (iv (k+1:Nat))) (kN 91 [(1,.box 27 (cFm p)),(2,.box 29 (cSz n t f)),(3,.box 31 (Rd.cCg c)),(4,.box 57 (cRu p.rules[r])),(5,.box 123 (cTh p.rules[r].guards[k]))] [(4,iv i),(5,bv fo),(6,.box 1 0),(7,.box 2 0),(8,.box 3 0),(9,.box 4 0),(13,iv (k+1:Nat)),(14,.box 5 0),(15,iv (evN p.rules[r].guards[k].bd.c p.rules[r].guards[k].bd.n p.rules[r].guards[k].bd.t p.rules[r].guards[k].bd.f n t f)),(23,bT),(49,bF)] (Zc ?_)))))))))))
 refine ZI ⟨k+1,by omega,Rd.noP_succ hk1 hs0 (decide_eq_false hs2)⟩ (show p.rules[r].guards.length-(k+1)<p.rules[r].guards.length-k by omega) ?_
 exact Zk _ _ rfl (by kernel_rfl) (by kernel_rfl)
 refine Za (pM (mT 13 (iv k)) (oA (fb 7 9 U57 1) I0 (oB (lb (slA 6 cTh p.rules[r].guards) 20 U55) I0 rfl (oA (nS 21 U55) I0 (oC (ZW rfl (dF hs1)) I0 I0 (Zd (Zc (Zn rfl (Yb (Zt (Zt (Kb (Zc (Zb (Za (oA (fb 8 9 U57 1) I0 (oB (lb (Ze p.rules[r].ex) 50 U24) I0 rfl (oA (nS 51 U24) I0 (oC (Zp rfl rfl) I0 I0 (pM (aT 53 (bv (decide (((p.rules[r].ex.length:Nat):Int)=0)))) (Zd (Zc (Zb ?_)))))))))))))))))))))))
 refine Zb (Za (pM (aC (.int .i64 0)) (kN 91 [(3,.box 31 (Rd.cCg c)),(4,.box 57 (cRu p.rules[r]))] [(4,iv i),(8,.box 3 0),(9,.box 4 0),(17,bv (decide (((p.rules[r].ex.length:Nat):Int)=0))),(18,iv 0)] (Zc (Zy ?_)))))
 rw [← En.exU_zero (c:=c) (i:=i)]
 refine Yd (σ:={j:Nat // j≤c.st.length∧En.noF c p.rules[r] i j}) (fun s=>(ofL [(3,.box 31 (Rd.cCg c)),(4,.box 57 (cRu p.rules[r]))],ofT 91 [(4,iv i),(8,.box 3 0),(9,.box 4 0),(17,bv (En.exU c p.rules[r] i s.1)),(18,iv s.1)])) (fun s=>c.st.length-s.1) ⟨0,Nat.zero_le _,En.noF_zero⟩ (Zk _ _ rfl (by kernel_rfl) (by kernel_rfl)) (fun s => ?_)
 obtain ⟨j,hj0,hnf⟩:=s
 show ETri J w0 (ofL [(3,.box 31 (Rd.cCg c)),(4,.box 57 (cRu p.rules[r]))]) (ofT 91 [(4,iv i),(8,.box 3 0),(9,.box 4 0),(17,bv (En.exU c p.rules[r] i j)),(18,iv j)]) _
 refine Zb (Zb ?_)
 by_cases hs3:((j:Nat):Int)<((c.st.length:Nat):Int)
 have hj1:j<c.st.length:=by omega
 refine Za (pM (mT 18 (iv j)) (oA (fb 1 8 U31 1) I0 (oB (lb (Ze c.st) 55 U24) I0 rfl (oA (nS 56 U24) I0 (oC (ZW rfl (dT hs3)) I0 I0 (Zd (Zc (Zm rfl (Zi (Zc (Zb (Zy (Zb (Zb ?_))))))))))))))
 by_cases hs4:((j:Nat):Int)=((i:Nat):Int)
 refine Za (pM (mT 18 (iv j)) (pM (mT 4 (iv i)) (oC (Zp rfl (dT hs4)) I0 I0 (Zd (Zc (Zm rfl (Yb (Zt (Kb (Zc (Za (pM (mT 18 (iv j)) (oC (ZZ (c:=((j+1:Nat):Int)) rfl (w64 (by omega) (by omega) (by omega))) I0 I0 (pM (aT 60 (iv (j+1:Nat))) (kN 91 [(3,.box 31 (Rd.cCg c)),(4,.box 57 (cRu p.rules[r]))] [(4,iv i),(8,.box 3 0),(9,.box 4 0),(17,bv (En.exU c p.rules[r] i j)),(18,iv (j+1:Nat)),(58,bT),(63,bT)] (Zc ?_))))))))))))))))
 refine ZI ⟨j+1,by omega,En.noF_succ hnf (En.fa_same (by omega))⟩ (show c.st.length-(j+1)<c.st.length-j by omega) ?_
 show Wk _ _ (ofL [(3,.box 31 (Rd.cCg c)),(4,.box 57 (cRu p.rules[r]))]) (ofT 91 [(4,iv i),(8,.box 3 0),(9,.box 4 0),(17,bv (En.exU c p.rules[r] i (j+1))),(18,iv ((j+1):Nat))])
 rw [En.exU_same (by omega)]
 exact Zk _ _ rfl (by kernel_rfl) (by kernel_rfl)
 refine Za (pM (mT 18 (iv j)) (pM (mT 4 (iv i)) (oC (Zp rfl (dF hs4)) I0 I0 (Zd (Zc (Zn rfl (Zi (Zc (Zb ?_)))))))))
 by_cases hs5:(En.exU c p.rules[r] i j)=true
 rw [hs5]
 refine kW 91 [(3,.box 31 (Rd.cCg c)),(4,.box 57 (cRu p.rules[r]))] [(4,iv i),(8,.box 3 0),(9,.box 4 0),(17,bT),(18,iv j),(58,bT),(63,bF)] ?_
 refine Zs (dM (mT 17 bT) (dM (mT 64 bT) (dK (dK (dK (dK (dK (dK (dK (dK (dP (pk true bT (.v (.tuple #[])) rfl) (dM (aT 74 bT) (dE ?_))))))))))))) (by kernel_rfl)
 show ETri J w0 _ _ _
 refine kW 91 [(3,.box 31 (Rd.cCg c)),(4,.box 57 (cRu p.rules[r]))] [(4,iv i),(8,.box 3 0),(9,.box 4 0),(17,bT),(18,iv j),(58,bT),(63,bF)] (Zc (Zb ?_))
 by_cases hs6:0<((p.rules[r].fa.length:Nat):Int)
 by_cases hs7:(decide (c.st[j]∈p.rules[r].fa))=true
 refine Zs (dA (fb 9 9 U57 1) I0 (dB (lb (Ze p.rules[r].fa) 75 U24) I0 rfl (dA (nS 76 U24) I0 (dC (ZS rfl (dT hs6)) I0 I0 (dM (mT 78 bT) (dA (fb 9 9 U57 1) I0 (dB (lb (Ze p.rules[r].fa) 80 U24) I0 rfl (dA (fb 1 8 U31 1) I0 (dB (lb (Ze c.st) 82 U24) I0 rfl (dM (mT 18 (iv j)) (dC (xS (j*1) 83 84 U24) I0 I0 (dA (lE (iv c.st[j]) 85 U3 (ZU c.st (by omega))) I0 (dD (sc #[.tmp 81,.tmp 86] [] (ZA (has_c p.rules[r].fa c.st[j] hlf) hs7) [Ze p.rules[r].fa,iv c.st[j]] rfl rfl rfl) I0 I0 I0 (dA (Zr rfl rfl) I0 (dP (pk true bF bF rfl) (dE ?_)))))))))))))))) (by kernel_rfl)
 show ETri J w0 _ _ _
 refine kW 91 [(3,.box 31 (Rd.cCg c)),(4,.box 57 (cRu p.rules[r]))] [(4,iv i),(8,.box 3 0),(9,.box 4 0),(17,bT),(18,iv j),(58,bT),(63,bF),(89,bF)] (Zc (Zn rfl (Zi (ZL (Zc (Za (pM (mT 18 (iv j)) (oC (ZZ (c:=((j+1:Nat):Int)) rfl (w64 (by omega) (by omega) (by omega))) I0 I0 (pM (aT 60 (iv (j+1:Nat))) (kN 91 [(3,.box 31 (Rd.cCg c)),(4,.box 57 (cRu p.rules[r]))] [(4,iv i),(8,.box 3 0),(9,.box 4 0),(17,bT),(18,iv (j+1:Nat)),(58,bT),(63,bF),(89,bF)] (Zc ?_)))))))))))
 refine ZI ⟨j+1,by omega,En.noF_succ hnf (En.fa_in hj1 hs7)⟩ (show c.st.length-(j+1)<c.st.length-j by omega) ?_
 show Wk _ _ (ofL [(3,.box 31 (Rd.cCg c)),(4,.box 57 (cRu p.rules[r]))]) (ofT 91 [(4,iv i),(8,.box 3 0),(9,.box 4 0),(17,bv (En.exU c p.rules[r] i (j+1))),(18,iv ((j+1):Nat))])
 rw [En.exU_t hs5]
 exact Zk _ _ rfl (by kernel_rfl) (by kernel_rfl)
 have hs7f:(decide (c.st[j]∈p.rules[r].fa))=false:=by simpa using hs7
 refine Zs (dA (fb 9 9 U57 1) I0 (dB (lb (Ze p.rules[r].fa) 75 U24) I0 rfl (dA (nS 76 U24) I0 (dC (ZS rfl (dT hs6)) I0 I0 (dM (mT 78 bT) (dA (fb 9 9 U57 1) I0 (dB (lb (Ze p.rules[r].fa) 80 U24) I0 rfl (dA (fb 1 8 U31 1) I0 (dB (lb (Ze c.st) 82 U24) I0 rfl (dM (mT 18 (iv j)) (dC (xS (j*1) 83 84 U24) I0 I0 (dA (lE (iv c.st[j]) 85 U3 (ZU c.st (by omega))) I0 (dD (sc #[.tmp 81,.tmp 86] [] (ZA (has_c p.rules[r].fa c.st[j] hlf) hs7f) [Ze p.rules[r].fa,iv c.st[j]] rfl rfl rfl) I0 I0 I0 (dA (Zr rfl rfl) I0 (dP (pk true bT bF rfl) (dE ?_)))))))))))))))) (by kernel_rfl)
 show ETri J w0 _ _ _
 refine kW 91 [(3,.box 31 (Rd.cCg c)),(4,.box 57 (cRu p.rules[r]))] [(4,iv i),(8,.box 3 0),(9,.box 4 0),(17,bT),(18,iv j),(58,bT),(63,bF),(89,bT)] (Zc (Zm rfl (Zb (Za (pM (aC (.bool false)) (Zd (Zc (Zl (Zu (Zf (Zf (Zu (Zf ?_)))))))))))))
 refine Zh Tryz.results57 (.tmp rfl) ?_
 exact congrArg (fun x:Bool=>AV.v (.bool x)) ((En.lo_fa hj1 (En.fa_out hj1 (by omega) hs6 hs7f)).symm)
 refine Zs (dA (fb 9 9 U57 1) I0 (dB (lb (Ze p.rules[r].fa) 75 U24) I0 rfl (dA (nS 76 U24) I0 (dC (ZS rfl (dF hs6)) I0 I0 (dM (mT 78 bF) (dK (dK (dK (dK (dK (dK (dK (dK (dK (dP (pk false (.v (.tuple #[])) bF rfl) (dE ?_)))))))))))))))) (by kernel_rfl)
 show ETri J w0 _ _ _
 refine kW 91 [(3,.box 31 (Rd.cCg c)),(4,.box 57 (cRu p.rules[r]))] [(4,iv i),(8,.box 3 0),(9,.box 4 0),(17,bT),(18,iv j),(58,bT),(63,bF),(89,bF)] (Zc (Zn rfl (Zi (ZL (Zc (Za (pM (mT 18 (iv j)) (oC (ZZ (c:=((j+1:Nat):Int)) rfl (w64 (by omega) (by omega) (by omega))) I0 I0 (pM (aT 60 (iv (j+1:Nat))) (kN 91 [(3,.box 31 (Rd.cCg c)),(4,.box 57 (cRu p.rules[r]))] [(4,iv i),(8,.box 3 0),(9,.box 4 0),(17,bT),(18,iv (j+1:Nat)),(58,bT),(63,bF),(89,bF)] (Zc ?_)))))))))))
 refine ZI ⟨j+1,by omega,En.noF_succ hnf (En.fa_none hs6)⟩ (show c.st.length-(j+1)<c.st.length-j by omega) ?_
 show Wk _ _ (ofL [(3,.box 31 (Rd.cCg c)),(4,.box 57 (cRu p.rules[r]))]) (ofT 91 [(4,iv i),(8,.box 3 0),(9,.box 4 0),(17,bv (En.exU c p.rules[r] i (j+1))),(18,iv ((j+1):Nat))])
 rw [En.exU_t hs5]
 exact Zk _ _ rfl (by kernel_rfl) (by kernel_rfl)
 have hs5f:(En.exU c p.rules[r] i j)=false:=by simpa using hs5
 rw [hs5f]
 refine kW 91 [(3,.box 31 (Rd.cCg c)),(4,.box 57 (cRu p.rules[r]))] [(4,iv i),(8,.box 3 0),(9,.box 4 0),(17,bF),(18,iv j),(58,bT),(63,bF)] ?_
 refine Zs (dM (mT 17 bF) (dM (mT 64 bF) (dA (fb 8 9 U57 1) I0 (dB (lb (Ze p.rules[r].ex) 66 U24) I0 rfl (dA (fb 1 8 U31 1) I0 (dB (lb (Ze c.st) 68 U24) I0 rfl (dM (mT 18 (iv j)) (dC (xS (j*1) 69 70 U24) I0 I0 (dA (lE (iv c.st[j]) 71 U3 (ZU c.st (by omega))) I0 (dD (sc #[.tmp 67,.tmp 72] [] (has_c p.rules[r].ex c.st[j] hle) [Ze p.rules[r].ex,iv c.st[j]] rfl rfl rfl) I0 I0 I0 (dP (pk false bT (bv (decide (c.st[j]∈p.rules[r].ex))) rfl) (dM (aT 74 (bv (decide (c.st[j]∈p.rules[r].ex)))) (dE ?_))))))))))))) (by kernel_rfl)
 show ETri J w0 _ _ _
 refine kW 91 [(3,.box 31 (Rd.cCg c)),(4,.box 57 (cRu p.rules[r]))] [(4,iv i),(8,.box 3 0),(9,.box 4 0),(17,bv (decide (c.st[j]∈p.rules[r].ex))),(18,iv j),(58,bT),(63,bF)] (Zc (Zb ?_))
 by_cases hs8:0<((p.rules[r].fa.length:Nat):Int)
 by_cases hs9:(decide (c.st[j]∈p.rules[r].fa))=true
 refine Zs (dA (fb 9 9 U57 1) I0 (dB (lb (Ze p.rules[r].fa) 75 U24) I0 rfl (dA (nS 76 U24) I0 (dC (ZS rfl (dT hs8)) I0 I0 (dM (mT 78 bT) (dA (fb 9 9 U57 1) I0 (dB (lb (Ze p.rules[r].fa) 80 U24) I0 rfl (dA (fb 1 8 U31 1) I0 (dB (lb (Ze c.st) 82 U24) I0 rfl (dM (mT 18 (iv j)) (dC (xS (j*1) 83 84 U24) I0 I0 (dA (lE (iv c.st[j]) 85 U3 (ZU c.st (by omega))) I0 (dD (sc #[.tmp 81,.tmp 86] [] (ZA (has_c p.rules[r].fa c.st[j] hlf) hs9) [Ze p.rules[r].fa,iv c.st[j]] rfl rfl rfl) I0 I0 I0 (dA (Zr rfl rfl) I0 (dP (pk true bF bF rfl) (dE ?_)))))))))))))))) (by kernel_rfl)
 show ETri J w0 _ _ _
 refine kW 91 [(3,.box 31 (Rd.cCg c)),(4,.box 57 (cRu p.rules[r]))] [(4,iv i),(8,.box 3 0),(9,.box 4 0),(17,bv (decide (c.st[j]∈p.rules[r].ex))),(18,iv j),(58,bT),(63,bF),(89,bF)] (Zc (Zn rfl (Zi (ZL (Zc (Za (pM (mT 18 (iv j)) (oC (ZZ (c:=((j+1:Nat):Int)) rfl (w64 (by omega) (by omega) (by omega))) I0 I0 (pM (aT 60 (iv (j+1:Nat))) (kN 91 [(3,.box 31 (Rd.cCg c)),(4,.box 57 (cRu p.rules[r]))] [(4,iv i),(8,.box 3 0),(9,.box 4 0),(17,bv (decide (c.st[j]∈p.rules[r].ex))),(18,iv (j+1:Nat)),(58,bT),(63,bF),(89,bF)] (Zc ?_)))))))))))
 refine ZI ⟨j+1,by omega,En.noF_succ hnf (En.fa_in hj1 hs9)⟩ (show c.st.length-(j+1)<c.st.length-j by omega) ?_
 show Wk _ _ (ofL [(3,.box 31 (Rd.cCg c)),(4,.box 57 (cRu p.rules[r]))]) (ofT 91 [(4,iv i),(8,.box 3 0),(9,.box 4 0),(17,bv (En.exU c p.rules[r] i (j+1))),(18,iv ((j+1):Nat))])
 rw [En.exU_f hj1 hs5f (by omega)]
 exact Zk _ _ rfl (by kernel_rfl) (by kernel_rfl)
 have hs9f:(decide (c.st[j]∈p.rules[r].fa))=false:=by simpa using hs9
 refine Zs (dA (fb 9 9 U57 1) I0 (dB (lb (Ze p.rules[r].fa) 75 U24) I0 rfl (dA (nS 76 U24) I0 (dC (ZS rfl (dT hs8)) I0 I0 (dM (mT 78 bT) (dA (fb 9 9 U57 1) I0 (dB (lb (Ze p.rules[r].fa) 80 U24) I0 rfl (dA (fb 1 8 U31 1) I0 (dB (lb (Ze c.st) 82 U24) I0 rfl (dM (mT 18 (iv j)) (dC (xS (j*1) 83 84 U24) I0 I0 (dA (lE (iv c.st[j]) 85 U3 (ZU c.st (by omega))) I0 (dD (sc #[.tmp 81,.tmp 86] [] (ZA (has_c p.rules[r].fa c.st[j] hlf) hs9f) [Ze p.rules[r].fa,iv c.st[j]] rfl rfl rfl) I0 I0 I0 (dA (Zr rfl rfl) I0 (dP (pk true bT bF rfl) (dE ?_)))))))))))))))) (by kernel_rfl)
 show ETri J w0 _ _ _
 refine kW 91 [(3,.box 31 (Rd.cCg c)),(4,.box 57 (cRu p.rules[r]))] [(4,iv i),(8,.box 3 0),(9,.box 4 0),(17,bv (decide (c.st[j]∈p.rules[r].ex))),(18,iv j),(58,bT),(63,bF),(89,bT)] (Zc (Zm rfl (Zb (Za (pM (aC (.bool false)) (Zd (Zc (Zl (Zu (Zf (Zf (Zu (Zf ?_)))))))))))))
 refine Zh Tryz.results57 (.tmp rfl) ?_
 exact congrArg (fun x:Bool=>AV.v (.bool x)) ((En.lo_fa hj1 (En.fa_out hj1 (by omega) hs8 hs9f)).symm)
 refine Zs (dA (fb 9 9 U57 1) I0 (dB (lb (Ze p.rules[r].fa) 75 U24) I0 rfl (dA (nS 76 U24) I0 (dC (ZS rfl (dF hs8)) I0 I0 (dM (mT 78 bF) (dK (dK (dK (dK (dK (dK (dK (dK (dK (dP (pk false (.v (.tuple #[])) bF rfl) (dE ?_)))))))))))))))) (by kernel_rfl)
 show ETri J w0 _ _ _
 refine kW 91 [(3,.box 31 (Rd.cCg c)),(4,.box 57 (cRu p.rules[r]))] [(4,iv i),(8,.box 3 0),(9,.box 4 0),(17,bv (decide (c.st[j]∈p.rules[r].ex))),(18,iv j),(58,bT),(63,bF),(89,bF)] (Zc (Zn rfl (Zi (ZL (Zc (Za (pM (mT 18 (iv j)) (oC (ZZ (c:=((j+1:Nat):Int)) rfl (w64 (by omega) (by omega) (by omega))) I0 I0 (pM (aT 60 (iv (j+1:Nat))) (kN 91 [(3,.box 31 (Rd.cCg c)),(4,.box 57 (cRu p.rules[r]))] [(4,iv i),(8,.box 3 0),(9,.box 4 0),(17,bv (decide (c.st[j]∈p.rules[r].ex))),(18,iv (j+1:Nat)),(58,bT),(63,bF),(89,bF)] (Zc ?_)))))))))))
 refine ZI ⟨j+1,by omega,En.noF_succ hnf (En.fa_none hs8)⟩ (show c.st.length-(j+1)<c.st.length-j by omega) ?_
 show Wk _ _ (ofL [(3,.box 31 (Rd.cCg c)),(4,.box 57 (cRu p.rules[r]))]) (ofT 91 [(4,iv i),(8,.box 3 0),(9,.box 4 0),(17,bv (En.exU c p.rules[r] i (j+1))),(18,iv ((j+1):Nat))])
 rw [En.exU_f hj1 hs5f (by omega)]
 exact Zk _ _ rfl (by kernel_rfl) (by kernel_rfl)
 refine Za (pM (mT 18 (iv j)) (oA (fb 1 8 U31 1) I0 (oB (lb (Ze c.st) 55 U24) I0 rfl (oA (nS 56 U24) I0 (oC (ZW rfl (dF hs3)) I0 I0 (Zd (Zc (Zn rfl (Yb (Zt (Zt (Kb (Zc (Zb (Za (pM (mT 17 (bv (En.exU c p.rules[r] i j))) (pM (aT 90 (bv (En.exU c p.rules[r] i j))) (Zd (Zc (Zl ?_))))))))))))))))))))
 refine Zh Tryz.results57 (.tmp rfl) ?_
 exact congrArg (fun x:Bool=>AV.v (.bool x)) ((En.lo_ex hrd (by omega) hs0 (by omega) hj0 hnf).symm)
set_option maxRecDepth 100000
set_option maxHeartbeats 6400000
namespace En
section
variable {p:Fm} {top n t f:Int} {c:Cf} {g:Nat→Int} {r:Ru} {i:Nat} {k:Int}
theorem en_st (hi:i<c.st.length) (h:¬ c.st[i]=r.frm):enR top n t f c g r i k=false:=by unfold enR;rw [Ct.getD_at hi,decide_eq_false h];rfl
theorem en_pt (h:ptB c r i k=false):enR top n t f c g r i k=false:=by unfold enR;rw [h];simp
theorem rd_val (R:RuV p r):(decide (r.rd<0)||decide (c.val=r.rd)) = !rdN c r:=by
  unfold rdN
  by_cases h:0≤r.rd
  · rw [decide_eq_true h,decide_eq_false (by omega:¬ r.rd<0)];simp
  rw [decide_eq_false h,decide_eq_true (by omega:r.rd<0)];rfl
theorem rdN_t (R:RuV p r) (h:¬ r.rd = -1) (h2:¬ c.val=r.rd):rdN c r=true:=by
  have:=R.rd
  unfold rdN;rw [decide_eq_true (by omega),decide_eq_false h2];rfl
theorem rdN_f (h:r.rd = -1∨c.val=r.rd):rdN c r=false:=by
  unfold rdN
  rcases h with h | h
  · rw [decide_eq_false (by omega)];rfl
  rw [decide_eq_true h];simp
theorem en_1 (hi:i<c.st.length) (h:c.st[i]=r.frm) (hp:ptB c r i k=true) (k1:r.kind=1):enR top n t f c g r i k=loB n t f c r g i:=by unfold enR;rw [Ct.getD_at hi,decide_eq_true h,hp,if_pos k1];rfl
theorem en_23 (R:RuV p r) (hi:i<c.st.length) (h:c.st[i]=r.frm) (hp:ptB c r i k=true) (k1:r.kind=2∨r.kind=3) (hr:rdN c r=false):enR top n t f c g r i k=true:=by
  unfold enR;rw [Ct.getD_at hi,decide_eq_true h,hp,if_neg (by omega),if_neg (by omega),if_neg (by omega),rd_val R,hr];rfl
theorem en_4 (hi:i<c.st.length) (h:c.st[i]=r.frm) (hp:ptB c r i k=true) (k4:r.kind=4):enR top n t f c g r i k=nbB top c r i:=by unfold enR;rw [Ct.getD_at hi,decide_eq_true h,hp,if_neg (by omega),if_pos k4];rfl
theorem en_5 (hi:i<c.st.length) (h:c.st[i]=r.frm) (hp:ptB c r i k=true) (k5:r.kind=5):enR top n t f c g r i k=psB top c r i k:=by unfold enR;rw [Ct.getD_at hi,decide_eq_true h,hp,if_neg (by omega),if_neg (by omega),if_pos k5];rfl
theorem en_a (R:RuV p r) (hi:i<c.st.length) (h:(!decide (c.st[i]=r.frm)||rdN c r)=true):enR top n t f c g r i k=false:=by
  by_cases h1:c.st[i]=r.frm
  · rw [decide_eq_true h1] at h
    have h2:rdN c r=true:=h
    have hk:=R.kd
    have:=R.em
    have h3:0≤r.rd:=by
      unfold rdN at h2
      rw [Bool.and_eq_true,decide_eq_true_iff] at h2
      exact h2.1
    unfold enR
    by_cases k1:r.kind=1
    · rw [if_pos k1,lo_rd h2];simp
    rw [if_neg k1,if_neg (fun e=>by have:=(this k1 (by omega) (by omega)).1;omega),if_neg (fun e=>by have:=(this k1 (by omega) (by omega)).1;omega),rd_val R,h2];simp
  exact en_st hi h1
theorem en_b (hi:i<c.st.length) (h:(!decide (c.st[i]=r.frm)||rdN c r)=false):c.st[i]=r.frm∧rdN c r=false:=by
  rw [Bool.or_eq_false_iff,Bool.not_eq_false',decide_eq_true_iff] at h
  exact h
theorem pt_y (h:r.kind=2∨r.kind=5) (h1:0≤k∧k.toNat<c.st.length) (h2:¬ k=((i:Nat):Int)) (h3:c.st[k.toNat]'h1.2=r.pf):ptB c r i k=true:=by
  unfold ptB isP;rw [if_pos h,Ct.getD_at h1.2,decide_eq_true h3,decide_eq_false h2,decide_eq_true h1.1,decide_eq_true (by omega)];rfl
theorem pt_n (h:r.kind=2∨r.kind=5) (h1:¬ (0≤k∧k.toNat<c.st.length)):ptB c r i k=false:=by
  unfold ptB;rw [if_pos h,isP_no (by omega)];rfl
theorem pt_i (h:r.kind=2∨r.kind=5) (h1:k=((i:Nat):Int)):ptB c r i k=false:=by
  unfold ptB;rw [if_pos h,decide_eq_true h1];simp
theorem pt_p (h:r.kind=2∨r.kind=5) (h1:0≤k∧k.toNat<c.st.length) (h3:¬ c.st[k.toNat]'h1.2=r.pf):ptB c r i k=false:=by
  unfold ptB;rw [if_pos h,Ct.getD_at h1.2,decide_eq_false h3];simp
theorem pt_o (h:¬ (r.kind=2∨r.kind=5)) (h1:¬ k = -1):ptB c r i k=false:=by unfold ptB;rw [if_neg h,decide_eq_false h1]
theorem pt_1 (h:¬ (r.kind=2∨r.kind=5)) (h1:k = -1):ptB c r i k=true:=by unfold ptB;rw [if_neg h,decide_eq_true h1]
theorem inW_y {m:Nat} {x:Int} (h:Rd.inW 0 (((m:Nat):Int)-1) x=true):0≤x∧x.toNat<m:=by
  unfold Rd.inW at h
  simp only [Bool.and_eq_true,decide_eq_true_eq] at h
  omega
theorem inW_n {m:Nat} {x:Int} (h:Rd.inW 0 (((m:Nat):Int)-1) x=false):¬ (0≤x∧x.toNat<m):=by
  unfold Rd.inW at h
  simp only [Bool.and_eq_false_iff,decide_eq_false_iff_not] at h
  omega
end
end En
theorem En.bothC {p:Fm} {n f:Int} {c:Cf} (hc:En.CfV p n f c) {i:Nat} (hi:i<c.st.length) (h4:p.top=4):(0≤Jd.lkS p.top c.sh c.st.length i↔¬ Jd.lkF p.top c.sh c.st.length i = -1):=by
  have hs:=En.sh_tree hc h4
  unfold isShp at hs
  simp only [Bool.and_eq_true,decide_eq_true_eq] at hs
  have hl:c.sh.length=c.st.length:=by omega
  rw [h4,← hl]
  exact En.both hs.2 (by omega)
theorem nbClqP_c {p:Fm} {n f:Int} {c:Cf} (HC:Rd.CgOk c) (hc:En.CfV p n f c) (hv:valE p=0) {i:Nat} (hi:i<c.st.length) (h1:p.top=1):Ctr Tryz.prog J 56 [iv p.top,Ze c.sh,iv ((c.st.length:Nat):Int),iv ((i:Nat):Int)] (.tup [iv (-1),iv (-1),iv (-1)]):=by
  have:=nbP_c (J:=J) HC hc hv hi
  unfold En.nF En.nS En.nP at this
  rw [if_pos h1,if_pos h1,if_pos h1] at this
  exact this
theorem nbNo_c {p:Fm} {n f:Int} {c:Cf} (HC:Rd.CgOk c) (hc:En.CfV p n f c) (hv:valE p=0) {i:Nat} (hi:i<c.st.length) (h1:¬ p.top=1):Ctr Tryz.prog J 56 [iv p.top,Ze c.sh,iv ((c.st.length:Nat):Int),iv ((i:Nat):Int)] (.tup [iv (Jd.lkF p.top c.sh c.st.length i),iv (Jd.lkS p.top c.sh c.st.length i),iv (En.lkP p.top c.sh c.st.length i)]):=by
  have:=nbP_c (J:=J) HC hc hv hi
  unfold En.nF En.nS En.nP at this
  rw [if_neg h1,if_neg h1,if_neg h1] at this
  exact this
theorem renabled_in1 {p:Fm} (HL:FamLen p) {n t f:Int} {c:Cf} (HC:Rd.CgOk c) (hc:En.CfV p n f c) (hv:valE p=0) (hf:0≤f∧f≤1048576) {r:Nat} (hr:r<p.rules.length) {i:Nat} (hi:i<c.st.length) {kp:Int} {fo:Bool} (h1:p.top=1):Ctr Tryz.prog J 30 [.agg (cFm p),.agg (cSz n t f),.agg (Rd.cCg c),.agg [iv r,iv i,iv kp],bv fo] (bv (En.enR p.top n t f c (En.hdG p f c fo) p.rules[r] i kp)):=by
 have R:=En.val_in hv (List.getElem_mem hr)
 have hz:=En.val_sizes hv
 have hlst:=HC.lst
 have hkd:=R.kd
 have hkt:=R.kt
 have htop:=Jd.top_in hv
 refine Zw Tryz.func30 rfl (by intro X hX;simp only [List.mem_cons,List.not_mem_nil,or_false] at hX;rcases hX with rfl | rfl | rfl | rfl | rfl;exact Zq (Z9 p);exact Zq (Yi n t f);exact Zq (Rd.plain_cg c);exact Zq (fun X hX=>by simp only [List.mem_cons,List.not_mem_nil,or_false] at hX;rcases hX with rfl | rfl | rfl<;>exact .v _);exact .v _) (n:=199) rfl (by simp) (fun w0 => ?_)
 refine kW 199 [] [(0,.agg (cFm p)),(1,.agg (cSz n t f)),(2,.agg (Rd.cCg c)),(3,.agg [iv r,iv i,iv kp]),(4,bv fo)] (Zb (Za (ZM rfl (ZT (X := .agg (cFm p)) (k:=1) (.tmp 0) rfl rfl) ⟨I0,T0⟩ T0 rfl (ZM rfl (ZT (X := .agg (cSz n t f)) (k:=2) (.tmp 1) rfl rfl) ⟨I0,T0⟩ T0 rfl (ZM rfl (ZT (X := .agg (Rd.cCg c)) (k:=3) (.tmp 2) rfl rfl) ⟨I0,T0⟩ T0 rfl (ZM rfl (ZT (X := .agg [iv r,iv i,iv kp]) (k:=4) (.tmp 3) rfl rfl) ⟨I0,T0⟩ T0 rfl (pM (aC (.bool false)) (Zd (Zc (Zb (Zb (Za (oA (fb 0 8 U35 1) I0 (oB (lb (iv r) 17 U3) I0 rfl (oA (fb 9 5 U27 1) I0 (oB (lb (slA 18 cRu p.rules) 19 U25) I0 rfl (oA (nS 20 U25) I0 (oC (Z5 (c:=((p.rules.length:Nat):Int)-1) rfl (w64 (by omega) (by omega) (by omega))) I0 I0 (ZM rfl (sc #[.tmp 18,.const (.int .i64 0),.tmp 22] [] (ZA Ko (Jd.in_w hr)) [iv r,iv 0,iv (((p.rules.length:Nat):Int)-1)] rfl rfl rfl) ⟨I0,I0,I0,I0,T0⟩ T0 T0 (oA (Zr rfl rfl) I0 (pM (mT 24 bF) (gA (fb 1 8 U35 1) I0 (gB (lb (iv i) 26 U3) I0 rfl ?_)))))))))))))))))))))))
 refine gA (fb 1 7 U31 1) I0 (gB (lb (Ze c.st) 28 U24) I0 rfl (gA (nS 29 U24) I0 (gC (Z5 (c:=((c.st.length:Nat):Int)-1) rfl (w64 (by omega) (by omega) (by omega))) I0 I0 (YC rfl (sc #[.tmp 27,.const (.int .i64 0),.tmp 31] [] (ZA Ko (Jd.in_w hi)) [iv i,iv 0,iv (((c.st.length:Nat):Int)-1)] rfl rfl rfl) ⟨I0,I0,I0,I0,T0⟩ T0 T0 (gA (Zr rfl rfl) I0 (pP (pk false bT bF rfl) (Zd (Zc (Zn rfl (Zi (Zc (Zb ?_))))))))))))
 refine Zs (dA (fb 9 5 U27 1) I0 (dB (lb (slA 18 cRu p.rules) 35 U25) I0 rfl (dA (fb 0 8 U35 1) I0 (dB (lb (iv r) 37 U3) I0 rfl (dC (xS (r*18) 36 38 U25) I0 I0 (dA (ZC (z:=18) (.tmp 39) rfl U57 rfl (by kernel_rfl) (YS lenRu p.rules r (by omega)) rfl) I0 (dA (fb 1 8 U35 1) I0 (dB (lb (iv i) 41 U3) I0 rfl (dA (fb 2 8 U35 1) I0 (dB (lb (iv kp) 43 U3) I0 rfl (dR (Yl (z := .agg #[.string (⟨#[]⟩),.int .i64 0,.int .i64 0,.int .i64 0,.int .i64 0,.int .i64 0,.slice none 0 0,.slice none 0 0,.slice none 0 0,.slice none 0 0,.int .i64 0,.int .i64 0,.slice none 0 0,.int .i64 0,.slice none 0 0,.slice none 0 0,.slice none 0 0,.int .i64 0]) (k:=5) rfl (by kernel_rfl)) T0 T0 rfl (dR (sB 18 11 (.tmp 40) (.agg (cRu p.rules[r]))) ⟨I0,I0,T0⟩ ⟨rfl,T0⟩ rfl (dM (aT 42 (iv i)) (dM (aT 44 (iv kp)) (dE ?_))))))))))))))) (by kernel_rfl)
 show ETri J w0 _ _ _
 refine kW 199 [(1,.box 27 (cFm p)),(2,.box 29 (cSz n t f)),(3,.box 31 (Rd.cCg c)),(5,.box 57 (cRu p.rules[r]))] [(4,bv fo),(5,.box 1 0),(6,.box 2 0),(7,.box 3 0),(10,bF),(11,.box 5 0),(12,iv i),(13,iv kp)] (Zc (Zb (Zb ?_)))
 refine YN (True) (ofL [(1,.box 27 (cFm p)),(2,.box 29 (cSz n t f)),(3,.box 31 (Rd.cCg c)),(5,.box 57 (cRu p.rules[r]))]) (ofT 199 [(4,bv fo),(5,.box 1 0),(6,.box 2 0),(7,.box 3 0),(10,bF),(11,.box 5 0),(12,iv i),(13,iv kp),(64,bv (!decide (c.st[i]=p.rules[r].frm)||En.rdN c p.rules[r]))]) ?_ (fun _ => ?_)
 by_cases hs1:c.st[i]=p.rules[r].frm
 by_cases hs2:p.rules[r].rd=(-1)
 refine Zs (dA (fb 1 7 U31 1) I0 (dB (lb (Ze c.st) 45 U24) I0 rfl (dM (mT 12 (iv i)) (dC (xS (i*1) 46 47 U24) I0 I0 (dA (lE (iv c.st[i]) 48 U3 (ZU c.st (by omega))) I0 (dA (fb 2 11 U57 1) I0 (dB (lb (iv p.rules[r].frm) 50 U3) I0 rfl (dC (Zv rfl (dT' hs1)) I0 I0 (dM (mT 52 bF) (dA (fb 10 11 U57 1) I0 (dB (lb (iv p.rules[r].rd) 54 U3) I0 rfl (dC (Zv rfl (dT' hs2)) I0 I0 (dM (mT 56 bF) (dK (dK (dK (dK (dK (dP (pk false (.v (.tuple #[])) bF rfl) (dP (pk false bT bF rfl) (dE ?_))))))))))))))))))))) (by kernel_rfl)
 show ETri J w0 _ _ _
 refine kW 199 [(1,.box 27 (cFm p)),(2,.box 29 (cSz n t f)),(3,.box 31 (Rd.cCg c)),(5,.box 57 (cRu p.rules[r]))] [(4,bv fo),(5,.box 1 0),(6,.box 2 0),(7,.box 3 0),(10,bF),(11,.box 5 0),(12,iv i),(13,iv kp),(64,bF)] ?_
 rw [show (!decide (c.st[i]=p.rules[r].frm)||En.rdN c p.rules[r])=false from by rw [decide_eq_true hs1,En.rdN_f (.inl hs2)];rfl]
 exact Zx T0 (Zk _ _ rfl (by kernel_rfl) (by kernel_rfl))
 by_cases hs3:c.val=p.rules[r].rd
 refine Zs (dA (fb 1 7 U31 1) I0 (dB (lb (Ze c.st) 45 U24) I0 rfl (dM (mT 12 (iv i)) (dC (xS (i*1) 46 47 U24) I0 I0 (dA (lE (iv c.st[i]) 48 U3 (ZU c.st (by omega))) I0 (dA (fb 2 11 U57 1) I0 (dB (lb (iv p.rules[r].frm) 50 U3) I0 rfl (dC (Zv rfl (dT' hs1)) I0 I0 (dM (mT 52 bF) (dA (fb 10 11 U57 1) I0 (dB (lb (iv p.rules[r].rd) 54 U3) I0 rfl (dC (Zv rfl (dF' hs2)) I0 I0 (dM (mT 56 bT) (dA (fb 5 7 U31 1) I0 (dB (lb (iv c.val) 58 U3) I0 rfl (dA (fb 10 11 U57 1) I0 (dB (lb (iv p.rules[r].rd) 60 U3) I0 rfl (dC (Zv rfl (dT' hs3)) I0 I0 (dP (pk true bF bF rfl) (dP (pk false bT bF rfl) (dE ?_))))))))))))))))))))) (by kernel_rfl)
 show ETri J w0 _ _ _
 refine kW 199 [(1,.box 27 (cFm p)),(2,.box 29 (cSz n t f)),(3,.box 31 (Rd.cCg c)),(5,.box 57 (cRu p.rules[r]))] [(4,bv fo),(5,.box 1 0),(6,.box 2 0),(7,.box 3 0),(10,bF),(11,.box 5 0),(12,iv i),(13,iv kp),(64,bF)] ?_
 rw [show (!decide (c.st[i]=p.rules[r].frm)||En.rdN c p.rules[r])=false from by rw [decide_eq_true hs1,En.rdN_f (.inr hs3)];rfl]
 exact Zx T0 (Zk _ _ rfl (by kernel_rfl) (by kernel_rfl))
 refine Zs (dA (fb 1 7 U31 1) I0 (dB (lb (Ze c.st) 45 U24) I0 rfl (dM (mT 12 (iv i)) (dC (xS (i*1) 46 47 U24) I0 I0 (dA (lE (iv c.st[i]) 48 U3 (ZU c.st (by omega))) I0 (dA (fb 2 11 U57 1) I0 (dB (lb (iv p.rules[r].frm) 50 U3) I0 rfl (dC (Zv rfl (dT' hs1)) I0 I0 (dM (mT 52 bF) (dA (fb 10 11 U57 1) I0 (dB (lb (iv p.rules[r].rd) 54 U3) I0 rfl (dC (Zv rfl (dF' hs2)) I0 I0 (dM (mT 56 bT) (dA (fb 5 7 U31 1) I0 (dB (lb (iv c.val) 58 U3) I0 rfl (dA (fb 10 11 U57 1) I0 (dB (lb (iv p.rules[r].rd) 60 U3) I0 rfl (dC (Zv rfl (dF' hs3)) I0 I0 (dP (pk true bT bF rfl) (dP (pk false bT bT rfl) (dE ?_))))))))))))))))))))) (by kernel_rfl)
 show ETri J w0 _ _ _
 refine kW 199 [(1,.box 27 (cFm p)),(2,.box 29 (cSz n t f)),(3,.box 31 (Rd.cCg c)),(5,.box 57 (cRu p.rules[r]))] [(4,bv fo),(5,.box 1 0),(6,.box 2 0),(7,.box 3 0),(10,bF),(11,.box 5 0),(12,iv i),(13,iv kp),(64,bT)] ?_
 rw [show (!decide (c.st[i]=p.rules[r].frm)||En.rdN c p.rules[r])=true from by rw [decide_eq_true hs1,En.rdN_t R hs2 hs3];rfl]
 exact Zx T0 (Zk _ _ rfl (by kernel_rfl) (by kernel_rfl))
 refine Zs (dA (fb 1 7 U31 1) I0 (dB (lb (Ze c.st) 45 U24) I0 rfl (dM (mT 12 (iv i)) (dC (xS (i*1) 46 47 U24) I0 I0 (dA (lE (iv c.st[i]) 48 U3 (ZU c.st (by omega))) I0 (dA (fb 2 11 U57 1) I0 (dB (lb (iv p.rules[r].frm) 50 U3) I0 rfl (dC (Zv rfl (dF' hs1)) I0 I0 (dM (mT 52 bT) (dK (dK (dK (dK (dK (dK (dK (dK (dK (dK (dP (pk true bT (.v (.tuple #[])) rfl) (dE ?_))))))))))))))))))))) (by kernel_rfl)
 show ETri J w0 _ _ _
 refine kW 199 [(1,.box 27 (cFm p)),(2,.box 29 (cSz n t f)),(3,.box 31 (Rd.cCg c)),(5,.box 57 (cRu p.rules[r]))] [(4,bv fo),(5,.box 1 0),(6,.box 2 0),(7,.box 3 0),(10,bF),(11,.box 5 0),(12,iv i),(13,iv kp),(64,bT)] ?_
 rw [show (!decide (c.st[i]=p.rules[r].frm)||En.rdN c p.rules[r])=true from by rw [decide_eq_false hs1];rfl]
 exact Zx T0 (Zk _ _ rfl (by kernel_rfl) (by kernel_rfl))
 refine Zc ?_
 by_cases hs4:(!decide (c.st[i]=p.rules[r].frm)||En.rdN c p.rules[r])=true
 rw [hs4]
 refine kW 199 [(1,.box 27 (cFm p)),(2,.box 29 (cSz n t f)),(3,.box 31 (Rd.cCg c)),(5,.box 57 (cRu p.rules[r]))] [(4,bv fo),(5,.box 1 0),(6,.box 2 0),(7,.box 3 0),(10,bF),(11,.box 5 0),(12,iv i),(13,iv kp),(64,bT)] (Zm rfl (Zb (Za (pM (aC (.bool false)) (Zd (Zc (Zl (Zf ?_))))))))
 refine Zh Tryz.results30 (.tmp rfl) ?_
 exact congrArg (fun x:Bool=>AV.v (.bool x)) ((En.en_a R hi hs4).symm)
 have hs4f:(!decide (c.st[i]=p.rules[r].frm)||En.rdN c p.rules[r])=false:=by simpa using hs4
 rw [hs4f]
 refine kW 199 [(1,.box 27 (cFm p)),(2,.box 29 (cSz n t f)),(3,.box 31 (Rd.cCg c)),(5,.box 57 (cRu p.rules[r]))] [(4,bv fo),(5,.box 1 0),(6,.box 2 0),(7,.box 3 0),(10,bF),(11,.box 5 0),(12,iv i),(13,iv kp),(64,bF)] (Zn rfl (Zi (Zc (Zb (Za (oA (fb 1 5 U27 1) I0 (oB (lb (iv p.top) 66 U3) I0 rfl (oA (fb 0 7 U31 1) I0 (oB (lb (Ze c.sh) 68 U24) I0 rfl (oA (fb 1 7 U31 1) I0 (oB (lb (Ze c.st) 70 U24) I0 rfl (oA (nS 71 U24) I0 (pM (mT 12 (iv i)) (ZM rfl (sc #[.tmp 67,.tmp 69,.tmp 72,.tmp 73] [] (nbClqP_c HC hc hv hi h1) [iv p.top,Ze c.sh,iv c.st.length,iv i] rfl rfl rfl) ⟨I0,I0,I0,I0,I0,T0⟩ T0 T0 (pM (mT 74 (.tup [iv (-1),iv (-1),iv (-1)])) (oA (ZQ (X:=iv (-1)) (.tmp 65) rfl rfl) I0 (oA (ZQ (X:=iv (-1)) (.tmp 65) rfl rfl) I0 (oA (ZQ (X:=iv (-1)) (.tmp 65) rfl rfl) I0 (pM (aT 75 (iv (-1))) (pM (aT 76 (iv (-1))) (pM (aT 77 (iv (-1))) (kN 199 [(1,.box 27 (cFm p)),(2,.box 29 (cSz n t f)),(3,.box 31 (Rd.cCg c)),(5,.box 57 (cRu p.rules[r]))] [(4,bv fo),(5,.box 1 0),(6,.box 2 0),(7,.box 3 0),(10,bF),(11,.box 5 0),(12,iv i),(13,iv kp),(14,iv (-1)),(15,iv (-1)),(16,iv (-1))] (Zc ?_)))))))))))))))))))))))
 refine Zb (Zb ?_)
 refine YN (True) (ofL [(1,.box 27 (cFm p)),(2,.box 29 (cSz n t f)),(3,.box 31 (Rd.cCg c)),(5,.box 57 (cRu p.rules[r]))]) (ofT 199 [(4,bv fo),(5,.box 1 0),(6,.box 2 0),(7,.box 3 0),(10,bF),(11,.box 5 0),(12,iv i),(13,iv kp),(14,iv (-1)),(15,iv (-1)),(16,iv (-1)),(85,bv (decide (p.rules[r].kind=2)||decide (p.rules[r].kind=5)))]) ?_ (fun _ => ?_)
 by_cases hs5:p.rules[r].kind=2
 refine Za (oA (fb 1 11 U57 1) I0 (oB (lb (iv p.rules[r].kind) 78 U3) I0 rfl (oC (Zp rfl (dT hs5)) I0 I0 (pM (mT 80 bT) (qK (qK (qK (pP (pk true bT (.v (.tuple #[])) rfl) (kN 199 [(1,.box 27 (cFm p)),(2,.box 29 (cSz n t f)),(3,.box 31 (Rd.cCg c)),(5,.box 57 (cRu p.rules[r]))] [(4,bv fo),(5,.box 1 0),(6,.box 2 0),(7,.box 3 0),(10,bF),(11,.box 5 0),(12,iv i),(13,iv kp),(14,iv (-1)),(15,iv (-1)),(16,iv (-1)),(85,bT)] ?_)))))))))
 rw [show (decide (p.rules[r].kind=2)||decide (p.rules[r].kind=5))=true from (by simp only [Bool.or_eq_true,decide_eq_true_eq];omega)]
 exact Zx T0 (Zk _ _ rfl (by kernel_rfl) (by kernel_rfl))
 refine Za (oA (fb 1 11 U57 1) I0 (oB (lb (iv p.rules[r].kind) 78 U3) I0 rfl (oC (Zp rfl (dF hs5)) I0 I0 (pM (mT 80 bF) (gA (fb 1 11 U57 1) I0 (gB (lb (iv p.rules[r].kind) 82 U3) I0 rfl (gC (Zp rfl (dF (by omega))) I0 I0 (pP (pk false bT bF rfl) (kN 199 [(1,.box 27 (cFm p)),(2,.box 29 (cSz n t f)),(3,.box 31 (Rd.cCg c)),(5,.box 57 (cRu p.rules[r]))] [(4,bv fo),(5,.box 1 0),(6,.box 2 0),(7,.box 3 0),(10,bF),(11,.box 5 0),(12,iv i),(13,iv kp),(14,iv (-1)),(15,iv (-1)),(16,iv (-1)),(85,bF)] ?_)))))))))
 rw [show (decide (p.rules[r].kind=2)||decide (p.rules[r].kind=5))=false from (by simp only [Bool.or_eq_false_iff,decide_eq_false_iff_not];omega)]
 exact Zx T0 (Zk _ _ rfl (by kernel_rfl) (by kernel_rfl))
 refine Zc ?_
 by_cases hs6:(decide (p.rules[r].kind=2)||decide (p.rules[r].kind=5))=true
 have hty:=En.or_t hs6
 rw [hs6]
 refine kW 199 [(1,.box 27 (cFm p)),(2,.box 29 (cSz n t f)),(3,.box 31 (Rd.cCg c)),(5,.box 57 (cRu p.rules[r]))] [(4,bv fo),(5,.box 1 0),(6,.box 2 0),(7,.box 3 0),(10,bF),(11,.box 5 0),(12,iv i),(13,iv kp),(14,iv (-1)),(15,iv (-1)),(16,iv (-1)),(85,bT)] (Zm rfl (Zb (Zb ?_)))
 refine YN (True) (ofL [(1,.box 27 (cFm p)),(2,.box 29 (cSz n t f)),(3,.box 31 (Rd.cCg c)),(5,.box 57 (cRu p.rules[r]))]) (ofT 199 [(4,bv fo),(5,.box 1 0),(6,.box 2 0),(7,.box 3 0),(10,bF),(11,.box 5 0),(12,iv i),(13,iv kp),(14,iv (-1)),(15,iv (-1)),(16,iv (-1)),(107,bv (!En.ptB c p.rules[r] i kp))]) ?_ (fun _ => ?_)
 by_cases hs7:(Rd.inW 0 (((c.st.length:Nat):Int)-1) kp)=true
 have hwk:=En.inW_y hs7
 by_cases hs8:kp=((i:Nat):Int)
 refine Zs (dM (mT 13 (iv kp)) (dA (fb 1 7 U31 1) I0 (dB (lb (Ze c.st) 87 U24) I0 rfl (dA (nS 88 U24) I0 (dC (Z5 (c:=((c.st.length:Nat):Int)-1) rfl (w64 (by omega) (by omega) (by omega))) I0 I0 (dR (sc #[.tmp 86,.const (.int .i64 0),.tmp 90] [] (ZA Ko hs7) [iv kp,iv 0,iv (((c.st.length:Nat):Int)-1)] rfl rfl rfl) ⟨I0,I0,I0,I0,T0⟩ T0 T0 (dA (Zr rfl rfl) I0 (dM (mT 92 bF) (dM (mT 13 (iv kp)) (dM (mT 12 (iv i)) (dC (Zp rfl (dT hs8)) I0 I0 (dP (pk false bT bT rfl) (dM (mT 97 bT) (dK (dK (dK (dK (dK (dK (dK (dK (dP (pk true bT (.v (.tuple #[])) rfl) (dE ?_))))))))))))))))))))))) (by kernel_rfl)
 show ETri J w0 _ _ _
 refine kW 199 [(1,.box 27 (cFm p)),(2,.box 29 (cSz n t f)),(3,.box 31 (Rd.cCg c)),(5,.box 57 (cRu p.rules[r]))] [(4,bv fo),(5,.box 1 0),(6,.box 2 0),(7,.box 3 0),(10,bF),(11,.box 5 0),(12,iv i),(13,iv kp),(14,iv (-1)),(15,iv (-1)),(16,iv (-1)),(107,bT)] ?_
 rw [show (!En.ptB c p.rules[r] i kp)=true from by rw [En.pt_i (En.or_t hs6) hs8];rfl]
 exact Zx T0 (Zk _ _ rfl (by kernel_rfl) (by kernel_rfl))
 by_cases hs9:c.st[kp.toNat]=p.rules[r].pf
 refine Zs (dM (mT 13 (iv kp)) (dA (fb 1 7 U31 1) I0 (dB (lb (Ze c.st) 87 U24) I0 rfl (dA (nS 88 U24) I0 (dC (Z5 (c:=((c.st.length:Nat):Int)-1) rfl (w64 (by omega) (by omega) (by omega))) I0 I0 (dR (sc #[.tmp 86,.const (.int .i64 0),.tmp 90] [] (ZA Ko hs7) [iv kp,iv 0,iv (((c.st.length:Nat):Int)-1)] rfl rfl rfl) ⟨I0,I0,I0,I0,T0⟩ T0 T0 (dA (Zr rfl rfl) I0 (dM (mT 92 bF) (dM (mT 13 (iv kp)) (dM (mT 12 (iv i)) (dC (Zp rfl (dF hs8)) I0 I0 (dP (pk false bT bF rfl) (dM (mT 97 bF) (dA (fb 1 7 U31 1) I0 (dB (lb (Ze c.st) 99 U24) I0 rfl (dM (mT 13 (iv kp)) (dC (xS (kp.toNat*1) 100 101 U24) I0 I0 (dA (lE (iv c.st[kp.toNat]) 102 U3 (ZU c.st (by omega))) I0 (dA (fb 4 11 U57 1) I0 (dB (lb (iv p.rules[r].pf) 104 U3) I0 rfl (dC (Zv rfl (dT' hs9)) I0 I0 (dP (pk false bT bF rfl) (dE ?_))))))))))))))))))))))) (by kernel_rfl)
 show ETri J w0 _ _ _
 refine kW 199 [(1,.box 27 (cFm p)),(2,.box 29 (cSz n t f)),(3,.box 31 (Rd.cCg c)),(5,.box 57 (cRu p.rules[r]))] [(4,bv fo),(5,.box 1 0),(6,.box 2 0),(7,.box 3 0),(10,bF),(11,.box 5 0),(12,iv i),(13,iv kp),(14,iv (-1)),(15,iv (-1)),(16,iv (-1)),(107,bF)] ?_
 rw [show (!En.ptB c p.rules[r] i kp)=false from by rw [En.pt_y (En.or_t hs6) (En.inW_y hs7) hs8 hs9];rfl]
 exact Zx T0 (Zk _ _ rfl (by kernel_rfl) (by kernel_rfl))
 refine Zs (dM (mT 13 (iv kp)) (dA (fb 1 7 U31 1) I0 (dB (lb (Ze c.st) 87 U24) I0 rfl (dA (nS 88 U24) I0 (dC (Z5 (c:=((c.st.length:Nat):Int)-1) rfl (w64 (by omega) (by omega) (by omega))) I0 I0 (dR (sc #[.tmp 86,.const (.int .i64 0),.tmp 90] [] (ZA Ko hs7) [iv kp,iv 0,iv (((c.st.length:Nat):Int)-1)] rfl rfl rfl) ⟨I0,I0,I0,I0,T0⟩ T0 T0 (dA (Zr rfl rfl) I0 (dM (mT 92 bF) (dM (mT 13 (iv kp)) (dM (mT 12 (iv i)) (dC (Zp rfl (dF hs8)) I0 I0 (dP (pk false bT bF rfl) (dM (mT 97 bF) (dA (fb 1 7 U31 1) I0 (dB (lb (Ze c.st) 99 U24) I0 rfl (dM (mT 13 (iv kp)) (dC (xS (kp.toNat*1) 100 101 U24) I0 I0 (dA (lE (iv c.st[kp.toNat]) 102 U3 (ZU c.st (by omega))) I0 (dA (fb 4 11 U57 1) I0 (dB (lb (iv p.rules[r].pf) 104 U3) I0 rfl (dC (Zv rfl (dF' hs9)) I0 I0 (dP (pk false bT bT rfl) (dE ?_))))))))))))))))))))))) (by kernel_rfl)
 show ETri J w0 _ _ _
 refine kW 199 [(1,.box 27 (cFm p)),(2,.box 29 (cSz n t f)),(3,.box 31 (Rd.cCg c)),(5,.box 57 (cRu p.rules[r]))] [(4,bv fo),(5,.box 1 0),(6,.box 2 0),(7,.box 3 0),(10,bF),(11,.box 5 0),(12,iv i),(13,iv kp),(14,iv (-1)),(15,iv (-1)),(16,iv (-1)),(107,bT)] ?_
 rw [show (!En.ptB c p.rules[r] i kp)=true from by rw [En.pt_p (En.or_t hs6) (En.inW_y hs7) hs9];rfl]
 exact Zx T0 (Zk _ _ rfl (by kernel_rfl) (by kernel_rfl))
 have hs7f:(Rd.inW 0 (((c.st.length:Nat):Int)-1) kp)=false:=by simpa using hs7
 refine Zs (dM (mT 13 (iv kp)) (dA (fb 1 7 U31 1) I0 (dB (lb (Ze c.st) 87 U24) I0 rfl (dA (nS 88 U24) I0 (dC (Z5 (c:=((c.st.length:Nat):Int)-1) rfl (w64 (by omega) (by omega) (by omega))) I0 I0 (dR (sc #[.tmp 86,.const (.int .i64 0),.tmp 90] [] (ZA Ko hs7f) [iv kp,iv 0,iv (((c.st.length:Nat):Int)-1)] rfl rfl rfl) ⟨I0,I0,I0,I0,T0⟩ T0 T0 (dA (Zr rfl rfl) I0 (dM (mT 92 bT) (dK (dK (dK (dP (pk true bT (.v (.tuple #[])) rfl) (dM (mT 97 bT) (dK (dK (dK (dK (dK (dK (dK (dK (dP (pk true bT (.v (.tuple #[])) rfl) (dE ?_))))))))))))))))))))))) (by kernel_rfl)
 show ETri J w0 _ _ _
 refine kW 199 [(1,.box 27 (cFm p)),(2,.box 29 (cSz n t f)),(3,.box 31 (Rd.cCg c)),(5,.box 57 (cRu p.rules[r]))] [(4,bv fo),(5,.box 1 0),(6,.box 2 0),(7,.box 3 0),(10,bF),(11,.box 5 0),(12,iv i),(13,iv kp),(14,iv (-1)),(15,iv (-1)),(16,iv (-1)),(107,bT)] ?_
 rw [show (!En.ptB c p.rules[r] i kp)=true from by rw [En.pt_n (En.or_t hs6) (En.inW_n hs7f)];rfl]
 exact Zx T0 (Zk _ _ rfl (by kernel_rfl) (by kernel_rfl))
 refine Zc ?_
 by_cases hs10:(!En.ptB c p.rules[r] i kp)=true
 rw [hs10]
 refine kW 199 [(1,.box 27 (cFm p)),(2,.box 29 (cSz n t f)),(3,.box 31 (Rd.cCg c)),(5,.box 57 (cRu p.rules[r]))] [(4,bv fo),(5,.box 1 0),(6,.box 2 0),(7,.box 3 0),(10,bF),(11,.box 5 0),(12,iv i),(13,iv kp),(14,iv (-1)),(15,iv (-1)),(16,iv (-1)),(107,bT)] (Zm rfl (Zb (Za (pM (aC (.bool false)) (Zd (Zc (Zl (Zf (Zf ?_)))))))))
 refine Zh Tryz.results30 (.tmp rfl) ?_
 exact congrArg (fun x:Bool=>AV.v (.bool x)) ((En.en_pt (by simpa using hs10)).symm)
 have hs10f:(!En.ptB c p.rules[r] i kp)=false:=by simpa using hs10
 rw [hs10f]
 refine kW 199 [(1,.box 27 (cFm p)),(2,.box 29 (cSz n t f)),(3,.box 31 (Rd.cCg c)),(5,.box 57 (cRu p.rules[r]))] [(4,bv fo),(5,.box 1 0),(6,.box 2 0),(7,.box 3 0),(10,bF),(11,.box 5 0),(12,iv i),(13,iv kp),(14,iv (-1)),(15,iv (-1)),(16,iv (-1)),(107,bF)] (Zn rfl (Zi (Zc (Zb (Zb (Za (oA (fb 1 11 U57 1) I0 (oB (lb (iv p.rules[r].kind) 108 U3) I0 rfl (oC (Zp rfl (dT (by have:=En.or_t hs6;omega))) I0 I0 (Zd (Zc (Zm rfl (Zb (Za (pM (aC (.bool true)) (Zd (Zc (Zl (Zf (Zf ?_))))))))))))))))))))
 refine Zh Tryz.results30 (.tmp rfl) ?_
 exact congrArg (fun x:Bool=>AV.v (.bool x)) ((En.en_23 R hi (En.en_b hi hs4f).1 (by simpa using hs10f) (.inl (by have:=(En.or_t hs6);omega)) (En.en_b hi hs4f).2).symm)
 have hs6f:(decide (p.rules[r].kind=2)||decide (p.rules[r].kind=5))=false:=by simpa using hs6
 have hty:=En.or_f hs6f
 rw [hs6f]
 refine kW 199 [(1,.box 27 (cFm p)),(2,.box 29 (cSz n t f)),(3,.box 31 (Rd.cCg c)),(5,.box 57 (cRu p.rules[r]))] [(4,bv fo),(5,.box 1 0),(6,.box 2 0),(7,.box 3 0),(10,bF),(11,.box 5 0),(12,iv i),(13,iv kp),(14,iv (-1)),(15,iv (-1)),(16,iv (-1)),(85,bF)] (Zn rfl (Zi (Zc (Zb (Zb ?_)))))
 by_cases hs11:kp=(-1)
 refine Za (pM (mT 13 (iv kp)) (oC (Zv rfl (dT' hs11)) I0 I0 (Zd (Zc (Zn rfl (Zi (Zc (Zb (Zb ?_)))))))))
 by_cases hs12:p.rules[r].kind=1
 refine Za (oA (fb 1 11 U57 1) I0 (oB (lb (iv p.rules[r].kind) 139 U3) I0 rfl (oC (Zp rfl (dT hs12)) I0 I0 (Zd (Zc (Zm rfl (Zb (Za (oB (lS (cFm p) 10 5 U27) I0 rfl (oB (lS (cSz n t f) 3 6 U29) I0 rfl (oB (lS (Rd.cCg c) 6 7 U31) I0 rfl (oB (lS (cRu p.rules[r]) 18 11 U57) I0 rfl (pM (mT 12 (iv i)) (pM (mT 4 (bv fo)) (ZM rfl (sc #[.tmp 142,.tmp 143,.tmp 144,.tmp 145,.tmp 146,.tmp 147] [] (rlocal_c HL HC hc hf hr R (En.en_b hi hs4f).2) [.agg (cFm p),.agg (cSz n t f),.agg (Rd.cCg c),.agg (cRu p.rules[r]),iv i,bv fo] rfl rfl rfl) ⟨I0,I0,I0,I0,I0,I0,I0,T0⟩ T0 T0 (pM (aT 148 (bv (En.loB n t f c p.rules[r] (En.hdG p f c fo) i))) (Zd (Zc (Zl (Zf ?_))))))))))))))))))))
 refine Zh Tryz.results30 (.tmp rfl) ?_
 exact congrArg (fun x:Bool=>AV.v (.bool x)) ((En.en_1 hi (En.en_b hi hs4f).1 (En.pt_1 (En.or_f hs6f) hs11) hs12).symm)
 refine Za (oA (fb 1 11 U57 1) I0 (oB (lb (iv p.rules[r].kind) 139 U3) I0 rfl (oC (Zp rfl (dF hs12)) I0 I0 (Zd (Zc (Zn rfl (Zi (Zc (Zb (Zb (Za (oA (fb 1 11 U57 1) I0 (oB (lb (iv p.rules[r].kind) 149 U3) I0 rfl (oC (Zp rfl (dT (by have:=En.or_f hs6f;omega))) I0 I0 (Zd (Zc (Zm rfl (Zb (Za (pM (aC (.bool true)) (Zd (Zc (Zl ?_)))))))))))))))))))))))
 refine Zf ?_
 refine Zh Tryz.results30 (.tmp rfl) ?_
 exact congrArg (fun x:Bool=>AV.v (.bool x)) ((En.en_23 R hi (En.en_b hi hs4f).1 (En.pt_1 (En.or_f hs6f) hs11) (.inr (by have:=(En.or_f hs6f);omega)) (En.en_b hi hs4f).2).symm)
 refine Za (pM (mT 13 (iv kp)) (oC (Zv rfl (dF' hs11)) I0 I0 (Zd (Zc (Zm rfl (Zb (Za (pM (aC (.bool false)) (Zd (Zc (Zl (Zf ?_))))))))))))
 refine Zh Tryz.results30 (.tmp rfl) ?_
 exact congrArg (fun x:Bool=>AV.v (.bool x)) ((En.en_pt (En.pt_o (En.or_f hs6f) hs11)).symm)
theorem renabled_in2 {p:Fm} (HL:FamLen p) {n t f:Int} {c:Cf} (HC:Rd.CgOk c) (hc:En.CfV p n f c) (hv:valE p=0) (hf:0≤f∧f≤1048576) {r:Nat} (hr:r<p.rules.length) {i:Nat} (hi:i<c.st.length) {kp:Int} {fo:Bool} (h1:¬ p.top=1):Ctr Tryz.prog J 30 [.agg (cFm p),.agg (cSz n t f),.agg (Rd.cCg c),.agg [iv r,iv i,iv kp],bv fo] (bv (En.enR p.top n t f c (En.hdG p f c fo) p.rules[r] i kp)):=by
 have R:=En.val_in hv (List.getElem_mem hr)
 have hz:=En.val_sizes hv
 have hlst:=HC.lst
 have hkd:=R.kd
 have hkt:=R.kt
 have htop:=Jd.top_in hv
 have hlk:=En.lk_ok hc h1 htop hi
 refine Zw Tryz.func30 rfl (by intro X hX;simp only [List.mem_cons,List.not_mem_nil,or_false] at hX;rcases hX with rfl | rfl | rfl | rfl | rfl;exact Zq (Z9 p);exact Zq (Yi n t f);exact Zq (Rd.plain_cg c);exact Zq (fun X hX=>by simp only [List.mem_cons,List.not_mem_nil,or_false] at hX;rcases hX with rfl | rfl | rfl<;>exact .v _);exact .v _) (n:=199) rfl (by simp) (fun w0 => ?_)
 refine kW 199 [] [(0,.agg (cFm p)),(1,.agg (cSz n t f)),(2,.agg (Rd.cCg c)),(3,.agg [iv r,iv i,iv kp]),(4,bv fo)] (Zb (Za (ZM rfl (ZT (X := .agg (cFm p)) (k:=1) (.tmp 0) rfl rfl) ⟨I0,T0⟩ T0 rfl (ZM rfl (ZT (X := .agg (cSz n t f)) (k:=2) (.tmp 1) rfl rfl) ⟨I0,T0⟩ T0 rfl (ZM rfl (ZT (X := .agg (Rd.cCg c)) (k:=3) (.tmp 2) rfl rfl) ⟨I0,T0⟩ T0 rfl (ZM rfl (ZT (X := .agg [iv r,iv i,iv kp]) (k:=4) (.tmp 3) rfl rfl) ⟨I0,T0⟩ T0 rfl (pM (aC (.bool false)) (Zd (Zc (Zb (Zb (Za (oA (fb 0 8 U35 1) I0 (oB (lb (iv r) 17 U3) I0 rfl (oA (fb 9 5 U27 1) I0 (oB (lb (slA 18 cRu p.rules) 19 U25) I0 rfl (oA (nS 20 U25) I0 (oC (Z5 (c:=((p.rules.length:Nat):Int)-1) rfl (w64 (by omega) (by omega) (by omega))) I0 I0 (ZM rfl (sc #[.tmp 18,.const (.int .i64 0),.tmp 22] [] (ZA Ko (Jd.in_w hr)) [iv r,iv 0,iv (((p.rules.length:Nat):Int)-1)] rfl rfl rfl) ⟨I0,I0,I0,I0,T0⟩ T0 T0 (oA (Zr rfl rfl) I0 (pM (mT 24 bF) (gA (fb 1 8 U35 1) I0 (gB (lb (iv i) 26 U3) I0 rfl ?_)))))))))))))))))))))))
 refine gA (fb 1 7 U31 1) I0 (gB (lb (Ze c.st) 28 U24) I0 rfl (gA (nS 29 U24) I0 (gC (Z5 (c:=((c.st.length:Nat):Int)-1) rfl (w64 (by omega) (by omega) (by omega))) I0 I0 (YC rfl (sc #[.tmp 27,.const (.int .i64 0),.tmp 31] [] (ZA Ko (Jd.in_w hi)) [iv i,iv 0,iv (((c.st.length:Nat):Int)-1)] rfl rfl rfl) ⟨I0,I0,I0,I0,T0⟩ T0 T0 (gA (Zr rfl rfl) I0 (pP (pk false bT bF rfl) (Zd (Zc (Zn rfl (Zi (Zc (Zb ?_))))))))))))
 refine Zs (dA (fb 9 5 U27 1) I0 (dB (lb (slA 18 cRu p.rules) 35 U25) I0 rfl (dA (fb 0 8 U35 1) I0 (dB (lb (iv r) 37 U3) I0 rfl (dC (xS (r*18) 36 38 U25) I0 I0 (dA (ZC (z:=18) (.tmp 39) rfl U57 rfl (by kernel_rfl) (YS lenRu p.rules r (by omega)) rfl) I0 (dA (fb 1 8 U35 1) I0 (dB (lb (iv i) 41 U3) I0 rfl (dA (fb 2 8 U35 1) I0 (dB (lb (iv kp) 43 U3) I0 rfl (dR (Yl (z := .agg #[.string (⟨#[]⟩),.int .i64 0,.int .i64 0,.int .i64 0,.int .i64 0,.int .i64 0,.slice none 0 0,.slice none 0 0,.slice none 0 0,.slice none 0 0,.int .i64 0,.int .i64 0,.slice none 0 0,.int .i64 0,.slice none 0 0,.slice none 0 0,.slice none 0 0,.int .i64 0]) (k:=5) rfl (by kernel_rfl)) T0 T0 rfl (dR (sB 18 11 (.tmp 40) (.agg (cRu p.rules[r]))) ⟨I0,I0,T0⟩ ⟨rfl,T0⟩ rfl (dM (aT 42 (iv i)) (dM (aT 44 (iv kp)) (dE ?_))))))))))))))) (by kernel_rfl)
 show ETri J w0 _ _ _
 refine kW 199 [(1,.box 27 (cFm p)),(2,.box 29 (cSz n t f)),(3,.box 31 (Rd.cCg c)),(5,.box 57 (cRu p.rules[r]))] [(4,bv fo),(5,.box 1 0),(6,.box 2 0),(7,.box 3 0),(10,bF),(11,.box 5 0),(12,iv i),(13,iv kp)] (Zc (Zb (Zb ?_)))
 refine YN (True) (ofL [(1,.box 27 (cFm p)),(2,.box 29 (cSz n t f)),(3,.box 31 (Rd.cCg c)),(5,.box 57 (cRu p.rules[r]))]) (ofT 199 [(4,bv fo),(5,.box 1 0),(6,.box 2 0),(7,.box 3 0),(10,bF),(11,.box 5 0),(12,iv i),(13,iv kp),(64,bv (!decide (c.st[i]=p.rules[r].frm)||En.rdN c p.rules[r]))]) ?_ (fun _ => ?_)
 by_cases hs1:c.st[i]=p.rules[r].frm
 by_cases hs2:p.rules[r].rd=(-1)
 refine Zs (dA (fb 1 7 U31 1) I0 (dB (lb (Ze c.st) 45 U24) I0 rfl (dM (mT 12 (iv i)) (dC (xS (i*1) 46 47 U24) I0 I0 (dA (lE (iv c.st[i]) 48 U3 (ZU c.st (by omega))) I0 (dA (fb 2 11 U57 1) I0 (dB (lb (iv p.rules[r].frm) 50 U3) I0 rfl (dC (Zv rfl (dT' hs1)) I0 I0 (dM (mT 52 bF) (dA (fb 10 11 U57 1) I0 (dB (lb (iv p.rules[r].rd) 54 U3) I0 rfl (dC (Zv rfl (dT' hs2)) I0 I0 (dM (mT 56 bF) (dK (dK (dK (dK (dK (dP (pk false (.v (.tuple #[])) bF rfl) (dP (pk false bT bF rfl) (dE ?_))))))))))))))))))))) (by kernel_rfl)
 show ETri J w0 _ _ _
 refine kW 199 [(1,.box 27 (cFm p)),(2,.box 29 (cSz n t f)),(3,.box 31 (Rd.cCg c)),(5,.box 57 (cRu p.rules[r]))] [(4,bv fo),(5,.box 1 0),(6,.box 2 0),(7,.box 3 0),(10,bF),(11,.box 5 0),(12,iv i),(13,iv kp),(64,bF)] ?_
 rw [show (!decide (c.st[i]=p.rules[r].frm)||En.rdN c p.rules[r])=false from by rw [decide_eq_true hs1,En.rdN_f (.inl hs2)];rfl]
 exact Zx T0 (Zk _ _ rfl (by kernel_rfl) (by kernel_rfl))
 by_cases hs3:c.val=p.rules[r].rd
 refine Zs (dA (fb 1 7 U31 1) I0 (dB (lb (Ze c.st) 45 U24) I0 rfl (dM (mT 12 (iv i)) (dC (xS (i*1) 46 47 U24) I0 I0 (dA (lE (iv c.st[i]) 48 U3 (ZU c.st (by omega))) I0 (dA (fb 2 11 U57 1) I0 (dB (lb (iv p.rules[r].frm) 50 U3) I0 rfl (dC (Zv rfl (dT' hs1)) I0 I0 (dM (mT 52 bF) (dA (fb 10 11 U57 1) I0 (dB (lb (iv p.rules[r].rd) 54 U3) I0 rfl (dC (Zv rfl (dF' hs2)) I0 I0 (dM (mT 56 bT) (dA (fb 5 7 U31 1) I0 (dB (lb (iv c.val) 58 U3) I0 rfl (dA (fb 10 11 U57 1) I0 (dB (lb (iv p.rules[r].rd) 60 U3) I0 rfl (dC (Zv rfl (dT' hs3)) I0 I0 (dP (pk true bF bF rfl) (dP (pk false bT bF rfl) (dE ?_))))))))))))))))))))) (by kernel_rfl)
 show ETri J w0 _ _ _
 refine kW 199 [(1,.box 27 (cFm p)),(2,.box 29 (cSz n t f)),(3,.box 31 (Rd.cCg c)),(5,.box 57 (cRu p.rules[r]))] [(4,bv fo),(5,.box 1 0),(6,.box 2 0),(7,.box 3 0),(10,bF),(11,.box 5 0),(12,iv i),(13,iv kp),(64,bF)] ?_
 rw [show (!decide (c.st[i]=p.rules[r].frm)||En.rdN c p.rules[r])=false from by rw [decide_eq_true hs1,En.rdN_f (.inr hs3)];rfl]
 exact Zx T0 (Zk _ _ rfl (by kernel_rfl) (by kernel_rfl))
 refine Zs (dA (fb 1 7 U31 1) I0 (dB (lb (Ze c.st) 45 U24) I0 rfl (dM (mT 12 (iv i)) (dC (xS (i*1) 46 47 U24) I0 I0 (dA (lE (iv c.st[i]) 48 U3 (ZU c.st (by omega))) I0 (dA (fb 2 11 U57 1) I0 (dB (lb (iv p.rules[r].frm) 50 U3) I0 rfl (dC (Zv rfl (dT' hs1)) I0 I0 (dM (mT 52 bF) (dA (fb 10 11 U57 1) I0 (dB (lb (iv p.rules[r].rd) 54 U3) I0 rfl (dC (Zv rfl (dF' hs2)) I0 I0 (dM (mT 56 bT) (dA (fb 5 7 U31 1) I0 (dB (lb (iv c.val) 58 U3) I0 rfl (dA (fb 10 11 U57 1) I0 (dB (lb (iv p.rules[r].rd) 60 U3) I0 rfl (dC (Zv rfl (dF' hs3)) I0 I0 (dP (pk true bT bF rfl) (dP (pk false bT bT rfl) (dE ?_))))))))))))))))))))) (by kernel_rfl)
 show ETri J w0 _ _ _
 refine kW 199 [(1,.box 27 (cFm p)),(2,.box 29 (cSz n t f)),(3,.box 31 (Rd.cCg c)),(5,.box 57 (cRu p.rules[r]))] [(4,bv fo),(5,.box 1 0),(6,.box 2 0),(7,.box 3 0),(10,bF),(11,.box 5 0),(12,iv i),(13,iv kp),(64,bT)] ?_
 rw [show (!decide (c.st[i]=p.rules[r].frm)||En.rdN c p.rules[r])=true from by rw [decide_eq_true hs1,En.rdN_t R hs2 hs3];rfl]
 exact Zx T0 (Zk _ _ rfl (by kernel_rfl) (by kernel_rfl))
 refine Zs (dA (fb 1 7 U31 1) I0 (dB (lb (Ze c.st) 45 U24) I0 rfl (dM (mT 12 (iv i)) (dC (xS (i*1) 46 47 U24) I0 I0 (dA (lE (iv c.st[i]) 48 U3 (ZU c.st (by omega))) I0 (dA (fb 2 11 U57 1) I0 (dB (lb (iv p.rules[r].frm) 50 U3) I0 rfl (dC (Zv rfl (dF' hs1)) I0 I0 (dM (mT 52 bT) (dK (dK (dK (dK (dK (dK (dK (dK (dK (dK (dP (pk true bT (.v (.tuple #[])) rfl) (dE ?_))))))))))))))))))))) (by kernel_rfl)
 show ETri J w0 _ _ _
 refine kW 199 [(1,.box 27 (cFm p)),(2,.box 29 (cSz n t f)),(3,.box 31 (Rd.cCg c)),(5,.box 57 (cRu p.rules[r]))] [(4,bv fo),(5,.box 1 0),(6,.box 2 0),(7,.box 3 0),(10,bF),(11,.box 5 0),(12,iv i),(13,iv kp),(64,bT)] ?_
 rw [show (!decide (c.st[i]=p.rules[r].frm)||En.rdN c p.rules[r])=true from by rw [decide_eq_false hs1];rfl]
 exact Zx T0 (Zk _ _ rfl (by kernel_rfl) (by kernel_rfl))
 refine Zc ?_
 by_cases hs4:(!decide (c.st[i]=p.rules[r].frm)||En.rdN c p.rules[r])=true
 rw [hs4]
 refine kW 199 [(1,.box 27 (cFm p)),(2,.box 29 (cSz n t f)),(3,.box 31 (Rd.cCg c)),(5,.box 57 (cRu p.rules[r]))] [(4,bv fo),(5,.box 1 0),(6,.box 2 0),(7,.box 3 0),(10,bF),(11,.box 5 0),(12,iv i),(13,iv kp),(64,bT)] (Zm rfl (Zb (Za (pM (aC (.bool false)) (Zd (Zc (Zl (Zf ?_))))))))
 refine Zh Tryz.results30 (.tmp rfl) ?_
 exact congrArg (fun x:Bool=>AV.v (.bool x)) ((En.en_a R hi hs4).symm)
 have hs4f:(!decide (c.st[i]=p.rules[r].frm)||En.rdN c p.rules[r])=false:=by simpa using hs4
 rw [hs4f]
 refine kW 199 [(1,.box 27 (cFm p)),(2,.box 29 (cSz n t f)),(3,.box 31 (Rd.cCg c)),(5,.box 57 (cRu p.rules[r]))] [(4,bv fo),(5,.box 1 0),(6,.box 2 0),(7,.box 3 0),(10,bF),(11,.box 5 0),(12,iv i),(13,iv kp),(64,bF)] (Zn rfl (Zi (Zc (Zb (Za (oA (fb 1 5 U27 1) I0 (oB (lb (iv p.top) 66 U3) I0 rfl (oA (fb 0 7 U31 1) I0 (oB (lb (Ze c.sh) 68 U24) I0 rfl (oA (fb 1 7 U31 1) I0 (oB (lb (Ze c.st) 70 U24) I0 rfl (oA (nS 71 U24) I0 (pM (mT 12 (iv i)) (ZM rfl (sc #[.tmp 67,.tmp 69,.tmp 72,.tmp 73] [] (nbNo_c HC hc hv hi h1) [iv p.top,Ze c.sh,iv c.st.length,iv i] rfl rfl rfl) ⟨I0,I0,I0,I0,I0,T0⟩ T0 T0 (pM (mT 74 (.tup [iv (Jd.lkF p.top c.sh c.st.length i),iv (Jd.lkS p.top c.sh c.st.length i),iv (En.lkP p.top c.sh c.st.length i)])) (oA (ZQ (X:=iv (Jd.lkF p.top c.sh c.st.length i)) (.tmp 65) rfl rfl) I0 (oA (ZQ (X:=iv (Jd.lkS p.top c.sh c.st.length i)) (.tmp 65) rfl rfl) I0 (oA (ZQ (X:=iv (En.lkP p.top c.sh c.st.length i)) (.tmp 65) rfl rfl) I0 (pM (aT 75 (iv (Jd.lkF p.top c.sh c.st.length i))) (pM (aT 76 (iv (Jd.lkS p.top c.sh c.st.length i))) (pM (aT 77 (iv (En.lkP p.top c.sh c.st.length i))) (kN 199 [(1,.box 27 (cFm p)),(2,.box 29 (cSz n t f)),(3,.box 31 (Rd.cCg c)),(5,.box 57 (cRu p.rules[r]))] [(4,bv fo),(5,.box 1 0),(6,.box 2 0),(7,.box 3 0),(10,bF),(11,.box 5 0),(12,iv i),(13,iv kp),(14,iv (Jd.lkF p.top c.sh c.st.length i)),(15,iv (Jd.lkS p.top c.sh c.st.length i)),(16,iv (En.lkP p.top c.sh c.st.length i))] (Zc ?_)))))))))))))))))))))))
 refine Zb (Zb ?_)
 refine YN (True) (ofL [(1,.box 27 (cFm p)),(2,.box 29 (cSz n t f)),(3,.box 31 (Rd.cCg c)),(5,.box 57 (cRu p.rules[r]))]) (ofT 199 [(4,bv fo),(5,.box 1 0),(6,.box 2 0),(7,.box 3 0),(10,bF),(11,.box 5 0),(12,iv i),(13,iv kp),(14,iv (Jd.lkF p.top c.sh c.st.length i)),(15,iv (Jd.lkS p.top c.sh c.st.length i)),(16,iv (En.lkP p.top c.sh c.st.length i)),(85,bv (decide (p.rules[r].kind=2)||decide (p.rules[r].kind=5)))]) ?_ (fun _ => ?_)
 by_cases hs5:p.rules[r].kind=5
 refine Za (oA (fb 1 11 U57 1) I0 (oB (lb (iv p.rules[r].kind) 78 U3) I0 rfl (oC (Zp rfl (dF (by omega))) I0 I0 (pM (mT 80 bF) (gA (fb 1 11 U57 1) I0 (gB (lb (iv p.rules[r].kind) 82 U3) I0 rfl (gC (Zp rfl (dT hs5)) I0 I0 (pP (pk false bT bT rfl) (kN 199 [(1,.box 27 (cFm p)),(2,.box 29 (cSz n t f)),(3,.box 31 (Rd.cCg c)),(5,.box 57 (cRu p.rules[r]))] [(4,bv fo),(5,.box 1 0),(6,.box 2 0),(7,.box 3 0),(10,bF),(11,.box 5 0),(12,iv i),(13,iv kp),(14,iv (Jd.lkF p.top c.sh c.st.length i)),(15,iv (Jd.lkS p.top c.sh c.st.length i)),(16,iv (En.lkP p.top c.sh c.st.length i)),(85,bT)] ?_)))))))))
 rw [show (decide (p.rules[r].kind=2)||decide (p.rules[r].kind=5))=true from (by simp only [Bool.or_eq_true,decide_eq_true_eq];omega)]
 exact Zx T0 (Zk _ _ rfl (by kernel_rfl) (by kernel_rfl))
 refine Za (oA (fb 1 11 U57 1) I0 (oB (lb (iv p.rules[r].kind) 78 U3) I0 rfl (oC (Zp rfl (dF (by omega))) I0 I0 (pM (mT 80 bF) (gA (fb 1 11 U57 1) I0 (gB (lb (iv p.rules[r].kind) 82 U3) I0 rfl (gC (Zp rfl (dF hs5)) I0 I0 (pP (pk false bT bF rfl) (kN 199 [(1,.box 27 (cFm p)),(2,.box 29 (cSz n t f)),(3,.box 31 (Rd.cCg c)),(5,.box 57 (cRu p.rules[r]))] [(4,bv fo),(5,.box 1 0),(6,.box 2 0),(7,.box 3 0),(10,bF),(11,.box 5 0),(12,iv i),(13,iv kp),(14,iv (Jd.lkF p.top c.sh c.st.length i)),(15,iv (Jd.lkS p.top c.sh c.st.length i)),(16,iv (En.lkP p.top c.sh c.st.length i)),(85,bF)] ?_)))))))))
 rw [show (decide (p.rules[r].kind=2)||decide (p.rules[r].kind=5))=false from (by simp only [Bool.or_eq_false_iff,decide_eq_false_iff_not];omega)]
 exact Zx T0 (Zk _ _ rfl (by kernel_rfl) (by kernel_rfl))
 refine Zc ?_
 by_cases hs6:(decide (p.rules[r].kind=2)||decide (p.rules[r].kind=5))=true
 have hty:=En.or_t hs6
 rw [hs6]
 refine kW 199 [(1,.box 27 (cFm p)),(2,.box 29 (cSz n t f)),(3,.box 31 (Rd.cCg c)),(5,.box 57 (cRu p.rules[r]))] [(4,bv fo),(5,.box 1 0),(6,.box 2 0),(7,.box 3 0),(10,bF),(11,.box 5 0),(12,iv i),(13,iv kp),(14,iv (Jd.lkF p.top c.sh c.st.length i)),(15,iv (Jd.lkS p.top c.sh c.st.length i)),(16,iv (En.lkP p.top c.sh c.st.length i)),(85,bT)] (Zm rfl (Zb (Zb ?_)))
 refine YN (True) (ofL [(1,.box 27 (cFm p)),(2,.box 29 (cSz n t f)),(3,.box 31 (Rd.cCg c)),(5,.box 57 (cRu p.rules[r]))]) (ofT 199 [(4,bv fo),(5,.box 1 0),(6,.box 2 0),(7,.box 3 0),(10,bF),(11,.box 5 0),(12,iv i),(13,iv kp),(14,iv (Jd.lkF p.top c.sh c.st.length i)),(15,iv (Jd.lkS p.top c.sh c.st.length i)),(16,iv (En.lkP p.top c.sh c.st.length i)),(107,bv (!En.ptB c p.rules[r] i kp))]) ?_ (fun _ => ?_)
 by_cases hs7:(Rd.inW 0 (((c.st.length:Nat):Int)-1) kp)=true
 have hwk:=En.inW_y hs7
 by_cases hs8:kp=((i:Nat):Int)
 refine Zs (dM (mT 13 (iv kp)) (dA (fb 1 7 U31 1) I0 (dB (lb (Ze c.st) 87 U24) I0 rfl (dA (nS 88 U24) I0 (dC (Z5 (c:=((c.st.length:Nat):Int)-1) rfl (w64 (by omega) (by omega) (by omega))) I0 I0 (dR (sc #[.tmp 86,.const (.int .i64 0),.tmp 90] [] (ZA Ko hs7) [iv kp,iv 0,iv (((c.st.length:Nat):Int)-1)] rfl rfl rfl) ⟨I0,I0,I0,I0,T0⟩ T0 T0 (dA (Zr rfl rfl) I0 (dM (mT 92 bF) (dM (mT 13 (iv kp)) (dM (mT 12 (iv i)) (dC (Zp rfl (dT hs8)) I0 I0 (dP (pk false bT bT rfl) (dM (mT 97 bT) (dK (dK (dK (dK (dK (dK (dK (dK (dP (pk true bT (.v (.tuple #[])) rfl) (dE ?_))))))))))))))))))))))) (by kernel_rfl)
 show ETri J w0 _ _ _
 refine kW 199 [(1,.box 27 (cFm p)),(2,.box 29 (cSz n t f)),(3,.box 31 (Rd.cCg c)),(5,.box 57 (cRu p.rules[r]))] [(4,bv fo),(5,.box 1 0),(6,.box 2 0),(7,.box 3 0),(10,bF),(11,.box 5 0),(12,iv i),(13,iv kp),(14,iv (Jd.lkF p.top c.sh c.st.length i)),(15,iv (Jd.lkS p.top c.sh c.st.length i)),(16,iv (En.lkP p.top c.sh c.st.length i)),(107,bT)] ?_
 rw [show (!En.ptB c p.rules[r] i kp)=true from by rw [En.pt_i (En.or_t hs6) hs8];rfl]
 exact Zx T0 (Zk _ _ rfl (by kernel_rfl) (by kernel_rfl))
 by_cases hs9:c.st[kp.toNat]=p.rules[r].pf
 refine Zs (dM (mT 13 (iv kp)) (dA (fb 1 7 U31 1) I0 (dB (lb (Ze c.st) 87 U24) I0 rfl (dA (nS 88 U24) I0 (dC (Z5 (c:=((c.st.length:Nat):Int)-1) rfl (w64 (by omega) (by omega) (by omega))) I0 I0 (dR (sc #[.tmp 86,.const (.int .i64 0),.tmp 90] [] (ZA Ko hs7) [iv kp,iv 0,iv (((c.st.length:Nat):Int)-1)] rfl rfl rfl) ⟨I0,I0,I0,I0,T0⟩ T0 T0 (dA (Zr rfl rfl) I0 (dM (mT 92 bF) (dM (mT 13 (iv kp)) (dM (mT 12 (iv i)) (dC (Zp rfl (dF hs8)) I0 I0 (dP (pk false bT bF rfl) (dM (mT 97 bF) (dA (fb 1 7 U31 1) I0 (dB (lb (Ze c.st) 99 U24) I0 rfl (dM (mT 13 (iv kp)) (dC (xS (kp.toNat*1) 100 101 U24) I0 I0 (dA (lE (iv c.st[kp.toNat]) 102 U3 (ZU c.st (by omega))) I0 (dA (fb 4 11 U57 1) I0 (dB (lb (iv p.rules[r].pf) 104 U3) I0 rfl (dC (Zv rfl (dT' hs9)) I0 I0 (dP (pk false bT bF rfl) (dE ?_))))))))))))))))))))))) (by kernel_rfl)
 show ETri J w0 _ _ _
 refine kW 199 [(1,.box 27 (cFm p)),(2,.box 29 (cSz n t f)),(3,.box 31 (Rd.cCg c)),(5,.box 57 (cRu p.rules[r]))] [(4,bv fo),(5,.box 1 0),(6,.box 2 0),(7,.box 3 0),(10,bF),(11,.box 5 0),(12,iv i),(13,iv kp),(14,iv (Jd.lkF p.top c.sh c.st.length i)),(15,iv (Jd.lkS p.top c.sh c.st.length i)),(16,iv (En.lkP p.top c.sh c.st.length i)),(107,bF)] ?_
 rw [show (!En.ptB c p.rules[r] i kp)=false from by rw [En.pt_y (En.or_t hs6) (En.inW_y hs7) hs8 hs9];rfl]
 exact Zx T0 (Zk _ _ rfl (by kernel_rfl) (by kernel_rfl))
 refine Zs (dM (mT 13 (iv kp)) (dA (fb 1 7 U31 1) I0 (dB (lb (Ze c.st) 87 U24) I0 rfl (dA (nS 88 U24) I0 (dC (Z5 (c:=((c.st.length:Nat):Int)-1) rfl (w64 (by omega) (by omega) (by omega))) I0 I0 (dR (sc #[.tmp 86,.const (.int .i64 0),.tmp 90] [] (ZA Ko hs7) [iv kp,iv 0,iv (((c.st.length:Nat):Int)-1)] rfl rfl rfl) ⟨I0,I0,I0,I0,T0⟩ T0 T0 (dA (Zr rfl rfl) I0 (dM (mT 92 bF) (dM (mT 13 (iv kp)) (dM (mT 12 (iv i)) (dC (Zp rfl (dF hs8)) I0 I0 (dP (pk false bT bF rfl) (dM (mT 97 bF) (dA (fb 1 7 U31 1) I0 (dB (lb (Ze c.st) 99 U24) I0 rfl (dM (mT 13 (iv kp)) (dC (xS (kp.toNat*1) 100 101 U24) I0 I0 (dA (lE (iv c.st[kp.toNat]) 102 U3 (ZU c.st (by omega))) I0 (dA (fb 4 11 U57 1) I0 (dB (lb (iv p.rules[r].pf) 104 U3) I0 rfl (dC (Zv rfl (dF' hs9)) I0 I0 (dP (pk false bT bT rfl) (dE ?_))))))))))))))))))))))) (by kernel_rfl)
 show ETri J w0 _ _ _
 refine kW 199 [(1,.box 27 (cFm p)),(2,.box 29 (cSz n t f)),(3,.box 31 (Rd.cCg c)),(5,.box 57 (cRu p.rules[r]))] [(4,bv fo),(5,.box 1 0),(6,.box 2 0),(7,.box 3 0),(10,bF),(11,.box 5 0),(12,iv i),(13,iv kp),(14,iv (Jd.lkF p.top c.sh c.st.length i)),(15,iv (Jd.lkS p.top c.sh c.st.length i)),(16,iv (En.lkP p.top c.sh c.st.length i)),(107,bT)] ?_
 rw [show (!En.ptB c p.rules[r] i kp)=true from by rw [En.pt_p (En.or_t hs6) (En.inW_y hs7) hs9];rfl]
 exact Zx T0 (Zk _ _ rfl (by kernel_rfl) (by kernel_rfl))
 have hs7f:(Rd.inW 0 (((c.st.length:Nat):Int)-1) kp)=false:=by simpa using hs7
 refine Zs (dM (mT 13 (iv kp)) (dA (fb 1 7 U31 1) I0 (dB (lb (Ze c.st) 87 U24) I0 rfl (dA (nS 88 U24) I0 (dC (Z5 (c:=((c.st.length:Nat):Int)-1) rfl (w64 (by omega) (by omega) (by omega))) I0 I0 (dR (sc #[.tmp 86,.const (.int .i64 0),.tmp 90] [] (ZA Ko hs7f) [iv kp,iv 0,iv (((c.st.length:Nat):Int)-1)] rfl rfl rfl) ⟨I0,I0,I0,I0,T0⟩ T0 T0 (dA (Zr rfl rfl) I0 (dM (mT 92 bT) (dK (dK (dK (dP (pk true bT (.v (.tuple #[])) rfl) (dM (mT 97 bT) (dK (dK (dK (dK (dK (dK (dK (dK (dP (pk true bT (.v (.tuple #[])) rfl) (dE ?_))))))))))))))))))))))) (by kernel_rfl)
 show ETri J w0 _ _ _
 refine kW 199 [(1,.box 27 (cFm p)),(2,.box 29 (cSz n t f)),(3,.box 31 (Rd.cCg c)),(5,.box 57 (cRu p.rules[r]))] [(4,bv fo),(5,.box 1 0),(6,.box 2 0),(7,.box 3 0),(10,bF),(11,.box 5 0),(12,iv i),(13,iv kp),(14,iv (Jd.lkF p.top c.sh c.st.length i)),(15,iv (Jd.lkS p.top c.sh c.st.length i)),(16,iv (En.lkP p.top c.sh c.st.length i)),(107,bT)] ?_
 rw [show (!En.ptB c p.rules[r] i kp)=true from by rw [En.pt_n (En.or_t hs6) (En.inW_n hs7f)];rfl]
 exact Zx T0 (Zk _ _ rfl (by kernel_rfl) (by kernel_rfl))
 refine Zc ?_
 by_cases hs10:(!En.ptB c p.rules[r] i kp)=true
 rw [hs10]
 refine kW 199 [(1,.box 27 (cFm p)),(2,.box 29 (cSz n t f)),(3,.box 31 (Rd.cCg c)),(5,.box 57 (cRu p.rules[r]))] [(4,bv fo),(5,.box 1 0),(6,.box 2 0),(7,.box 3 0),(10,bF),(11,.box 5 0),(12,iv i),(13,iv kp),(14,iv (Jd.lkF p.top c.sh c.st.length i)),(15,iv (Jd.lkS p.top c.sh c.st.length i)),(16,iv (En.lkP p.top c.sh c.st.length i)),(107,bT)] (Zm rfl (Zb (Za (pM (aC (.bool false)) (Zd (Zc (Zl (Zf (Zf ?_)))))))))
 refine Zh Tryz.results30 (.tmp rfl) ?_
 exact congrArg (fun x:Bool=>AV.v (.bool x)) ((En.en_pt (by simpa using hs10)).symm)
 have hs10f:(!En.ptB c p.rules[r] i kp)=false:=by simpa using hs10
 rw [hs10f]
 refine kW 199 [(1,.box 27 (cFm p)),(2,.box 29 (cSz n t f)),(3,.box 31 (Rd.cCg c)),(5,.box 57 (cRu p.rules[r]))] [(4,bv fo),(5,.box 1 0),(6,.box 2 0),(7,.box 3 0),(10,bF),(11,.box 5 0),(12,iv i),(13,iv kp),(14,iv (Jd.lkF p.top c.sh c.st.length i)),(15,iv (Jd.lkS p.top c.sh c.st.length i)),(16,iv (En.lkP p.top c.sh c.st.length i)),(107,bF)] (Zn rfl (Zi (Zc (Zb (Zb (Za (oA (fb 1 11 U57 1) I0 (oB (lb (iv p.rules[r].kind) 108 U3) I0 rfl (oC (Zp rfl (dF (by omega))) I0 I0 (Zd (Zc (Zn rfl (Zi (Zc (Zb (Zb ?_))))))))))))))))
 by_cases hs11:p.rules[r].dir=1
 refine Za (oA (fb 17 11 U57 1) I0 (oB (lb (iv p.rules[r].dir) 111 U3) I0 rfl (oC (Zp rfl (dT hs11)) I0 I0 (Zd (Zc (Zm rfl (Zb (Za (pM (mT 13 (iv kp)) (pM (mT 15 (iv (Jd.lkS p.top c.sh c.st.length i))) (oC (Zp rfl rfl) I0 I0 (pM (aT 116 (bv (decide (kp=(Jd.lkS p.top c.sh c.st.length i))))) (Zd (Zc (Zl (Zf (Zf ?_)))))))))))))))))
 refine Zh Tryz.results30 (.tmp rfl) ?_
 exact congrArg (fun x:Bool=>AV.v (.bool x)) ((by rw [En.en_5 hi (En.en_b hi hs4f).1 (by simpa using hs10f) (by have:=(En.or_t hs6);omega)];unfold En.psB;rw [if_pos hs11]))
 refine Za (oA (fb 17 11 U57 1) I0 (oB (lb (iv p.rules[r].dir) 111 U3) I0 rfl (oC (Zp rfl (dF hs11)) I0 I0 (Zd (Zc (Zn rfl (Zi (Zc (Zb (Zb ?_))))))))))
 by_cases hs12:p.rules[r].dir=2
 refine Za (oA (fb 17 11 U57 1) I0 (oB (lb (iv p.rules[r].dir) 117 U3) I0 rfl (oC (Zp rfl (dT hs12)) I0 I0 (Zd (Zc (Zm rfl (Zb (Za (pM (mT 13 (iv kp)) (pM (mT 14 (iv (Jd.lkF p.top c.sh c.st.length i))) (oC (Zp rfl rfl) I0 I0 (pM (aT 122 (bv (decide (kp=(Jd.lkF p.top c.sh c.st.length i))))) (Zd (Zc (Zl (Zf (Zf ?_)))))))))))))))))
 refine Zh Tryz.results30 (.tmp rfl) ?_
 exact congrArg (fun x:Bool=>AV.v (.bool x)) ((by rw [En.en_5 hi (En.en_b hi hs4f).1 (by simpa using hs10f) (by have:=(En.or_t hs6);omega)];unfold En.psB;rw [if_neg hs11,if_pos hs12]))
 refine Za (oA (fb 17 11 U57 1) I0 (oB (lb (iv p.rules[r].dir) 117 U3) I0 rfl (oC (Zp rfl (dF hs12)) I0 I0 (Zd (Zc (Zn rfl (Zi (Zc (Zb (Zb ?_))))))))))
 by_cases hs13:p.rules[r].dir=3
 refine Za (oA (fb 17 11 U57 1) I0 (oB (lb (iv p.rules[r].dir) 123 U3) I0 rfl (oC (Zp rfl (dT hs13)) I0 I0 (Zd (Zc (Zm rfl (Zb ?_)))))))
 by_cases hs14:kp=(Jd.lkF p.top c.sh c.st.length i)
 refine Za (pM (mT 13 (iv kp)) (pM (mT 14 (iv (Jd.lkF p.top c.sh c.st.length i))) (oC (Zp rfl (dT hs14)) I0 I0 (pM (mT 128 bT) (qK (qK (qK (pP (pk true bT (.v (.tuple #[])) rfl) (pM (aT 133 bT) (Zd (Zc (Zl (Zf (Zf ?_))))))))))))))
 refine Zh Tryz.results30 (.tmp rfl) ?_
 exact congrArg (fun x:Bool=>AV.v (.bool x)) ((by rw [En.en_5 hi (En.en_b hi hs4f).1 (by simpa using hs10f) (by have:=(En.or_t hs6);omega)];unfold En.psB;rw [if_neg hs11,if_neg hs12,if_pos hs13];simp only [dT hs14,decide_true,decide_false,Bool.and_true,Bool.true_and,Bool.false_and,Bool.and_false,Bool.true_or,Bool.false_or,Bool.or_true,Bool.or_false,Bool.not_true,Bool.not_false]))
 refine Za (pM (mT 13 (iv kp)) (pM (mT 14 (iv (Jd.lkF p.top c.sh c.st.length i))) (oC (Zp rfl (dF hs14)) I0 I0 (pM (mT 128 bF) (qM (mT 13 (iv kp)) (qM (mT 15 (iv (Jd.lkS p.top c.sh c.st.length i))) (gC (Zp rfl rfl) I0 I0 (pP (pk false bT (bv (decide (kp=(Jd.lkS p.top c.sh c.st.length i)))) rfl) (pM (aT 133 (bv (decide (kp=(Jd.lkS p.top c.sh c.st.length i))))) (Zd (Zc (Zl (Zf (Zf ?_))))))))))))))
 refine Zh Tryz.results30 (.tmp rfl) ?_
 exact congrArg (fun x:Bool=>AV.v (.bool x)) ((by rw [En.en_5 hi (En.en_b hi hs4f).1 (by simpa using hs10f) (by have:=(En.or_t hs6);omega)];unfold En.psB;rw [if_neg hs11,if_neg hs12,if_pos hs13];simp only [dF hs14,decide_true,decide_false,Bool.and_true,Bool.true_and,Bool.false_and,Bool.and_false,Bool.true_or,Bool.false_or,Bool.or_true,Bool.or_false,Bool.not_true,Bool.not_false]))
 refine Za (oA (fb 17 11 U57 1) I0 (oB (lb (iv p.rules[r].dir) 123 U3) I0 rfl (oC (Zp rfl (dF hs13)) I0 I0 (Zd (Zc (Zn rfl (Zi (Zc (Zb (Za (pM (mT 13 (iv kp)) (pM (mT 16 (iv (En.lkP p.top c.sh c.st.length i))) (oC (Zp rfl rfl) I0 I0 (pM (aT 136 (bv (decide (kp=(En.lkP p.top c.sh c.st.length i))))) (Zd (Zc (Zl (Zf ?_))))))))))))))))))
 refine Zh Tryz.results30 (.tmp rfl) ?_
 exact congrArg (fun x:Bool=>AV.v (.bool x)) ((by rw [En.en_5 hi (En.en_b hi hs4f).1 (by simpa using hs10f) (by have:=(En.or_t hs6);omega)];unfold En.psB;rw [if_neg hs11,if_neg hs12,if_neg hs13]))
 have hs6f:(decide (p.rules[r].kind=2)||decide (p.rules[r].kind=5))=false:=by simpa using hs6
 have hty:=En.or_f hs6f
 rw [hs6f]
 refine kW 199 [(1,.box 27 (cFm p)),(2,.box 29 (cSz n t f)),(3,.box 31 (Rd.cCg c)),(5,.box 57 (cRu p.rules[r]))] [(4,bv fo),(5,.box 1 0),(6,.box 2 0),(7,.box 3 0),(10,bF),(11,.box 5 0),(12,iv i),(13,iv kp),(14,iv (Jd.lkF p.top c.sh c.st.length i)),(15,iv (Jd.lkS p.top c.sh c.st.length i)),(16,iv (En.lkP p.top c.sh c.st.length i)),(85,bF)] (Zn rfl (Zi (Zc (Zb (Zb ?_)))))
 by_cases hs15:kp=(-1)
 refine Za (pM (mT 13 (iv kp)) (oC (Zv rfl (dT' hs15)) I0 I0 (Zd (Zc (Zn rfl (Zi (Zc (Zb (Zb (Za (oA (fb 1 11 U57 1) I0 (oB (lb (iv p.rules[r].kind) 139 U3) I0 rfl (oC (Zp rfl (dF (by omega))) I0 I0 (Zd (Zc (Zn rfl (Zi (Zc (Zb (Zb (Za (oA (fb 1 11 U57 1) I0 (oB (lb (iv p.rules[r].kind) 149 U3) I0 rfl ?_)))))))))))))))))))))))
 refine oC (Zp rfl (dF (by omega))) I0 I0 (kN 199 [(1,.box 27 (cFm p)),(3,.box 31 (Rd.cCg c)),(5,.box 57 (cRu p.rules[r]))] [(5,.box 1 0),(7,.box 3 0),(10,bF),(11,.box 5 0),(12,iv i),(14,iv (Jd.lkF p.top c.sh c.st.length i)),(15,iv (Jd.lkS p.top c.sh c.st.length i)),(16,iv (En.lkP p.top c.sh c.st.length i)),(151,bF)] (Zc (Zn rfl (Zi (Zc (Zb (Zb ?_)))))))
 refine YN (True) (ofL [(1,.box 27 (cFm p)),(3,.box 31 (Rd.cCg c)),(5,.box 57 (cRu p.rules[r]))]) (ofT 199 [(5,.box 1 0),(7,.box 3 0),(10,bF),(11,.box 5 0),(14,iv (Jd.lkF p.top c.sh c.st.length i)),(15,iv (Jd.lkS p.top c.sh c.st.length i)),(16,iv (En.lkP p.top c.sh c.st.length i)),(158,bv (decide (p.rules[r].pos=1) && !decide (((i:Nat):Int)=0)))]) ?_ (fun _ => ?_)
 by_cases hs16:p.rules[r].pos=1
 by_cases hs17:((i:Nat):Int)=0
 refine Za (oA (fb 13 11 U57 1) I0 (oB (lb (iv p.rules[r].pos) 152 U3) I0 rfl (oC (Zp rfl (dT hs16)) I0 I0 (pM (mT 154 bT) (qM (mT 12 (iv i)) (gC (Zv rfl (dT' hs17)) I0 I0 (pP (pk true bF bF rfl) (kN 199 [(1,.box 27 (cFm p)),(3,.box 31 (Rd.cCg c)),(5,.box 57 (cRu p.rules[r]))] [(5,.box 1 0),(7,.box 3 0),(10,bF),(11,.box 5 0),(14,iv (Jd.lkF p.top c.sh c.st.length i)),(15,iv (Jd.lkS p.top c.sh c.st.length i)),(16,iv (En.lkP p.top c.sh c.st.length i)),(158,bF)] ?_))))))))
 rw [show (decide (p.rules[r].pos=1) && !decide (((i:Nat):Int)=0))=false by simp only [hs4f,hs6f,dT hs15,dT hs16,dT hs17,decide_true,decide_false,Bool.and_true,Bool.true_and,Bool.false_and,Bool.and_false,Bool.true_or,Bool.false_or,Bool.or_true,Bool.or_false,Bool.not_true,Bool.not_false]]
 exact Zx T0 (Zk _ _ rfl (by kernel_rfl) (by kernel_rfl))
 refine Za (oA (fb 13 11 U57 1) I0 (oB (lb (iv p.rules[r].pos) 152 U3) I0 rfl (oC (Zp rfl (dT hs16)) I0 I0 (pM (mT 154 bT) (qM (mT 12 (iv i)) (gC (Zv rfl (dF' hs17)) I0 I0 (pP (pk true bT bF rfl) (kN 199 [(1,.box 27 (cFm p)),(3,.box 31 (Rd.cCg c)),(5,.box 57 (cRu p.rules[r]))] [(5,.box 1 0),(7,.box 3 0),(10,bF),(11,.box 5 0),(14,iv (Jd.lkF p.top c.sh c.st.length i)),(15,iv (Jd.lkS p.top c.sh c.st.length i)),(16,iv (En.lkP p.top c.sh c.st.length i)),(158,bT)] ?_))))))))
 rw [show (decide (p.rules[r].pos=1) && !decide (((i:Nat):Int)=0))=true by simp only [hs4f,hs6f,dT hs15,dT hs16,dF hs17,decide_true,decide_false,Bool.and_true,Bool.true_and,Bool.false_and,Bool.and_false,Bool.true_or,Bool.false_or,Bool.or_true,Bool.or_false,Bool.not_true,Bool.not_false]]
 exact Zx T0 (Zk _ _ rfl (by kernel_rfl) (by kernel_rfl))
 refine Za (oA (fb 13 11 U57 1) I0 (oB (lb (iv p.rules[r].pos) 152 U3) I0 rfl (oC (Zp rfl (dF hs16)) I0 I0 (pM (mT 154 bF) (qK (qK (pP (pk false (.v (.tuple #[])) bF rfl) (kN 199 [(1,.box 27 (cFm p)),(3,.box 31 (Rd.cCg c)),(5,.box 57 (cRu p.rules[r]))] [(5,.box 1 0),(7,.box 3 0),(10,bF),(11,.box 5 0),(14,iv (Jd.lkF p.top c.sh c.st.length i)),(15,iv (Jd.lkS p.top c.sh c.st.length i)),(16,iv (En.lkP p.top c.sh c.st.length i)),(158,bF)] ?_))))))))
 rw [show (decide (p.rules[r].pos=1) && !decide (((i:Nat):Int)=0))=false by simp only [hs4f,hs6f,dT hs15,dF hs16,decide_true,decide_false,Bool.and_true,Bool.true_and,Bool.false_and,Bool.and_false,Bool.true_or,Bool.false_or,Bool.or_true,Bool.or_false,Bool.not_true,Bool.not_false]]
 exact Zx T0 (Zk _ _ rfl (by kernel_rfl) (by kernel_rfl))
 refine Zc ?_
 by_cases hs18:(decide (p.rules[r].pos=1) && !decide (((i:Nat):Int)=0))=true
 rw [hs18]
 refine kW 199 [(1,.box 27 (cFm p)),(3,.box 31 (Rd.cCg c)),(5,.box 57 (cRu p.rules[r]))] [(5,.box 1 0),(7,.box 3 0),(10,bF),(11,.box 5 0),(14,iv (Jd.lkF p.top c.sh c.st.length i)),(15,iv (Jd.lkS p.top c.sh c.st.length i)),(16,iv (En.lkP p.top c.sh c.st.length i)),(158,bT)] (Zm rfl (Zb (Za (pM (aC (.bool false)) (Zd (Zc (Zl (Zf ?_))))))))
 refine Zh Tryz.results30 (.tmp rfl) ?_
 exact congrArg (fun x:Bool=>AV.v (.bool x)) ((by rw [En.en_4 hi (En.en_b hi hs4f).1 (En.pt_1 (En.or_f hs6f) hs15) (by have:=(En.or_f hs6f);have:=R.kd;omega)];unfold En.nbB;simp only [hs18,decide_true,decide_false,Bool.and_true,Bool.true_and,Bool.false_and,Bool.and_false,Bool.true_or,Bool.false_or,Bool.or_true,Bool.or_false,Bool.not_true,Bool.not_false]))
 have hs18f:(decide (p.rules[r].pos=1) && !decide (((i:Nat):Int)=0))=false:=by simpa using hs18
 rw [hs18f]
 refine kW 199 [(1,.box 27 (cFm p)),(3,.box 31 (Rd.cCg c)),(5,.box 57 (cRu p.rules[r]))] [(5,.box 1 0),(7,.box 3 0),(10,bF),(11,.box 5 0),(14,iv (Jd.lkF p.top c.sh c.st.length i)),(15,iv (Jd.lkS p.top c.sh c.st.length i)),(16,iv (En.lkP p.top c.sh c.st.length i)),(158,bF)] (Zn rfl (Zi (Zc (Zb (Zb ?_)))))
 refine YN (True) (ofL [(3,.box 31 (Rd.cCg c)),(5,.box 57 (cRu p.rules[r]))]) (ofT 199 [(7,.box 3 0),(10,bF),(11,.box 5 0),(14,iv (Jd.lkF p.top c.sh c.st.length i)),(15,iv (Jd.lkS p.top c.sh c.st.length i)),(16,iv (En.lkP p.top c.sh c.st.length i)),(179,bv (decide (p.rules[r].pos=2)&&decide (0≤(Jd.lkS p.top c.sh c.st.length i))))]) ?_ (fun _ => ?_)
 by_cases hs19:p.rules[r].pos=2
 by_cases hs20:p.top=2
 by_cases hs21:(Jd.lkS p.top c.sh c.st.length i)=(-1)
 refine Za (oA (fb 13 11 U57 1) I0 (oB (lb (iv p.rules[r].pos) 159 U3) I0 rfl (oC (Zp rfl (dT hs19)) I0 I0 (pM (mT 161 bT) (gA (fb 1 5 U27 1) I0 (gB (lb (iv p.top) 163 U3) I0 rfl (gC (Zp rfl (dT hs20)) I0 I0 (qM (mT 165 bT) (qM (mT 15 (iv (Jd.lkS p.top c.sh c.st.length i))) (gC (Zv rfl (dT' hs21)) I0 I0 (qP (pk true bF bF rfl) (qM (mT 169 bF) (gA (fb 1 5 U27 1) I0 (gB (lb (iv p.top) 171 U3) I0 rfl (gC (Zp rfl (dF (by omega))) I0 I0 (qM (mT 173 bF) (qK (qK (qP (pk false (.v (.tuple #[])) bF rfl) (qP (pk false bT bF rfl) (pP (pk true bF bF rfl) (kN 199 [(3,.box 31 (Rd.cCg c)),(5,.box 57 (cRu p.rules[r]))] [(7,.box 3 0),(10,bF),(11,.box 5 0),(14,iv (Jd.lkF p.top c.sh c.st.length i)),(15,iv (Jd.lkS p.top c.sh c.st.length i)),(16,iv (En.lkP p.top c.sh c.st.length i)),(179,bF)] ?_))))))))))))))))))))))
 have hS:decide (0≤(Jd.lkS p.top c.sh c.st.length i))=false:=by have:=En.lineS (sh:=c.sh) hi;rw [hs20] at *;exact decide_eq_false (by omega)
 rw [show (decide (p.rules[r].pos=2)&&decide (0≤(Jd.lkS p.top c.sh c.st.length i)))=false from by rw [hS,decide_eq_true hs19];rfl]
 exact Zx T0 (Zk _ _ rfl (by kernel_rfl) (by kernel_rfl))
 refine Za (oA (fb 13 11 U57 1) I0 (oB (lb (iv p.rules[r].pos) 159 U3) I0 rfl (oC (Zp rfl (dT hs19)) I0 I0 (pM (mT 161 bT) (gA (fb 1 5 U27 1) I0 (gB (lb (iv p.top) 163 U3) I0 rfl (gC (Zp rfl (dT hs20)) I0 I0 (qM (mT 165 bT) (qM (mT 15 (iv (Jd.lkS p.top c.sh c.st.length i))) (gC (Zv rfl (dF' hs21)) I0 I0 (qP (pk true bT bF rfl) (qM (mT 169 bT) (qK (qK (qK (qK (qK (qK (qK (qP (pk true bT (.v (.tuple #[])) rfl) (pP (pk true bT bF rfl) (kN 199 [(3,.box 31 (Rd.cCg c)),(5,.box 57 (cRu p.rules[r]))] [(7,.box 3 0),(10,bF),(11,.box 5 0),(14,iv (Jd.lkF p.top c.sh c.st.length i)),(15,iv (Jd.lkS p.top c.sh c.st.length i)),(16,iv (En.lkP p.top c.sh c.st.length i)),(179,bT)] ?_))))))))))))))))))))))
 have hS:decide (0≤(Jd.lkS p.top c.sh c.st.length i))=true:=by have:=En.lineS (sh:=c.sh) hi;rw [hs20] at *;exact decide_eq_true (by omega)
 rw [show (decide (p.rules[r].pos=2)&&decide (0≤(Jd.lkS p.top c.sh c.st.length i)))=true from by rw [hS,decide_eq_true hs19];rfl]
 exact Zx T0 (Zk _ _ rfl (by kernel_rfl) (by kernel_rfl))
 by_cases hs22:(Jd.lkF p.top c.sh c.st.length i)=(-1)
 refine Za (oA (fb 13 11 U57 1) I0 (oB (lb (iv p.rules[r].pos) 159 U3) I0 rfl (oC (Zp rfl (dT hs19)) I0 I0 (pM (mT 161 bT) (gA (fb 1 5 U27 1) I0 (gB (lb (iv p.top) 163 U3) I0 rfl (gC (Zp rfl (dF hs20)) I0 I0 (qM (mT 165 bF) (qK (qK (qP (pk false (.v (.tuple #[])) bF rfl) (qM (mT 169 bF) (gA (fb 1 5 U27 1) I0 (gB (lb (iv p.top) 171 U3) I0 rfl (gC (Zp rfl (dT (by have h4:p.rules[r].kind=4:=(by omega);have:=R.po h4 (by omega);omega))) I0 I0 (qM (mT 173 bT) (qM (mT 14 (iv (Jd.lkF p.top c.sh c.st.length i))) (gC (Zv rfl (dT' hs22)) I0 I0 (qP (pk true bF bF rfl) (qP (pk false bT bF rfl) (pP (pk true bF bF rfl) (kN 199 [(3,.box 31 (Rd.cCg c)),(5,.box 57 (cRu p.rules[r]))] [(7,.box 3 0),(10,bF),(11,.box 5 0),(14,iv (Jd.lkF p.top c.sh c.st.length i)),(15,iv (Jd.lkS p.top c.sh c.st.length i)),(16,iv (En.lkP p.top c.sh c.st.length i)),(179,bF)] ?_))))))))))))))))))))))
 have hS:decide (0≤(Jd.lkS p.top c.sh c.st.length i))=false:=by have hb:=En.bothC hc hi (by have h4:p.rules[r].kind=4:=(by omega);have:=R.po h4 (by omega);omega);exact decide_eq_false (by omega)
 rw [show (decide (p.rules[r].pos=2)&&decide (0≤(Jd.lkS p.top c.sh c.st.length i)))=false from by rw [hS,decide_eq_true hs19];rfl]
 exact Zx T0 (Zk _ _ rfl (by kernel_rfl) (by kernel_rfl))
 refine Za (oA (fb 13 11 U57 1) I0 (oB (lb (iv p.rules[r].pos) 159 U3) I0 rfl (oC (Zp rfl (dT hs19)) I0 I0 (pM (mT 161 bT) (gA (fb 1 5 U27 1) I0 (gB (lb (iv p.top) 163 U3) I0 rfl (gC (Zp rfl (dF hs20)) I0 I0 (qM (mT 165 bF) (qK (qK (qP (pk false (.v (.tuple #[])) bF rfl) (qM (mT 169 bF) (gA (fb 1 5 U27 1) I0 (gB (lb (iv p.top) 171 U3) I0 rfl (gC (Zp rfl (dT (by have h4:p.rules[r].kind=4:=(by omega);have:=R.po h4 (by omega);omega))) I0 I0 (qM (mT 173 bT) (qM (mT 14 (iv (Jd.lkF p.top c.sh c.st.length i))) (gC (Zv rfl (dF' hs22)) I0 I0 (qP (pk true bT bF rfl) (qP (pk false bT bT rfl) (pP (pk true bT bF rfl) (kN 199 [(3,.box 31 (Rd.cCg c)),(5,.box 57 (cRu p.rules[r]))] [(7,.box 3 0),(10,bF),(11,.box 5 0),(14,iv (Jd.lkF p.top c.sh c.st.length i)),(15,iv (Jd.lkS p.top c.sh c.st.length i)),(16,iv (En.lkP p.top c.sh c.st.length i)),(179,bT)] ?_))))))))))))))))))))))
 have hS:decide (0≤(Jd.lkS p.top c.sh c.st.length i))=true:=by have hb:=En.bothC hc hi (by have h4:p.rules[r].kind=4:=(by omega);have:=R.po h4 (by omega);omega);exact decide_eq_true (by omega)
 rw [show (decide (p.rules[r].pos=2)&&decide (0≤(Jd.lkS p.top c.sh c.st.length i)))=true from by rw [hS,decide_eq_true hs19];rfl]
 exact Zx T0 (Zk _ _ rfl (by kernel_rfl) (by kernel_rfl))
 refine Za (oA (fb 13 11 U57 1) I0 (oB (lb (iv p.rules[r].pos) 159 U3) I0 rfl (oC (Zp rfl (dF hs19)) I0 I0 (pM (mT 161 bF) (qK (qK (qK (qK (qK (qK (qK (qK (qK (qK (qK (qK (qK (qK (qK (qK (pP (pk false (.v (.tuple #[])) bF rfl) (kN 199 [(3,.box 31 (Rd.cCg c)),(5,.box 57 (cRu p.rules[r]))] [(7,.box 3 0),(10,bF),(11,.box 5 0),(14,iv (Jd.lkF p.top c.sh c.st.length i)),(15,iv (Jd.lkS p.top c.sh c.st.length i)),(16,iv (En.lkP p.top c.sh c.st.length i)),(179,bF)] ?_))))))))))))))))))))))
 rw [show (decide (p.rules[r].pos=2)&&decide (0≤(Jd.lkS p.top c.sh c.st.length i)))=false from by rw [decide_eq_false hs19];rfl]
 exact Zx T0 (Zk _ _ rfl (by kernel_rfl) (by kernel_rfl))
 refine Zc ?_
 by_cases hs23:(decide (p.rules[r].pos=2)&&decide (0≤(Jd.lkS p.top c.sh c.st.length i)))=true
 rw [hs23]
 refine kW 199 [(3,.box 31 (Rd.cCg c)),(5,.box 57 (cRu p.rules[r]))] [(7,.box 3 0),(10,bF),(11,.box 5 0),(14,iv (Jd.lkF p.top c.sh c.st.length i)),(15,iv (Jd.lkS p.top c.sh c.st.length i)),(16,iv (En.lkP p.top c.sh c.st.length i)),(179,bT)] (Zm rfl (Zb (Za (pM (aC (.bool false)) (Zd (Zc (Zl (Zf ?_))))))))
 refine Zh Tryz.results30 (.tmp rfl) ?_
 exact congrArg (fun x:Bool=>AV.v (.bool x)) ((by rw [En.en_4 hi (En.en_b hi hs4f).1 (En.pt_1 (En.or_f hs6f) hs15) (by have:=(En.or_f hs6f);have:=R.kd;omega)];unfold En.nbB;simp only [hs18f,hs23,decide_true,decide_false,Bool.and_true,Bool.true_and,Bool.false_and,Bool.and_false,Bool.true_or,Bool.false_or,Bool.or_true,Bool.or_false,Bool.not_true,Bool.not_false]))
 have hs23f:(decide (p.rules[r].pos=2)&&decide (0≤(Jd.lkS p.top c.sh c.st.length i)))=false:=by simpa using hs23
 rw [hs23f]
 refine kW 199 [(3,.box 31 (Rd.cCg c)),(5,.box 57 (cRu p.rules[r]))] [(7,.box 3 0),(10,bF),(11,.box 5 0),(14,iv (Jd.lkF p.top c.sh c.st.length i)),(15,iv (Jd.lkS p.top c.sh c.st.length i)),(16,iv (En.lkP p.top c.sh c.st.length i)),(179,bF)] (Zn rfl (Zi (Zc (Zb ?_))))
 by_cases hs24:(En.fitB c (Jd.lkF p.top c.sh c.st.length i) p.rules[r].left)=true
 by_cases hs25:(En.fitB c (Jd.lkS p.top c.sh c.st.length i) p.rules[r].right)=true
 refine Za (oB (lS (Rd.cCg c) 6 7 U31) I0 rfl (oA (fb 14 11 U57 1) I0 (oB (lb (Ze p.rules[r].left) 181 U24) I0 rfl (pM (mT 14 (iv (Jd.lkF p.top c.sh c.st.length i))) (ZM rfl (sc #[.tmp 180,.tmp 182,.tmp 183] [] (ZA (K2 HC (Nat.le_trans (HL.rules _ (List.getElem_mem hr)).left (by decide)) hlk.1) hs24) [.agg (Rd.cCg c),Ze p.rules[r].left,iv (Jd.lkF p.top c.sh c.st.length i)] rfl rfl rfl) ⟨I0,I0,I0,I0,T0⟩ T0 T0 (pM (mT 184 bT) (gB (lS (Rd.cCg c) 6 7 U31) I0 rfl (gA (fb 15 11 U57 1) I0 (gB (lb (Ze p.rules[r].right) 187 U24) I0 rfl (qM (mT 15 (iv (Jd.lkS p.top c.sh c.st.length i))) (YC rfl (sc #[.tmp 186,.tmp 188,.tmp 189] [] (ZA (K2 HC (Nat.le_trans (HL.rules _ (List.getElem_mem hr)).right (by decide)) hlk.2.1) hs25) [.agg (Rd.cCg c),Ze p.rules[r].right,iv (Jd.lkS p.top c.sh c.st.length i)] rfl rfl rfl) ⟨I0,I0,I0,I0,T0⟩ T0 T0 (pP (pk true bT bF rfl) (pM (mT 191 bT) (gB (lS (Rd.cCg c) 6 7 U31) I0 rfl (gA (fb 16 11 U57 1) I0 (gB (lb (Ze p.rules[r].parent) 194 U24) I0 rfl (qM (mT 16 (iv (En.lkP p.top c.sh c.st.length i))) (YC rfl (sc #[.tmp 193,.tmp 195,.tmp 196] [] (K2 HC (Nat.le_trans (HL.rules _ (List.getElem_mem hr)).parent (by decide)) hlk.2.2) [.agg (Rd.cCg c),Ze p.rules[r].parent,iv (En.lkP p.top c.sh c.st.length i)] rfl rfl rfl) ⟨I0,I0,I0,I0,T0⟩ T0 T0 (pP (pk true (bv (En.fitB c (En.lkP p.top c.sh c.st.length i) p.rules[r].parent)) bF rfl) (pM (aT 198 (bv (En.fitB c (En.lkP p.top c.sh c.st.length i) p.rules[r].parent))) (Zd (Zc (Zl ?_)))))))))))))))))))))))
 refine Zh Tryz.results30 (.tmp rfl) ?_
 exact congrArg (fun x:Bool=>AV.v (.bool x)) ((by rw [En.en_4 hi (En.en_b hi hs4f).1 (En.pt_1 (En.or_f hs6f) hs15) (by have:=(En.or_f hs6f);have:=R.kd;omega)];unfold En.nbB;simp only [hs18f,hs23f,hs24,hs25,decide_true,decide_false,Bool.and_true,Bool.true_and,Bool.false_and,Bool.and_false,Bool.true_or,Bool.false_or,Bool.or_true,Bool.or_false,Bool.not_true,Bool.not_false]))
 have hs25f:(En.fitB c (Jd.lkS p.top c.sh c.st.length i) p.rules[r].right)=false:=by simpa using hs25
 refine Za (oB (lS (Rd.cCg c) 6 7 U31) I0 rfl (oA (fb 14 11 U57 1) I0 (oB (lb (Ze p.rules[r].left) 181 U24) I0 rfl (pM (mT 14 (iv (Jd.lkF p.top c.sh c.st.length i))) (ZM rfl (sc #[.tmp 180,.tmp 182,.tmp 183] [] (ZA (K2 HC (Nat.le_trans (HL.rules _ (List.getElem_mem hr)).left (by decide)) hlk.1) hs24) [.agg (Rd.cCg c),Ze p.rules[r].left,iv (Jd.lkF p.top c.sh c.st.length i)] rfl rfl rfl) ⟨I0,I0,I0,I0,T0⟩ T0 T0 (pM (mT 184 bT) (gB (lS (Rd.cCg c) 6 7 U31) I0 rfl (gA (fb 15 11 U57 1) I0 (gB (lb (Ze p.rules[r].right) 187 U24) I0 rfl (qM (mT 15 (iv (Jd.lkS p.top c.sh c.st.length i))) (YC rfl (sc #[.tmp 186,.tmp 188,.tmp 189] [] (ZA (K2 HC (Nat.le_trans (HL.rules _ (List.getElem_mem hr)).right (by decide)) hlk.2.1) hs25f) [.agg (Rd.cCg c),Ze p.rules[r].right,iv (Jd.lkS p.top c.sh c.st.length i)] rfl rfl rfl) ⟨I0,I0,I0,I0,T0⟩ T0 T0 (pP (pk true bF bF rfl) (pM (mT 191 bF) (qK (qK (qK (qK (qK (pP (pk false (.v (.tuple #[])) bF rfl) (pM (aT 198 bF) (Zd (Zc (Zl ?_)))))))))))))))))))))))
 refine Zh Tryz.results30 (.tmp rfl) ?_
 exact congrArg (fun x:Bool=>AV.v (.bool x)) ((by rw [En.en_4 hi (En.en_b hi hs4f).1 (En.pt_1 (En.or_f hs6f) hs15) (by have:=(En.or_f hs6f);have:=R.kd;omega)];unfold En.nbB;simp only [hs18f,hs23f,hs24,hs25f,decide_true,decide_false,Bool.and_true,Bool.true_and,Bool.false_and,Bool.and_false,Bool.true_or,Bool.false_or,Bool.or_true,Bool.or_false,Bool.not_true,Bool.not_false]))
 have hs24f:(En.fitB c (Jd.lkF p.top c.sh c.st.length i) p.rules[r].left)=false:=by simpa using hs24
 refine Za (oB (lS (Rd.cCg c) 6 7 U31) I0 rfl (oA (fb 14 11 U57 1) I0 (oB (lb (Ze p.rules[r].left) 181 U24) I0 rfl (pM (mT 14 (iv (Jd.lkF p.top c.sh c.st.length i))) (ZM rfl (sc #[.tmp 180,.tmp 182,.tmp 183] [] (ZA (K2 HC (Nat.le_trans (HL.rules _ (List.getElem_mem hr)).left (by decide)) hlk.1) hs24f) [.agg (Rd.cCg c),Ze p.rules[r].left,iv (Jd.lkF p.top c.sh c.st.length i)] rfl rfl rfl) ⟨I0,I0,I0,I0,T0⟩ T0 T0 (pM (mT 184 bF) (qK (qK (qK (qK (qK (pP (pk false (.v (.tuple #[])) bF rfl) (pM (mT 191 bF) (qK (qK (qK (qK (qK (pP (pk false (.v (.tuple #[])) bF rfl) (pM (aT 198 bF) (Zd (Zc (Zl ?_)))))))))))))))))))))))
 refine Zh Tryz.results30 (.tmp rfl) ?_
 exact congrArg (fun x:Bool=>AV.v (.bool x)) ((by rw [En.en_4 hi (En.en_b hi hs4f).1 (En.pt_1 (En.or_f hs6f) hs15) (by have:=(En.or_f hs6f);have:=R.kd;omega)];unfold En.nbB;simp only [hs18f,hs23f,hs24f,decide_true,decide_false,Bool.and_true,Bool.true_and,Bool.false_and,Bool.and_false,Bool.true_or,Bool.false_or,Bool.or_true,Bool.or_false,Bool.not_true,Bool.not_false]))
 refine Za (pM (mT 13 (iv kp)) (oC (Zv rfl (dF' hs15)) I0 I0 (Zd (Zc (Zm rfl (Zb (Za (pM (aC (.bool false)) (Zd (Zc (Zl (Zf ?_))))))))))))
 refine Zh Tryz.results30 (.tmp rfl) ?_
 exact congrArg (fun x:Bool=>AV.v (.bool x)) ((En.en_pt (En.pt_o (En.or_f hs6f) hs15)).symm)
theorem Sized_c {p:Fm} (HP:FmOk p) {n t f:Int}:Ctr Tryz.prog J 53 [.agg (cFm p),.agg (cSz n t f)] (iv (Ns.sysE p n t f)):=by
 refine Zw Tryz.func53 rfl (by intro X hX;simp only [List.mem_cons,List.not_mem_nil,or_false] at hX;rcases hX with rfl | rfl;exact Zq (Z9 p);exact Zq (Yi n t f)) (n:=18) rfl (by simp) (fun w0 => ?_)
 refine kW 18 [] [(0,.agg (cFm p)),(1,.agg (cSz n t f))] (Zb (Za (ZM rfl (ZT (X := .agg (cFm p)) (k:=1) (.tmp 0) rfl rfl) ⟨I0,T0⟩ T0 rfl (ZM rfl (ZT (X := .agg (cSz n t f)) (k:=2) (.tmp 1) rfl rfl) ⟨I0,T0⟩ T0 rfl (pM (aC (.int .i64 0)) (Zd (Zc (Zb (Zb (Za (oB (lS (cFm p) 10 2 U27) I0 rfl (oC (sc #[.tmp 6] [] (rValidate_c HP) [.agg (cFm p)] rfl rfl rfl) I0 I0 (pM (aT 7 (iv (valE p))) (Zd (Zc (Zb ?_))))))))))))))))
 by_cases hs1:valE p=0
 refine Za (pM (mT 5 (iv (valE p))) (oC (Zv rfl (dT' hs1)) I0 I0 (Zd (Zc (Zn rfl (Zi (Zc (Zb (Zb ?_)))))))))
 by_cases hs2:(admB p n t f)=true
 refine Za (oB (lS (cFm p) 10 2 U27) I0 rfl (oB (lS (cSz n t f) 3 3 U29) I0 rfl (oD (sc #[.tmp 11,.tmp 12] [] (ZA (radmissible_c HP n t f) hs2) [.agg (cFm p),.agg (cSz n t f)] rfl rfl rfl) I0 I0 I0 (oA (Zr rfl rfl) I0 (Zd (Zc (Zn rfl (Zi (Zc (Zb (Zb ?_)))))))))))
 by_cases hs3:8<n
 refine Za (oA (fb 0 3 U29 1) I0 (oB (lb (iv n) 15 U3) I0 rfl (oC (ZS rfl (dT hs3)) I0 I0 (kN 18 [] [(4,iv 0),(17,bT)] (Zc (Zm rfl (Zb (Za (pM (aC (.int .i64 4)) (Zd (Zc (Zl (Zf ?_)))))))))))))
 refine Zh Tryz.results53 (.tmp rfl) ?_
 rw [Ns.sys_e3 hs1 hs2 hs3]
 exact rfl
 refine Za (oA (fb 0 3 U29 1) I0 (oB (lb (iv n) 15 U3) I0 rfl (oC (ZS rfl (dF hs3)) I0 I0 (kN 18 [] [(4,iv 0),(17,bF)] (Zc (Zn rfl (Zi (Zc (Zb (Za (pM (aC (.int .i64 0)) (Zd (Zc (Zl ?_))))))))))))))
 refine Zh Tryz.results53 (.tmp rfl) ?_
 rw [Ns.sys_e4 hs1 hs2 hs3]
 exact rfl
 have hs2f:(admB p n t f)=false:=by simpa using hs2
 refine Za (oB (lS (cFm p) 10 2 U27) I0 rfl (oB (lS (cSz n t f) 3 3 U29) I0 rfl (oD (sc #[.tmp 11,.tmp 12] [] (ZA (radmissible_c HP n t f) hs2f) [.agg (cFm p),.agg (cSz n t f)] rfl rfl rfl) I0 I0 I0 (oA (Zr rfl rfl) I0 (Zd (Zc (Zm rfl (Zb (Za (pM (aC (.int .i64 8)) (Zd (Zc (Zl (Zf ?_))))))))))))))
 refine Zh Tryz.results53 (.tmp rfl) ?_
 rw [Ns.sys_e2 hs1 hs2f]
 exact rfl
 refine Za (pM (mT 5 (iv (valE p))) (oC (Zv rfl (dF' hs1)) I0 I0 (Zd (Zc (Zm rfl (Zb (Za (pM (mT 5 (iv (valE p))) (pM (aT 10 (iv (valE p))) (Zd (Zc (Zl (Zf ?_)))))))))))))
 refine Zh Tryz.results53 (.tmp rfl) ?_
 rw [Ns.sys_e1 hs1]
 exact rfl
theorem KX {p:Fm} {n t f:Int} (hai:1≤n∧n≤1048576∧0≤f∧f≤n):Ctr Tryz.prog J 73 [.agg (cFm p),.agg (cSz n t f)] (iv (Ns.cntE p n f)):=by
 refine Zw Tryz.func73 rfl (by intro X hX;simp only [List.mem_cons,List.not_mem_nil,or_false] at hX;rcases hX with rfl | rfl;exact Zq (Z9 p);exact Zq (Yi n t f)) (n:=15) rfl (by simp) (fun w0 => ?_)
 refine kW 15 [] [(0,.agg (cFm p)),(1,.agg (cSz n t f))] (Zb (Za (ZM rfl (ZT (X := .agg (cFm p)) (k:=1) (.tmp 0) rfl rfl) ⟨I0,T0⟩ T0 rfl (ZM rfl (ZT (X := .agg (cSz n t f)) (k:=2) (.tmp 1) rfl rfl) ⟨I0,T0⟩ T0 rfl (pM (aC (.int .i64 0)) (Zd (Zc (Zb (Zb ?_)))))))))
 by_cases hs1:p.fault=3
 refine Za (oA (fb 5 2 U27 1) I0 (oB (lb (iv p.fault) 5 U3) I0 rfl (oC (Zp rfl (dT hs1)) I0 I0 (Zd (Zc (Zm rfl (Zb (Za (oA (fb 0 3 U29 1) I0 (oB (lb (iv n) 8 U3) I0 rfl (oA (fb 2 3 U29 1) I0 (oB (lb (iv f) 10 U3) I0 rfl (oC (Z5 (c:=n-f) rfl (w64 (by omega) (by omega) (by omega))) I0 I0 (pM (aT 12 (iv (n-f))) (Zd (Zc (Zl (Zf ?_))))))))))))))))))
 refine Zh Tryz.results73 (.tmp rfl) ?_
 rw [show Ns.cntE p n f=n-f from if_pos hs1]
 exact rfl
 refine Za (oA (fb 5 2 U27 1) I0 (oB (lb (iv p.fault) 5 U3) I0 rfl (oC (Zp rfl (dF hs1)) I0 I0 (Zd (Zc (Zn rfl (Zi (Zc (Zb (Za (oA (fb 0 3 U29 1) I0 (oB (lb (iv n) 13 U3) I0 rfl (pM (aT 14 (iv n)) (Zd (Zc (Zl ?_))))))))))))))))
 refine Zh Tryz.results73 (.tmp rfl) ?_
 rw [show Ns.cntE p n f=n from if_neg hs1]
 exact rfl
set_option maxRecDepth 100000 in
set_option maxHeartbeats 6400000 in
theorem validConfig_0 {p:Fm} (HP:FmOk p) {n t f:Int} {c:Cf} (HC:Rd.CgOk c) (hai:1≤n∧n≤1048576∧0≤f∧f≤n) (g0:¬ (((c.st.length:Nat):Int)=(Ns.cntE p n f))):Ctr Tryz.prog J 54 [.agg (cFm p),.agg (cSz n t f),.agg (Rd.cCg c)] (bv (Rd.rvB p n f c)):=by
 have hlv:=HP.lvals
 have hlf:=HC.lfa
 refine Zw Tryz.func54 rfl (by intro X hX;simp only [List.mem_cons,List.not_mem_nil,or_false] at hX;rcases hX with rfl | rfl | rfl;exact Zq (Z9 p);exact Zq (Yi n t f);exact Zq (Rd.plain_cg c)) (n:=95) rfl (by simp) (fun w0 => ?_)
 refine kW 95 [] [(0,.agg (cFm p)),(1,.agg (cSz n t f)),(2,.agg (Rd.cCg c))] (Zb (Za (ZM rfl (ZT (X := .agg (cFm p)) (k:=1) (.tmp 0) rfl rfl) ⟨I0,T0⟩ T0 rfl (ZM rfl (ZT (X := .agg (cSz n t f)) (k:=2) (.tmp 1) rfl rfl) ⟨I0,T0⟩ T0 rfl (ZM rfl (ZT (X := .agg (Rd.cCg c)) (k:=3) (.tmp 2) rfl rfl) ⟨I0,T0⟩ T0 rfl (pM (aC (.bool false)) (Zd (Zc (Zb (Zb ?_))))))))))
 refine Zs (dA (fb 1 5 U31 1) I0 (dB (lb (Ze c.st) 8 U24) I0 rfl (dA (nS 9 U24) I0 (dB (lS (cFm p) 10 3 U27) I0 rfl (dB (lS (cSz n t f) 3 4 U29) I0 rfl (dD (sc #[.tmp 11,.tmp 12] [] (KX hai) [.agg (cFm p),.agg (cSz n t f)] rfl rfl rfl) I0 I0 I0 (dC (Zv rfl (dF' g0)) I0 I0 (dM (mT 14 bT) (dK (dK (dK (dK (dK (dP (pk true bT (.v (.tuple #[])) rfl) (dM (mT 21 bT) (dK (dK (dK (dK (dK (dK (dK (dK (dP (pk true bT (.v (.tuple #[])) rfl) (dM (mT 31 bT) (dK (dK (dK (dK (dK (dK (dK (dP (pk true bT (.v (.tuple #[])) rfl) (dM (mT 40 bT) (dK (dK (dK (dK (dK (dK (dK (dP (pk true bT (.v (.tuple #[])) rfl) (dE ?_))))))))))))))))))))))))))))))))))))))))))) (by kernel_rfl)
 show ETri J w0 _ _ _
 refine kW 95 [(1,.box 27 (cFm p)),(2,.box 29 (cSz n t f)),(3,.box 31 (Rd.cCg c))] [(3,.box 1 0),(4,.box 2 0),(5,.box 3 0),(6,bF),(49,bT)] (Zc (Zm rfl (Zb (Za (pM (aC (.bool false)) (Zd (Zc (Zl (Zf ?_)))))))))
 refine Zh Tryz.results54 (.tmp rfl) ?_
 exact congrArg (fun x:Bool=>AV.v (.bool x)) ((by simp only [Rd.rvB,g0,decide_true,decide_false,Bool.and_true,Bool.true_and,Bool.false_and,Bool.and_false,Bool.not_true,Bool.not_false,if_true,if_false,eq_self,ite_true,ite_false]))
set_option maxRecDepth 100000 in
set_option maxHeartbeats 6400000 in
theorem validConfig_1 {p:Fm} (HP:FmOk p) {n t f:Int} {c:Cf} (HC:Rd.CgOk c) (hai:1≤n∧n≤1048576∧0≤f∧f≤n) (g0:((c.st.length:Nat):Int)=(Ns.cntE p n f)) (g1:Rd.belB c.st ((p.states.length:Nat):Int)=false):Ctr Tryz.prog J 54 [.agg (cFm p),.agg (cSz n t f),.agg (Rd.cCg c)] (bv (Rd.rvB p n f c)):=by
 have hlv:=HP.lvals
 have hlf:=HC.lfa
 refine Zw Tryz.func54 rfl (by intro X hX;simp only [List.mem_cons,List.not_mem_nil,or_false] at hX;rcases hX with rfl | rfl | rfl;exact Zq (Z9 p);exact Zq (Yi n t f);exact Zq (Rd.plain_cg c)) (n:=95) rfl (by simp) (fun w0 => ?_)
 refine kW 95 [] [(0,.agg (cFm p)),(1,.agg (cSz n t f)),(2,.agg (Rd.cCg c))] (Zb (Za (ZM rfl (ZT (X := .agg (cFm p)) (k:=1) (.tmp 0) rfl rfl) ⟨I0,T0⟩ T0 rfl (ZM rfl (ZT (X := .agg (cSz n t f)) (k:=2) (.tmp 1) rfl rfl) ⟨I0,T0⟩ T0 rfl (ZM rfl (ZT (X := .agg (Rd.cCg c)) (k:=3) (.tmp 2) rfl rfl) ⟨I0,T0⟩ T0 rfl (pM (aC (.bool false)) (Zd (Zc (Zb (Zb ?_))))))))))
 refine Zs (dA (fb 1 5 U31 1) I0 (dB (lb (Ze c.st) 8 U24) I0 rfl (dA (nS 9 U24) I0 (dB (lS (cFm p) 10 3 U27) I0 rfl (dB (lS (cSz n t f) 3 4 U29) I0 rfl (dD (sc #[.tmp 11,.tmp 12] [] (KX hai) [.agg (cFm p),.agg (cSz n t f)] rfl rfl rfl) I0 I0 I0 (dC (Zv rfl (dT' g0)) I0 I0 (dM (mT 14 bF) (dB (lS (cFm p) 10 3 U27) I0 rfl (dA (fb 1 5 U31 1) I0 (dB (lb (Ze c.st) 17 U24) I0 rfl (dD (sc #[.tmp 16,.tmp 18] [] (ZA (states_c HP.lstates c.st HC.lst) g1) [.agg (cFm p),Ze c.st] rfl rfl rfl) I0 I0 I0 (dA (Zr rfl rfl) I0 (dP (pk false bT bT rfl) (dM (mT 21 bT) (dK (dK (dK (dK (dK (dK (dK (dK (dP (pk true bT (.v (.tuple #[])) rfl) (dM (mT 31 bT) (dK (dK (dK (dK (dK (dK (dK (dP (pk true bT (.v (.tuple #[])) rfl) (dM (mT 40 bT) (dK (dK (dK (dK (dK (dK (dK (dP (pk true bT (.v (.tuple #[])) rfl) (dE ?_))))))))))))))))))))))))))))))))))))))))))) (by kernel_rfl)
 show ETri J w0 _ _ _
 refine kW 95 [(1,.box 27 (cFm p)),(2,.box 29 (cSz n t f)),(3,.box 31 (Rd.cCg c))] [(3,.box 1 0),(4,.box 2 0),(5,.box 3 0),(6,bF),(49,bT)] (Zc (Zm rfl (Zb (Za (pM (aC (.bool false)) (Zd (Zc (Zl (Zf ?_)))))))))
 refine Zh Tryz.results54 (.tmp rfl) ?_
 exact congrArg (fun x:Bool=>AV.v (.bool x)) ((by simp only [Rd.rvB,g0,g1,decide_true,decide_false,Bool.and_true,Bool.true_and,Bool.false_and,Bool.and_false,Bool.not_true,Bool.not_false,if_true,if_false,eq_self,ite_true,ite_false]))
set_option maxRecDepth 100000 in
set_option maxHeartbeats 6400000 in
theorem validConfig_2 {p:Fm} (HP:FmOk p) {n t f:Int} {c:Cf} (HC:Rd.CgOk c) (hai:1≤n∧n≤1048576∧0≤f∧f≤n) (g0:((c.st.length:Nat):Int)=(Ns.cntE p n f)) (g1:Rd.belB c.st ((p.states.length:Nat):Int)=true) (g2:¬ (c.cor=n-f)):Ctr Tryz.prog J 54 [.agg (cFm p),.agg (cSz n t f),.agg (Rd.cCg c)] (bv (Rd.rvB p n f c)):=by
 have hlv:=HP.lvals
 have hlf:=HC.lfa
 refine Zw Tryz.func54 rfl (by intro X hX;simp only [List.mem_cons,List.not_mem_nil,or_false] at hX;rcases hX with rfl | rfl | rfl;exact Zq (Z9 p);exact Zq (Yi n t f);exact Zq (Rd.plain_cg c)) (n:=95) rfl (by simp) (fun w0 => ?_)
 refine kW 95 [] [(0,.agg (cFm p)),(1,.agg (cSz n t f)),(2,.agg (Rd.cCg c))] (Zb (Za (ZM rfl (ZT (X := .agg (cFm p)) (k:=1) (.tmp 0) rfl rfl) ⟨I0,T0⟩ T0 rfl (ZM rfl (ZT (X := .agg (cSz n t f)) (k:=2) (.tmp 1) rfl rfl) ⟨I0,T0⟩ T0 rfl (ZM rfl (ZT (X := .agg (Rd.cCg c)) (k:=3) (.tmp 2) rfl rfl) ⟨I0,T0⟩ T0 rfl (pM (aC (.bool false)) (Zd (Zc (Zb (Zb ?_))))))))))
 refine Zs (dA (fb 1 5 U31 1) I0 (dB (lb (Ze c.st) 8 U24) I0 rfl (dA (nS 9 U24) I0 (dB (lS (cFm p) 10 3 U27) I0 rfl (dB (lS (cSz n t f) 3 4 U29) I0 rfl (dD (sc #[.tmp 11,.tmp 12] [] (KX hai) [.agg (cFm p),.agg (cSz n t f)] rfl rfl rfl) I0 I0 I0 (dC (Zv rfl (dT' g0)) I0 I0 (dM (mT 14 bF) (dB (lS (cFm p) 10 3 U27) I0 rfl (dA (fb 1 5 U31 1) I0 (dB (lb (Ze c.st) 17 U24) I0 rfl (dD (sc #[.tmp 16,.tmp 18] [] (ZA (states_c HP.lstates c.st HC.lst) g1) [.agg (cFm p),Ze c.st] rfl rfl rfl) I0 I0 I0 (dA (Zr rfl rfl) I0 (dP (pk false bT bF rfl) (dM (mT 21 bF) (dA (fb 2 5 U31 1) I0 (dB (lb (iv c.cor) 23 U3) I0 rfl (dA (fb 0 4 U29 1) I0 (dB (lb (iv n) 25 U3) I0 rfl (dA (fb 2 4 U29 1) I0 (dB (lb (iv f) 27 U3) I0 rfl (dC (Z5 (c:=n-f) rfl (w64 (by omega) (by omega) (by omega))) I0 I0 (dC (Zv rfl (dF' g2)) I0 I0 (dP (pk false bT bT rfl) (dM (mT 31 bT) (dK (dK (dK (dK (dK (dK (dK (dP (pk true bT (.v (.tuple #[])) rfl) (dM (mT 40 bT) (dK (dK (dK (dK (dK (dK (dK (dP (pk true bT (.v (.tuple #[])) rfl) (dE ?_))))))))))))))))))))))))))))))))))))))))))) (by kernel_rfl)
 show ETri J w0 _ _ _
 refine kW 95 [(1,.box 27 (cFm p)),(2,.box 29 (cSz n t f)),(3,.box 31 (Rd.cCg c))] [(3,.box 1 0),(4,.box 2 0),(5,.box 3 0),(6,bF),(49,bT)] (Zc (Zm rfl (Zb (Za (pM (aC (.bool false)) (Zd (Zc (Zl (Zf ?_)))))))))
 refine Zh Tryz.results54 (.tmp rfl) ?_
 exact congrArg (fun x:Bool=>AV.v (.bool x)) ((by simp only [Rd.rvB,g0,g1,g2,decide_true,decide_false,Bool.and_true,Bool.true_and,Bool.false_and,Bool.and_false,Bool.not_true,Bool.not_false,if_true,if_false,eq_self,ite_true,ite_false]))
end Go.Proofs.YtmobmhgobpipkaaGreat
