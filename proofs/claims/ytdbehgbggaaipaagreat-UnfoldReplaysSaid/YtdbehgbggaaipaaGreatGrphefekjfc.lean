import Derived.Test.YtdbehgbggaaipaaGreatGrpkgiojkhf
import Derived.Test.YtdbehgbggaaipaaGreatGrppibiedhl
import Derived.Test.YtdbehgbggaaipaaGreatGrpjljjncbf
import Derived.Test.YtdbehgbggaaipaaGreatGrpinmkkjpe
set_option linter.all false
namespace Go.Proofs.YtdbehgbggaaipaaGreat
open Go.RowKit Go.Deep
set_option maxRecDepth 100000
set_option maxHeartbeats 6400000
variable {J:World→Prop}
abbrev Zdc (x0:Fm) (x1:Int) (x2:Int) (x3:Int) (x4:Cf):List (Nat × ABlk):=[(1,.box 27 (cFm x0)),(2,.box 29 (cSz x1 x2 x3)),(3,.box 31 (Rd.cCg x4))]
variable {p:Fm}{n t f x:Int}{c:Cf}{fo:Bool}
theorem rheard_c (hc:En.CfV p n f c) (hf:0≤f∧f≤1048576) (h0:0≤x) (hm:x.toNat<p.msgs.length) :Ctr Tryz.prog J 68 [.agg (cFm p),.agg (cSz n t f),.agg (Rd.cCg c),iv x,bv fo] (iv (En.hdG p f c fo x.toNat)):=by
 have hse:x.toNat<c.se.length:=by rw [hc.ls];exact hm
 have hfa:x.toNat<c.fa.length:=by rw [hc.lf];exact hm
 have b1:=hc.se _ (List.getElem_mem hse)
 have b2:=hc.fa _ (List.getElem_mem hfa)
 refine Zm Tryz.func68 rfl (pN (Zh (ZS p)) (pN (Zh (Ya n t f)) (pN (Zh (Rd.plain_cg c)) (pN (.v _) (pN (.v _) pZ))))) (n:=54) rfl (by simp) (fun w0 => ?_)
 refine kW 54 [] [(0,.agg (cFm p)),(1,.agg (cSz n t f)),(2,.agg (Rd.cCg c)),(3,iv x),(4,bv fo)] (jB (oX 1 (.agg (cFm p)) (oX 2 (.agg (cSz n t f)) (oX 3 (.agg (Rd.cCg c)) (oS (iv 0) (jD (Zl ?_)))))))
 by_cases hs1:p.fzz=1
 refine Za (oW (oW (oe (dT hs1) (oS bT (qK (qK (qK (qK (qK (qK (qK (oS bT (jH (Zl ?_))))))))))))))
 refine tD (dW (dS (Zb c.se) (dS (iv x) (dC (xS (x.toNat*1) 24 25 U24) I0 I0 (dL (iv c.se[x.toNat]) (Zw c.se (by omega)) (dW (dS (Zb c.fa) (dS (iv x) (dC (xS (x.toNat*1) 29 30 U24) I0 I0 (dL (iv c.fa[x.toNat]) (Zw c.fa (by omega)) (dC (WW (c:=c.se[x.toNat]+c.fa[x.toNat]) rfl (w64 (by omega) (by omega) (by omega))) I0 I0 (dS (iv (c.se[x.toNat]+c.fa[x.toNat])) (eD ?_)))))))))))))
 refine Zf (jN ?_)
 refine Zg Tryz.results68 (.tmp rfl) ?_
 rw [En.g_1 hm hs1,Ct.getD_at hse,Ct.getD_at hfa]
 exact rfl
 by_cases hs2:p.fzz=2
 by_cases hs3:fo=true
 rw [hs3]
 refine kW 54 (Zdc p n t f c) [(3,iv x),(4,bT),(5,bx 1),(6,bx 2),(7,bx 3),(10,iv 0)] (Za (oW (oW (oe (dF hs1) (oS bF (oW (oW (oe (dT hs2) (oS bT (oW (oW (oW (oS bF (jF (jM (Za (oF (iv p.fzz) (oC (ZM rfl (dF (by omega))) I0 I0 ?_))))))))))))))))))
 refine oS bF (qK (qK (oS bF (jF (jB (oF (Zb c.se) (oS (iv x) (oC (xS (x.toNat*1) 50 51 U24) I0 I0 (oL (iv c.se[x.toNat]) (Zw c.se (by omega)) (oS (iv c.se[x.toNat]) (jE ?_)))))))))))
 refine Zg Tryz.results68 (.tmp rfl) ?_
 rw [En.g_t hs1,Ct.getD_at hse]
 exact rfl
 have hs3f:fo=false:=by simpa using hs3
 rw [hs3f]
 refine kW 54 (Zdc p n t f c) [(3,iv x),(4,bF),(5,bx 1),(6,bx 2),(7,bx 3),(10,iv 0)] (Za (oW (oW (oe (dF hs1) (oS bF (oW (oW (oe (dT hs2) (oS bT (oW (oW (oW (oS bT (jH (Zl ?_)))))))))))))))
 refine tD (dW (dS (Zb c.se) (dS (iv x) (dC (xS (x.toNat*1) 24 25 U24) I0 I0 (dL (iv c.se[x.toNat]) (Zw c.se (by omega)) (dW (dS (Zb c.fa) (dS (iv x) (dC (xS (x.toNat*1) 29 30 U24) I0 I0 (dL (iv c.fa[x.toNat]) (Zw c.fa (by omega)) (dC (WW (c:=c.se[x.toNat]+c.fa[x.toNat]) rfl (w64 (by omega) (by omega) (by omega))) I0 I0 (dS (iv (c.se[x.toNat]+c.fa[x.toNat])) (eD ?_)))))))))))))
 refine Zf (jN ?_)
 refine Zg Tryz.results68 (.tmp rfl) ?_
 rw [En.g_2 hm hs2 rfl,Ct.getD_at hse,Ct.getD_at hfa]
 exact rfl
 refine Za (oW (oW (oe (dF hs1) (oS bF (oW (oW (oe (dF hs2) (oS bF (qK (qK (oW (oS bF (jF (jM ?_))))))))))))))
 by_cases hs4:p.fzz=3
 by_cases hs5:fo=true
 rw [hs5]
 refine kW 54 (Zdc p n t f c) [(3,iv x),(4,bT),(5,bx 1),(6,bx 2),(7,bx 3),(10,iv 0),(22,bF)] (Za (oW (oW (oe (dT hs4) (oS bT (oW (oW (oS bF (jF (jB (oF (Zb c.se) (oS (iv x) (oC (xS (x.toNat*1) 50 51 U24) I0 I0 (oL (iv c.se[x.toNat]) (Zw c.se (by omega)) (oS (iv c.se[x.toNat]) (jE ?_))))))))))))))))
 refine Zg Tryz.results68 (.tmp rfl) ?_
 rw [En.g_t hs1,Ct.getD_at hse]
 exact rfl
 have hs5f:fo=false:=by simpa using hs5
 rw [hs5f]
 refine kW 54 (Zdc p n t f c) [(3,iv x),(4,bF),(5,bx 1),(6,bx 2),(7,bx 3),(10,iv 0),(22,bF)] (Za (oW (oW (oe (dT hs4) (oS bT (oW (oW (oS bT (jH (Zl ?_))))))))))
 refine tD (dW (dS (Zb c.se) (dS (iv x) (dC (xS (x.toNat*1) 42 43 U24) I0 I0 (dL (iv c.se[x.toNat]) (Zw c.se (by omega)) (dW (dS (iv f) (dC (WW (c:=c.se[x.toNat]+f) rfl (w64 (by omega) (by omega) (by omega))) I0 I0 (dS (iv (c.se[x.toNat]+f)) (eD ?_))))))))))
 refine Zf (jN ?_)
 refine Zg Tryz.results68 (.tmp rfl) ?_
 rw [En.g_3 hm hs1 hs2 hs4 rfl,Ct.getD_at hse]
 exact rfl
 refine Za (oW (oW (oe (dF hs4) (oS bF (qK (qK (oS bF (jF (jB (oF (Zb c.se) (oS (iv x) (oC (xS (x.toNat*1) 50 51 U24) I0 I0 (oL (iv c.se[x.toNat]) (Zw c.se (by omega)) (oS (iv c.se[x.toNat]) (jE ?_)))))))))))))))
 refine Zg Tryz.results68 (.tmp rfl) ?_
 rw [En.g_0 hm hs1 hs2 hs4,Ct.getD_at hse]
 exact rfl
theorem Wm (HC:Rd.CgOk c) {l:List Int} (ll:l.length≤9223372036854775807) (hx:x<(c.st.length:Int)):Ctr Tryz.prog J 45 [.agg (Rd.cCg c),Zb l,iv x] (bv (En.fitB c x l)):=by
 have l100:=HC.lst
 refine Zm Tryz.func45 rfl (pN (Zh (Rd.plain_cg c)) (pN (ZK _) (pN (.v _) pZ))) (n:=23) rfl (by simp) (fun w0 => ?_)
 refine kW 23 [] [(0,.agg (Rd.cCg c)),(1,Zb l),(2,iv x)] (jB (oX 1 (.agg (Rd.cCg c)) (oS bF (jD ?_))))
 by_cases hs1:(l.length:Int)=0
 refine Za (oW (oW (oe (dT hs1) (oS bT (qK (qK (qK (qK (qK (qK (qK (qK (qK (qK (qK (oF bT (jE ?_)))))))))))))))))
 refine Zg Tryz.results45 (.tmp rfl) ?_
 exact cB ((by unfold En.fitB;simp only [dT hs1,decide_true,decide_false,Bool.and_true,Bool.true_and,Bool.false_and,Bool.and_false,Bool.true_or,Bool.false_or,Bool.or_true,Bool.or_false,Bool.not_true,Bool.not_false]))
 by_cases hs2:0≤x
 refine Za (oW (oW (oe (dF hs1) (oS bF (oW (oh (dT hs2) (oS bT (oW (oF (Zb c.st) (oS (iv x) (gC (xS (x.toNat*1) 16 17 U24) I0 I0 (oL (iv c.st[x.toNat]) (Zw c.st (by omega)) (oK (has_c l c.st[x.toNat] ll) [Zb l,iv c.st[x.toNat]] rfl rfl (oW (oF (bv (decide (c.st[x.toNat]∈l))) (jE ?_))))))))))))))))
 refine Zg Tryz.results45 (.tmp rfl) ?_
 exact cB ((by unfold En.fitB;rw [Ct.getD_at (L:=c.st) (i:=x.toNat) (by omega)];simp only [dF hs1,dT hs2,decide_true,decide_false,Bool.and_true,Bool.true_and,Bool.false_and,Bool.and_false,Bool.true_or,Bool.false_or,Bool.or_true,Bool.or_false,Bool.not_true,Bool.not_false]))
 refine Za (oW (oW (oe (dF hs1) (oS bF (oW (oh (dF hs2) (oS bF (qK (qK (qK (qK (qK (qK (qK (oW (oF bF (jE ?_)))))))))))))))))
 refine Zg Tryz.results45 (.tmp rfl) ?_
 exact cB ((by unfold En.fitB;simp only [dF hs1,dF hs2,decide_true,decide_false,Bool.and_true,Bool.true_and,Bool.false_and,Bool.and_false,Bool.true_or,Bool.false_or,Bool.or_true,Bool.or_false,Bool.not_true,Bool.not_false]))
theorem En.lo_gdr {r:Ru} {g:Nat→Int} {i k:Nat} (hk:k<r.gz.length) (h:r.gz[k].coef*g r.gz[k].msg.toNat<evN r.gz[k].bd.c r.gz[k].bd.n r.gz[k].bd.t r.gz[k].bd.f n t f):En.loB n t f c r g i=false:=by
 refine En.lo_gd hk ?_
 unfold En.gbV
 rw [List.getD_eq_getElem?_getD,List.getElem?_eq_getElem hk,Option.getD_some]
 exact h
abbrev Zfd (x0:Fm) (x1:Int) (x2:Int) (x3:Int) (x4:Cf) (x5:Ru):List (Nat × ABlk):=[(1,.box 27 (cFm x0)),(2,.box 29 (cSz x1 x2 x3)),(3,.box 31 (Rd.cCg x4)),(4,.box 57 (cRu x5))]
abbrev YY (x0:Cf) (x1:Ru):List (Nat × ABlk):=[(3,.box 31 (Rd.cCg x0)),(4,.box 57 (cRu x1))]
abbrev XEr3_h3 (x0:Nat) (x1:Nat):List (Nat × AV):=[(4,iv x0),(8,bx 3),(9,bx 4),(17,bT),(18,iv x1),(58,bT),(63,bF)]
abbrev XEr3_h4 (x0:Nat) (x1:Nat):List (Nat × AV):=[(4,iv x0),(8,bx 3),(9,bx 4),(17,bT),(18,iv x1),(58,bT),(63,bF),(89,bF)]
abbrev XEr3_h5 (x0:Nat) (x1:Nat):List (Nat × AV):=[(4,iv x0),(8,bx 3),(9,bx 4),(17,bT),(18,iv (x1+1:Nat)),(58,bT),(63,bF),(89,bF)]
variable {r i:Nat}
set_option maxRecDepth 100000 in
set_option maxHeartbeats 6400000 in
theorem rlocal_c (HL:FamLen p) (HC:Rd.CgOk c) (hc:En.CfV p n f c) (hf:0≤f∧f≤1048576) (hr:r<p.rz.length) (R:En.RuV p p.rz[r]) (hrd:En.rdN c p.rz[r]=false):Ctr Tryz.prog J 44 [.agg (cFm p),.agg (cSz n t f),.agg (Rd.cCg c),.agg (cRu p.rz[r]),iv i,bv fo] (bv (En.loB n t f c p.rz[r] (En.hdG p f c fo) i)):=by
 have hle:_≤9223372036854775807:=Nat.le_trans (HL.rz _ (List.getElem_mem hr)).ex (by decide)
 have hlf:_≤9223372036854775807:=Nat.le_trans (HL.rz _ (List.getElem_mem hr)).fa (by decide)
 have hlst:=HC.lst
 have hgl:=R.gl
 refine Zm Tryz.func44 rfl (pN (Zh (ZS p)) (pN (Zh (Ya n t f)) (pN (Zh (Rd.plain_cg c)) (pN (Zh (Y0 _)) (pN (.v _) (pN (.v _) pZ)))))) (n:=91) rfl (by simp) (fun w0 => ?_)
 refine kW 91 [] [(0,.agg (cFm p)),(1,.agg (cSz n t f)),(2,.agg (Rd.cCg c)),(3,.agg (cRu p.rz[r])),(4,iv i),(5,bv fo)] (jB (oX 1 (.agg (cFm p)) (oX 2 (.agg (cSz n t f)) (oX 3 (.agg (Rd.cCg c)) (oX 4 (.agg (cRu p.rz[r])) (oS bF (jD (jB (oS (iv 0) (kN 91 (Zfd p n t f c p.rz[r]) [(4,iv i),(5,bv fo),(6,bx 1),(7,bx 2),(8,bx 3),(9,bx 4),(12,bF),(13,iv 0)] (Zf (Zo ?_))))))))))))
 refine ZL (σ:={k:Nat // k≤p.rz[r].gz.length∧Rd.noP p.rz[r].gz (En.gdN n t f (En.hdG p f c fo)) k}) (fun s=>(ofL (Zfd p n t f c p.rz[r]),ofT 91 [(4,iv i),(5,bv fo),(6,bx 1),(7,bx 2),(8,bx 3),(9,bx 4),(13,iv s.1)])) (fun s=>p.rz[r].gz.length-s.1) ⟨0,Nat.zero_le _,Rd.noP_zero _ _⟩ (Zp _ _) (fun s => ?_)
 obtain ⟨k,hk0,hs0⟩:=s
 show ETri J w0 (ofL (Zfd p n t f c p.rz[r])) (ofT 91 [(4,iv i),(5,bv fo),(6,bx 1),(7,bx 2),(8,bx 3),(9,bx 4),(13,iv k)]) _
 refine jM ?_
 by_cases hs1:(k:Int)<((p.rz[r].gz.length:Nat):Int)
 have hk1:k<p.rz[r].gz.length:=by omega
 have hgk:=R.gd _ (List.getElem_mem hk1)
 have hgb:=En.hdG_in hc hf fo p.rz[r].gz[k].msg.toNat
 refine Za (oW (oW (oW (oW (ol (dT hs1) (jH (Zq (jC (Zo (jB (oF (slA 6 cTh p.rz[r].gz) (oS (iv k) (oC (xS (k*6) 27 28 U55) I0 I0 (oA (Zj (z:=6) (.tmp 29) rfl U111 rfl (by kernel_rfl) (Z9 lenTh p.rz[r].gz k (by omega)) rfl) I0 (oZ 5 Z111 (oY (kN 91 [(1,.box 27 (cFm p)),(2,.box 29 (cSz n t f)),(3,.box 31 (Rd.cCg c)),(4,.box 57 (cRu p.rz[r])),(5,.box 111 (cTh p.rz[r].gz[k]))] [(4,iv i),(5,bv fo),(6,bx 1),(7,bx 2),(8,bx 3),(9,bx 4),(13,iv k),(14,bx 5),(23,bT)] (jC ?_))))))))))))))))))
 refine Za (oW (oW (oW (oK (rEv_c (l:=p.rz[r].gz[k].bd)) [.agg [iv p.rz[r].gz[k].bd.c,iv p.rz[r].gz[k].bd.n,iv p.rz[r].gz[k].bd.t,iv p.rz[r].gz[k].bd.f],.agg (cSz n t f)] rfl rfl (oS (.tup [iv (evN p.rz[r].gz[k].bd.c p.rz[r].gz[k].bd.n p.rz[r].gz[k].bd.t p.rz[r].gz[k].bd.f n t f),iv (evE p.rz[r].gz[k].bd.c p.rz[r].gz[k].bd.n p.rz[r].gz[k].bd.t p.rz[r].gz[k].bd.f n t f)]) (oW (oW (oS (iv (evN p.rz[r].gz[k].bd.c p.rz[r].gz[k].bd.n p.rz[r].gz[k].bd.t p.rz[r].gz[k].bd.f n t f)) (oS (iv (evE p.rz[r].gz[k].bd.c p.rz[r].gz[k].bd.n p.rz[r].gz[k].bd.t p.rz[r].gz[k].bd.f n t f)) (jD ?_))))))))))
 by_cases hs2:p.rz[r].gz[k].coef*(En.hdG p f c fo p.rz[r].gz[k].msg.toNat)<(evN p.rz[r].gz[k].bd.c p.rz[r].gz[k].bd.n p.rz[r].gz[k].bd.t p.rz[r].gz[k].bd.f n t f)
 refine tD (dW (dS (iv p.rz[r].gz[k].coef) (dW (dW (dW (dW (dW (dW (dk (rheard_c hc hf hgk.1 (by omega)) [.agg (cFm p),.agg (cSz n t f),.agg (Rd.cCg c),iv p.rz[r].gz[k].msg,bv fo] rfl rfl (dC (sp_mul (c:=p.rz[r].gz[k].coef*(En.hdG p f c fo p.rz[r].gz[k].msg.toNat)) rfl (En.mulW hgk.2.2.1 hgk.2.2.2 hgb.1 hgb.2)) I0 I0 (dW (dl (dT hs2) (eD ?_)))))))))))))
 refine kW 91 [(1,.box 27 (cFm p)),(2,.box 29 (cSz n t f)),(3,.box 31 (Rd.cCg c)),(4,.box 57 (cRu p.rz[r])),(5,.box 111 (cTh p.rz[r].gz[k]))] [(4,iv i),(5,bv fo),(6,bx 1),(7,bx 2),(8,bx 3),(9,bx 4),(13,iv k),(14,bx 5),(15,iv (evN p.rz[r].gz[k].bd.c p.rz[r].gz[k].bd.n p.rz[r].gz[k].bd.t p.rz[r].gz[k].bd.f n t f)),(23,bT),(49,bT)] (Zf (jK (oS bF (jE (Zn (Zc (Zc (Zn (Zc ?_)))))))))
 refine Zg Tryz.results44 (.tmp rfl) ?_
 exact cB ((En.lo_gdr hk1 hs2).symm)
 refine tD (dW (dS (iv p.rz[r].gz[k].coef) (dW (dW (dW (dW (dW (dW (dk (rheard_c hc hf hgk.1 (by omega)) [.agg (cFm p),.agg (cSz n t f),.agg (Rd.cCg c),iv p.rz[r].gz[k].msg,bv fo] rfl rfl (dC (sp_mul (c:=p.rz[r].gz[k].coef*(En.hdG p f c fo p.rz[r].gz[k].msg.toNat)) rfl (En.mulW hgk.2.2.1 hgk.2.2.2 hgb.1 hgb.2)) I0 I0 (dW (dl (dF hs2) (eD ?_)))))))))))))
 refine kW 91 [(1,.box 27 (cFm p)),(2,.box 29 (cSz n t f)),(3,.box 31 (Rd.cCg c)),(4,.box 57 (cRu p.rz[r])),(5,.box 111 (cTh p.rz[r].gz[k]))] [(4,iv i),(5,bv fo),(6,bx 1),(7,bx 2),(8,bx 3),(9,bx 4),(13,iv k),(14,bx 5),(15,iv (evN p.rz[r].gz[k].bd.c p.rz[r].gz[k].bd.n p.rz[r].gz[k].bd.t p.rz[r].gz[k].bd.f n t f)),(23,bT),(49,bF)] (Zf (ZA rfl (Zq (Zv (Zf (Za (oS (iv k) (oV ((k+1:Nat):Int) (oS (iv (k+1:Nat)) (kN 91 [(1,.box 27 (cFm p)),(2,.box 29 (cSz n t f)),(3,.box 31 (Rd.cCg c)),(4,.box 57 (cRu p.rz[r])),(5,.box 111 (cTh p.rz[r].gz[k]))] [(4,iv i),(5,bv fo),(6,bx 1),(7,bx 2),(8,bx 3),(9,bx 4),(13,iv (k+1:Nat)),(14,bx 5),(15,iv (evN p.rz[r].gz[k].bd.c p.rz[r].gz[k].bd.n p.rz[r].gz[k].bd.t p.rz[r].gz[k].bd.f n t f)),(23,bT),(49,bF)] (Zf ?_)))))))))))
 refine Zs ⟨k+1,by omega,Rd.noP_succ hk1 hs0 (decide_eq_false hs2)⟩ (show p.rz[r].gz.length-(k+1)<p.rz[r].gz.length-k by omega) ?_
 exact Zp _ _
 refine Za (oW (oW (oW (oW (ol (dF hs1) (jI (jO (jC (Za (oW (oF (iv (p.rz[r].ex.length:Nat)) (oC (ZM rfl rfl) I0 I0 (oS (bv (decide (((p.rz[r].ex.length:Nat):Int)=0))) (jD (Zl ?_)))))))))))))))
 refine Za (oS (iv 0) (kN 91 [(3,.box 31 (Rd.cCg c)),(4,.box 57 (cRu p.rz[r]))] [(4,iv i),(8,bx 3),(9,bx 4),(17,bv (decide (((p.rz[r].ex.length:Nat):Int)=0))),(18,iv 0)] (Zf (Zo ?_))))
 rw [← En.exU_zero (c:=c) (i:=i)]
 refine ZL (σ:={j:Nat // j≤c.st.length∧En.noF c p.rz[r] i j}) (fun s=>(ofL (YY c p.rz[r]),ofT 91 [(4,iv i),(8,bx 3),(9,bx 4),(17,bv (En.exU c p.rz[r] i s.1)),(18,iv s.1)])) (fun s=>c.st.length-s.1) ⟨0,Nat.zero_le _,En.noF_zero⟩ (Zp _ _) (fun s => ?_)
 obtain ⟨j,hj0,hnf⟩:=s
 show ETri J w0 (ofL (YY c p.rz[r])) (ofT 91 [(4,iv i),(8,bx 3),(9,bx 4),(17,bv (En.exU c p.rz[r] i j)),(18,iv j)]) _
 refine jM ?_
 by_cases hs3:(j:Int)<(c.st.length:Int)
 have hj1:j<c.st.length:=by omega
 refine Za (oW (oW (oW (oW (ol (dT hs3) (jH (Zq (jC (Zo (jM ?_))))))))))
 by_cases hs4:(j:Int)=(i:Int)
 refine Za (oW (oW (oe (dT hs4) (jH (ZcI (Wt (t_hit (Zf (Za (oS (iv j) (oV ((j+1:Nat):Int) (oS (iv (j+1:Nat)) (kN 91 (YY c p.rz[r]) [(4,iv i),(8,bx 3),(9,bx 4),(17,bv (En.exU c p.rz[r] i j)),(18,iv (j+1:Nat)),(58,bT),(63,bT)] (Zf ?_))))))))))))))
 refine Zs ⟨j+1,by omega,En.noF_succ hnf (En.fa_same (by omega))⟩ (show c.st.length-(j+1)<c.st.length-j by omega) ?_
 show Wk _ _ (ofL [(3,.box 31 (Rd.cCg c)),(4,.box 57 (cRu p.rz[r]))]) (ofT 91 [(4,iv i),(8,bx 3),(9,bx 4),(17,bv (En.exU c p.rz[r] i (j+1))),(18,iv ((j+1):Nat))])
 rw [En.exU_same (by omega)]
 exact Zp _ _
 refine Za (oW (oW (oe (dF hs4) (jF (Zl ?_)))))
 by_cases hs5:(En.exU c p.rz[r] i j)=true
 rw [hs5]
 refine kW 91 (YY c p.rz[r]) (XEr3_h3 i j) ?_
 refine tD (dW (dS bT (dK (dK (dK (dK (dK (dK (dK (dK (dW (dS bT (eD ?_)))))))))))))
 refine kW 91 (YY c p.rz[r]) (XEr3_h3 i j) (jC ?_)
 by_cases hs6:0<((p.rz[r].fa.length:Nat):Int)
 by_cases hs7:(decide (c.st[j]∈p.rz[r].fa))=true
 refine tD (dW (dW (dW (dg (dT hs6) (dS bT (dW (dW (dW (dS (Zb c.st) (dS (iv j) (dC (xS (j*1) 83 84 U24) I0 I0 (dL (iv c.st[j]) (Zw c.st (by omega)) (dk (Zr (has_c p.rz[r].fa c.st[j] hlf) hs7) [Zb p.rz[r].fa,iv c.st[j]] rfl rfl (dW (dS bF (eD ?_))))))))))))))))
 refine kW 91 (YY c p.rz[r]) (XEr3_h4 i j) (Zf (ZA rfl (Zq (Zv (Zf (Za (oS (iv j) (oV ((j+1:Nat):Int) (oS (iv (j+1:Nat)) (kN 91 (YY c p.rz[r]) (XEr3_h5 i j) (Zf ?_)))))))))))
 refine Zs ⟨j+1,by omega,En.noF_succ hnf (En.fa_in hj1 hs7)⟩ (show c.st.length-(j+1)<c.st.length-j by omega) ?_
 show Wk _ _ (ofL [(3,.box 31 (Rd.cCg c)),(4,.box 57 (cRu p.rz[r]))]) (ofT 91 [(4,iv i),(8,bx 3),(9,bx 4),(17,bv (En.exU c p.rz[r] i (j+1))),(18,iv ((j+1):Nat))])
 rw [En.exU_t hs5]
 exact Zp _ _
 have hs7f:(decide (c.st[j]∈p.rz[r].fa))=false:=by simpa using hs7
 refine tD (dW (dW (dW (dg (dT hs6) (dS bT (dW (dW (dW (dS (Zb c.st) (dS (iv j) (dC (xS (j*1) 83 84 U24) I0 I0 (dL (iv c.st[j]) (Zw c.st (by omega)) (dk (Zr (has_c p.rz[r].fa c.st[j] hlf) hs7f) [Zb p.rz[r].fa,iv c.st[j]] rfl rfl (dW (dS bT (eD ?_))))))))))))))))
 refine kW 91 (YY c p.rz[r]) [(4,iv i),(8,bx 3),(9,bx 4),(17,bT),(18,iv j),(58,bT),(63,bF),(89,bT)] (Zf (jK (oS bF (jE (Zn (Zc (Zc (Zn (Zc ?_)))))))))
 refine Zg Tryz.results44 (.tmp rfl) ?_
 exact cB ((En.lo_fa hj1 (En.fa_out hj1 (by omega) hs6 hs7f)).symm)
 refine tD (dW (dW (dW (dg (dF hs6) (dS bF (dK (dK (dK (dK (dK (dK (dK (dK (dK (dS bF (eD ?_))))))))))))))))
 refine kW 91 (YY c p.rz[r]) (XEr3_h4 i j) (Zf (ZA rfl (Zq (Zv (Zf (Za (oS (iv j) (oV ((j+1:Nat):Int) (oS (iv (j+1:Nat)) (kN 91 (YY c p.rz[r]) (XEr3_h5 i j) (Zf ?_)))))))))))
 refine Zs ⟨j+1,by omega,En.noF_succ hnf (En.fa_none hs6)⟩ (show c.st.length-(j+1)<c.st.length-j by omega) ?_
 show Wk _ _ (ofL [(3,.box 31 (Rd.cCg c)),(4,.box 57 (cRu p.rz[r]))]) (ofT 91 [(4,iv i),(8,bx 3),(9,bx 4),(17,bv (En.exU c p.rz[r] i (j+1))),(18,iv ((j+1):Nat))])
 rw [En.exU_t hs5]
 exact Zp _ _
 have hs5f:(En.exU c p.rz[r] i j)=false:=by simpa using hs5
 rw [hs5f]
 refine kW 91 (YY c p.rz[r]) [(4,iv i),(8,bx 3),(9,bx 4),(17,bF),(18,iv j),(58,bT),(63,bF)] ?_
 refine tD (dW (dS bF (dW (dW (dW (dS (Zb c.st) (dS (iv j) (dC (xS (j*1) 69 70 U24) I0 I0 (dL (iv c.st[j]) (Zw c.st (by omega)) (dk (has_c p.rz[r].ex c.st[j] hle) [Zb p.rz[r].ex,iv c.st[j]] rfl rfl (dW (dS (bv (decide (c.st[j]∈p.rz[r].ex))) (eD ?_)))))))))))))
 refine kW 91 (YY c p.rz[r]) [(4,iv i),(8,bx 3),(9,bx 4),(17,bv (decide (c.st[j]∈p.rz[r].ex))),(18,iv j),(58,bT),(63,bF)] (jC ?_)
 by_cases hs8:0<((p.rz[r].fa.length:Nat):Int)
 by_cases hs9:(decide (c.st[j]∈p.rz[r].fa))=true
 refine tD (dW (dW (dW (dg (dT hs8) (dS bT (dW (dW (dW (dS (Zb c.st) (dS (iv j) (dC (xS (j*1) 83 84 U24) I0 I0 (dL (iv c.st[j]) (Zw c.st (by omega)) (dk (Zr (has_c p.rz[r].fa c.st[j] hlf) hs9) [Zb p.rz[r].fa,iv c.st[j]] rfl rfl (dW (dS bF (eD ?_))))))))))))))))
 refine kW 91 (YY c p.rz[r]) [(4,iv i),(8,bx 3),(9,bx 4),(17,bv (decide (c.st[j]∈p.rz[r].ex))),(18,iv j),(58,bT),(63,bF),(89,bF)] (Zf (ZA rfl (Zq (Zv (Zf (Za (oS (iv j) (oV ((j+1:Nat):Int) (oS (iv (j+1:Nat)) (kN 91 (YY c p.rz[r]) [(4,iv i),(8,bx 3),(9,bx 4),(17,bv (decide (c.st[j]∈p.rz[r].ex))),(18,iv (j+1:Nat)),(58,bT),(63,bF),(89,bF)] (Zf ?_)))))))))))
 refine Zs ⟨j+1,by omega,En.noF_succ hnf (En.fa_in hj1 hs9)⟩ (show c.st.length-(j+1)<c.st.length-j by omega) ?_
 show Wk _ _ (ofL [(3,.box 31 (Rd.cCg c)),(4,.box 57 (cRu p.rz[r]))]) (ofT 91 [(4,iv i),(8,bx 3),(9,bx 4),(17,bv (En.exU c p.rz[r] i (j+1))),(18,iv ((j+1):Nat))])
 rw [En.exU_f hj1 hs5f (by omega)]
 exact Zp _ _
 have hs9f:(decide (c.st[j]∈p.rz[r].fa))=false:=by simpa using hs9
 refine tD (dW (dW (dW (dg (dT hs8) (dS bT (dW (dW (dW (dS (Zb c.st) (dS (iv j) (dC (xS (j*1) 83 84 U24) I0 I0 (dL (iv c.st[j]) (Zw c.st (by omega)) (dk (Zr (has_c p.rz[r].fa c.st[j] hlf) hs9f) [Zb p.rz[r].fa,iv c.st[j]] rfl rfl (dW (dS bT (eD ?_))))))))))))))))
 refine kW 91 (YY c p.rz[r]) [(4,iv i),(8,bx 3),(9,bx 4),(17,bv (decide (c.st[j]∈p.rz[r].ex))),(18,iv j),(58,bT),(63,bF),(89,bT)] (Zf (jK (oS bF (jE (Zn (Zc (Zc (Zn (Zc ?_)))))))))
 refine Zg Tryz.results44 (.tmp rfl) ?_
 exact cB ((En.lo_fa hj1 (En.fa_out hj1 (by omega) hs8 hs9f)).symm)
 refine tD (dW (dW (dW (dg (dF hs8) (dS bF (dK (dK (dK (dK (dK (dK (dK (dK (dK (dS bF (eD ?_))))))))))))))))
 refine kW 91 (YY c p.rz[r]) [(4,iv i),(8,bx 3),(9,bx 4),(17,bv (decide (c.st[j]∈p.rz[r].ex))),(18,iv j),(58,bT),(63,bF),(89,bF)] (Zf (ZA rfl (Zq (Zv (Zf (Za (oS (iv j) (oV ((j+1:Nat):Int) (oS (iv (j+1:Nat)) (kN 91 (YY c p.rz[r]) [(4,iv i),(8,bx 3),(9,bx 4),(17,bv (decide (c.st[j]∈p.rz[r].ex))),(18,iv (j+1:Nat)),(58,bT),(63,bF),(89,bF)] (Zf ?_)))))))))))
 refine Zs ⟨j+1,by omega,En.noF_succ hnf (En.fa_none hs8)⟩ (show c.st.length-(j+1)<c.st.length-j by omega) ?_
 show Wk _ _ (ofL [(3,.box 31 (Rd.cCg c)),(4,.box 57 (cRu p.rz[r]))]) (ofT 91 [(4,iv i),(8,bx 3),(9,bx 4),(17,bv (En.exU c p.rz[r] i (j+1))),(18,iv ((j+1):Nat))])
 rw [En.exU_f hj1 hs5f (by omega)]
 exact Zp _ _
 refine Za (oW (oW (oW (oW (ol (dF hs3) (jI (jO (jC (Za (oF (bv (En.exU c p.rz[r] i j)) (jE ?_)))))))))))
 refine Zg Tryz.results44 (.tmp rfl) ?_
 exact cB ((En.lo_ex hrd (by omega) hs0 (by omega) hj0 hnf).symm)
namespace En
section
variable {p:Fm} {top n t f:Int} {c:Cf} {g:Nat→Int} {r:Ru} {i:Nat} {k:Int}
theorem en_st (hi:i<c.st.length) (h:¬ c.st[i]=r.frm):enR top n t f c g r i k=false:=by unfold enR;rw [Ct.getD_at hi,decide_eq_false h];rfl
theorem en_pt (h:ptB c r i k=false):enR top n t f c g r i k=false:=by unfold enR;rw [h];simp
theorem rd_val (R:RuV p r):(decide (r.rd<0)||decide (c.val=r.rd)) = !rdN c r:=by
 unfold rdN
 by_cases h:0≤r.rd
 ·rw [decide_eq_true h,decide_eq_false (by omega:¬ r.rd<0)];simp
 rw [decide_eq_false h,decide_eq_true (by omega:r.rd<0)];rfl
theorem rdN_t (R:RuV p r) (h:¬ r.rd = -1) (h2:¬ c.val=r.rd):rdN c r=true:=by
 have:=R.rd
 unfold rdN;rw [decide_eq_true (by omega),decide_eq_false h2];rfl
theorem rdN_f (h:r.rd = -1∨c.val=r.rd):rdN c r=false:=by
 unfold rdN
 rcases h with h | h
 ·rw [decide_eq_false (by omega)];rfl
 rw [decide_eq_true h];simp
theorem en_1 (hi:i<c.st.length) (h:c.st[i]=r.frm) (hp:ptB c r i k=true) (k1:r.kind=1):enR top n t f c g r i k=loB n t f c r g i:=by unfold enR;rw [Ct.getD_at hi,decide_eq_true h,hp,if_pos k1];rfl
theorem en_23 (R:RuV p r) (hi:i<c.st.length) (h:c.st[i]=r.frm) (hp:ptB c r i k=true) (k1:r.kind=2∨r.kind=3) (hr:rdN c r=false):enR top n t f c g r i k=true:=by
 unfold enR;rw [Ct.getD_at hi,decide_eq_true h,hp,if_neg (by omega),if_neg (by omega),if_neg (by omega),rd_val R,hr];rfl
theorem en_4 (hi:i<c.st.length) (h:c.st[i]=r.frm) (hp:ptB c r i k=true) (k4:r.kind=4):enR top n t f c g r i k=nbB top c r i:=by unfold enR;rw [Ct.getD_at hi,decide_eq_true h,hp,if_neg (by omega),if_pos k4];rfl
theorem en_5 (hi:i<c.st.length) (h:c.st[i]=r.frm) (hp:ptB c r i k=true) (k5:r.kind=5):enR top n t f c g r i k=psB top c r i k:=by unfold enR;rw [Ct.getD_at hi,decide_eq_true h,hp,if_neg (by omega),if_neg (by omega),if_pos k5];rfl
theorem en_a (R:RuV p r) (hi:i<c.st.length) (h:(!decide (c.st[i]=r.frm)||rdN c r)=true):enR top n t f c g r i k=false:=by
 by_cases h1:c.st[i]=r.frm
 ·rw [decide_eq_true h1] at h
  have h2:rdN c r=true:=h
  have hk:=R.kd
  have:=R.em
  have h3:0≤r.rd:=by
   unfold rdN at h2
   rw [Bool.and_eq_true,decide_eq_true_iff] at h2
   exact h2.1
  unfold enR
  by_cases k1:r.kind=1
  ·rw [if_pos k1,lo_rd h2];simp
  rw [if_neg k1,if_neg (fun e=>by have:=(this k1 (by omega) (by omega)).1;omega),if_neg (fun e=>by have:=(this k1 (by omega) (by omega)).1;omega),rd_val R,h2];simp
 exact en_st hi h1
theorem en_b (hi:i<c.st.length) (h:(!decide (c.st[i]=r.frm)||rdN c r)=false):c.st[i]=r.frm∧rdN c r=false:=by
 rw [Bool.or_eq_false_iff,Bool.not_eq_false',decide_eq_true_iff] at h
 exact h
theorem pt_y (h:r.kind=2∨r.kind=5) (h1:0≤k∧k.toNat<c.st.length) (h2:¬ k=(i:Int)) (h3:c.st[k.toNat]'h1.2=r.pf):ptB c r i k=true:=by
 unfold ptB isP;rw [if_pos h,Ct.getD_at h1.2,decide_eq_true h3,decide_eq_false h2,decide_eq_true h1.1,decide_eq_true (by omega)];rfl
theorem pt_n (h:r.kind=2∨r.kind=5) (h1:¬ (0≤k∧k.toNat<c.st.length)):ptB c r i k=false:=by
 unfold ptB;rw [if_pos h,isP_no (by omega)];rfl
theorem pt_i (h:r.kind=2∨r.kind=5) (h1:k=(i:Int)):ptB c r i k=false:=by
 unfold ptB;rw [if_pos h,decide_eq_true h1];simp
theorem pt_p (h:r.kind=2∨r.kind=5) (h1:0≤k∧k.toNat<c.st.length) (h3:¬ c.st[k.toNat]'h1.2=r.pf):ptB c r i k=false:=by
 unfold ptB;rw [if_pos h,Ct.getD_at h1.2,decide_eq_false h3];simp
theorem pt_o (h:¬ (r.kind=2∨r.kind=5)) (h1:¬ k = -1):ptB c r i k=false:=by unfold ptB;rw [if_neg h,decide_eq_false h1]
theorem pt_1 (h:¬ (r.kind=2∨r.kind=5)) (h1:k = -1):ptB c r i k=true:=by unfold ptB;rw [if_neg h,decide_eq_true h1]
variable {m:Nat}
theorem inW_y (h:Rd.inW 0 ((m:Int)-1) x=true):0≤x∧x.toNat<m:=by
 unfold Rd.inW at h
 simp only [Bool.and_eq_true,decide_eq_true_eq] at h
 omega
theorem inW_n (h:Rd.inW 0 ((m:Int)-1) x=false):¬ (0≤x∧x.toNat<m):=by
 unfold Rd.inW at h
 simp only [Bool.and_eq_false_iff,decide_eq_false_iff_not] at h
 omega
end
end En
theorem En.bothC (hc:En.CfV p n f c) (hi:i<c.st.length) (h4:p.top=4):(0≤Jd.lkS p.top c.sh c.st.length i↔¬ Jd.lkF p.top c.sh c.st.length i = -1):=by
 have hs:=En.sh_tree hc h4
 unfold isShp at hs
 simp only [Bool.and_eq_true,decide_eq_true_eq] at hs
 have hl:c.sh.length=c.st.length:=by omega
 rw [h4,← hl]
 exact En.both hs.2 (by omega)
theorem nbClqP_c (HC:Rd.CgOk c) (hc:En.CfV p n f c) (hv:valE p=0) (hi:i<c.st.length) (h1:p.top=1):Ctr Tryz.prog J 43 [iv p.top,Zb c.sh,iv (c.st.length:Int),iv (i:Int)] (.tup [iv (-1),iv (-1),iv (-1)]):=by
 have:=nbP_c (J:=J) HC hc hv hi
 unfold En.nF En.nS En.nP at this
 rw [if_pos h1,if_pos h1,if_pos h1] at this
 exact this
theorem nbNo_c (HC:Rd.CgOk c) (hc:En.CfV p n f c) (hv:valE p=0) (hi:i<c.st.length) (h1:¬ p.top=1):Ctr Tryz.prog J 43 [iv p.top,Zb c.sh,iv (c.st.length:Int),iv (i:Int)] (.tup [iv (Jd.lkF p.top c.sh c.st.length i),iv (Jd.lkS p.top c.sh c.st.length i),iv (En.lkP p.top c.sh c.st.length i)]):=by
 have:=nbP_c (J:=J) HC hc hv hi
 unfold En.nF En.nS En.nP at this
 rw [if_neg h1,if_neg h1,if_neg h1] at this
 exact this
abbrev XEr4_h1 (x0:Fm) (x1:Int) (x2:Int) (x3:Int) (x4:Cf) (x5:Nat) (x6:Nat) (x7:Int) (x8:Bool):List (Nat × AV):=[(0,.agg (cFm x0)),(1,.agg (cSz x1 x2 x3)),(2,.agg (Rd.cCg x4)),(3,.agg [iv x5,iv x6,iv x7]),(4,bv x8)]
abbrev Y3 (x0:Fm) (x1:Int) (x2:Int) (x3:Int) (x4:Cf) (x5:Ru):List (Nat × ABlk):=[(1,.box 27 (cFm x0)),(2,.box 29 (cSz x1 x2 x3)),(3,.box 31 (Rd.cCg x4)),(5,.box 57 (cRu x5))]
abbrev XEr4_h3 (x0:Bool) (x1:Nat) (x2:Int):List (Nat × AV):=[(4,bv x0),(5,bx 1),(6,bx 2),(7,bx 3),(10,bF),(11,bx 5),(12,iv x1),(13,iv x2)]
abbrev XEr4_h4 (x0:Bool) (x1:Nat) (x2:Int):List (Nat × AV):=[(4,bv x0),(5,bx 1),(6,bx 2),(7,bx 3),(10,bF),(11,bx 5),(12,iv x1),(13,iv x2),(64,bT)]
abbrev XEr4_h5 (x0:Bool) (x1:Nat) (x2:Int):List (Nat × AV):=[(4,bv x0),(5,bx 1),(6,bx 2),(7,bx 3),(10,bF),(11,bx 5),(12,iv x1),(13,iv x2),(64,bF)]
variable {kp:Int}
theorem ZdL (HL:FamLen p) (HC:Rd.CgOk c) (hc:En.CfV p n f c) (hv:valE p=0) (hf:0≤f∧f≤1048576) (hr:r<p.rz.length) (hi:i<c.st.length) (h1:p.top=1):Ctr Tryz.prog J 26 [.agg (cFm p),.agg (cSz n t f),.agg (Rd.cCg c),.agg [iv r,iv i,iv kp],bv fo] (bv (En.enR p.top n t f c (En.hdG p f c fo) p.rz[r] i kp)):=by
 have R:=En.val_in hv (List.getElem_mem hr)
 have hz:=En.val_sizes hv
 have hlst:=HC.lst
 have hkd:=R.kd
 have hkt:=R.kt
 have htop:=Jd.top_in hv
 refine Zm Tryz.func26 rfl (pN (Zh (ZS p)) (pN (Zh (Ya n t f)) (pN (Zh (Rd.plain_cg c)) (pN (Zh (pN (.v _) (pN (.v _) (pN (.v _) pZ)))) (pN (.v _) pZ))))) (n:=199) rfl (by simp) (fun w0 => ?_)
 refine kW 199 [] (XEr4_h1 p n t f c r i kp fo) (jB (oX 1 (.agg (cFm p)) (oX 2 (.agg (cSz n t f)) (oX 3 (.agg (Rd.cCg c)) (oX 4 (.agg [iv r,iv i,iv kp]) (oS bF (jD (jB (oW (oW (oW (oF (iv p.rz.length) (oU ((p.rz.length:Int)-1) (oK (Zr Kv (Jd.in_w hr)) [iv r,iv 0,iv ((p.rz.length:Int)-1)] rfl rfl (oF bF (oW (oW (oW (oF (iv c.st.length) ?_)))))))))))))))))))
 refine oU ((c.st.length:Int)-1) (oK (Zr Kv (Jd.in_w hi)) [iv i,iv 0,iv ((c.st.length:Int)-1)] rfl rfl (oW (oS bF (jF (Zl ?_)))))
 refine tD (dW (dS (slA 18 cRu p.rz) (dW (dS (iv r) (dC (xS (r*18) 36 38 U25) I0 I0 (dA (Zj (z:=18) (.tmp 39) rfl U57 rfl (by kernel_rfl) (Z9 lenRu p.rz r (by omega)) rfl) I0 (dW (dW (dW (dW (dz 5 Z57 (dY (dS (iv i) (dS (iv kp) (eD ?_)))))))))))))))
 refine kW 199 (Y3 p n t f c p.rz[r]) (XEr4_h3 fo i kp) (jC (Zl ?_))
 refine Ym (True) (ofL [(1,.box 27 (cFm p)),(2,.box 29 (cSz n t f)),(3,.box 31 (Rd.cCg c)),(5,.box 57 (cRu p.rz[r]))]) (ofT 199 [(4,bv fo),(5,bx 1),(6,bx 2),(7,bx 3),(10,bF),(11,bx 5),(12,iv i),(13,iv kp),(64,bv (!decide (c.st[i]=p.rz[r].frm)||En.rdN c p.rz[r]))]) ?_ (fun _ => ?_)
 by_cases hs1:c.st[i]=p.rz[r].frm
 by_cases hs2:p.rz[r].rd=(-1)
 refine tD (dW (dS (Zb c.st) (dS (iv i) (dC (xS (i*1) 46 47 U24) I0 I0 (dL (iv c.st[i]) (Zw c.st (by omega)) (dW (dW (dn (dT' hs1) (dS bF (dW (dW (dn (dT' hs2) (dS bF (dK (dK (dK (dK (dK (dW (dS bF (eD ?_)))))))))))))))))))))
 refine kW 199 [(1,.box 27 (cFm p)),(2,.box 29 (cSz n t f)),(3,.box 31 (Rd.cCg c)),(5,.box 57 (cRu p.rz[r]))] [(4,bv fo),(5,bx 1),(6,bx 2),(7,bx 3),(10,bF),(11,bx 5),(12,iv i),(13,iv kp),(64,bF)] ?_
 rw [show (!decide (c.st[i]=p.rz[r].frm)||En.rdN c p.rz[r])=false from by rw [decide_eq_true hs1,En.rdN_f (.inl hs2)];rfl]
 exact tM T0
 by_cases hs3:c.val=p.rz[r].rd
 refine tD (dW (dS (Zb c.st) (dS (iv i) (dC (xS (i*1) 46 47 U24) I0 I0 (dL (iv c.st[i]) (Zw c.st (by omega)) (dW (dW (dn (dT' hs1) (dS bF (dW (dW (dn (dF' hs2) (dS bT (dW (dW (dW (dW (dn (dT' hs3) (dW (dS bF (eD ?_)))))))))))))))))))))
 refine kW 199 [(1,.box 27 (cFm p)),(2,.box 29 (cSz n t f)),(3,.box 31 (Rd.cCg c)),(5,.box 57 (cRu p.rz[r]))] [(4,bv fo),(5,bx 1),(6,bx 2),(7,bx 3),(10,bF),(11,bx 5),(12,iv i),(13,iv kp),(64,bF)] ?_
 rw [show (!decide (c.st[i]=p.rz[r].frm)||En.rdN c p.rz[r])=false from by rw [decide_eq_true hs1,En.rdN_f (.inr hs3)];rfl]
 exact tM T0
 refine tD (dW (dS (Zb c.st) (dS (iv i) (dC (xS (i*1) 46 47 U24) I0 I0 (dL (iv c.st[i]) (Zw c.st (by omega)) (dW (dW (dn (dT' hs1) (dS bF (dW (dW (dn (dF' hs2) (dS bT (dW (dW (dW (dW (dn (dF' hs3) (dW (dS bT (eD ?_)))))))))))))))))))))
 refine kW 199 [(1,.box 27 (cFm p)),(2,.box 29 (cSz n t f)),(3,.box 31 (Rd.cCg c)),(5,.box 57 (cRu p.rz[r]))] [(4,bv fo),(5,bx 1),(6,bx 2),(7,bx 3),(10,bF),(11,bx 5),(12,iv i),(13,iv kp),(64,bT)] ?_
 rw [show (!decide (c.st[i]=p.rz[r].frm)||En.rdN c p.rz[r])=true from by rw [decide_eq_true hs1,En.rdN_t R hs2 hs3];rfl]
 exact tM T0
 refine tD (dW (dS (Zb c.st) (dS (iv i) (dC (xS (i*1) 46 47 U24) I0 I0 (dL (iv c.st[i]) (Zw c.st (by omega)) (dW (dW (dn (dF' hs1) (dS bT (dK (dK (dK (dK (dK (dK (dK (dK (dK (dK (dS bT (eD ?_)))))))))))))))))))))
 refine kW 199 [(1,.box 27 (cFm p)),(2,.box 29 (cSz n t f)),(3,.box 31 (Rd.cCg c)),(5,.box 57 (cRu p.rz[r]))] [(4,bv fo),(5,bx 1),(6,bx 2),(7,bx 3),(10,bF),(11,bx 5),(12,iv i),(13,iv kp),(64,bT)] ?_
 rw [show (!decide (c.st[i]=p.rz[r].frm)||En.rdN c p.rz[r])=true from by rw [decide_eq_false hs1];rfl]
 exact tM T0
 refine Zf ?_
 by_cases hs4:(!decide (c.st[i]=p.rz[r].frm)||En.rdN c p.rz[r])=true
 rw [hs4]
 refine kW 199 (Y3 p n t f c p.rz[r]) (XEr4_h4 fo i kp) (jK (oS bF (jE (Zc ?_))))
 refine Zg Tryz.results26 (.tmp rfl) ?_
 exact cB ((En.en_a R hi hs4).symm)
 have hs4f:(!decide (c.st[i]=p.rz[r].frm)||En.rdN c p.rz[r])=false:=by simpa using hs4
 rw [hs4f]
 refine kW 199 (Y3 p n t f c p.rz[r]) (XEr4_h5 fo i kp) (jL (jB (oW (oW (oW (oW (oW (oW (oW (oW (oK (nbClqP_c HC hc hv hi h1) [iv p.top,Zb c.sh,iv c.st.length,iv i] rfl rfl (oS (.tup [iv (-1),iv (-1),iv (-1)]) (oW (oW (oW (oS (iv (-1)) (oS (iv (-1)) (oS (iv (-1)) (kN 199 (Y3 p n t f c p.rz[r]) [(4,bv fo),(5,bx 1),(6,bx 2),(7,bx 3),(10,bF),(11,bx 5),(12,iv i),(13,iv kp),(14,iv (-1)),(15,iv (-1)),(16,iv (-1))] (Zf ?_))))))))))))))))))))
 refine jM ?_
 refine Ym (True) (ofL [(1,.box 27 (cFm p)),(2,.box 29 (cSz n t f)),(3,.box 31 (Rd.cCg c)),(5,.box 57 (cRu p.rz[r]))]) (ofT 199 [(4,bv fo),(5,bx 1),(6,bx 2),(7,bx 3),(10,bF),(11,bx 5),(12,iv i),(13,iv kp),(14,iv (-1)),(15,iv (-1)),(16,iv (-1)),(85,bv (decide (p.rz[r].kind=2)||decide (p.rz[r].kind=5)))]) ?_ (fun _ => ?_)
 by_cases hs5:p.rz[r].kind=2
 refine Za (oW (oW (oe (dT hs5) (oS bT (qK (qK (qK (oS bT (kN 199 [(1,.box 27 (cFm p)),(2,.box 29 (cSz n t f)),(3,.box 31 (Rd.cCg c)),(5,.box 57 (cRu p.rz[r]))] [(4,bv fo),(5,bx 1),(6,bx 2),(7,bx 3),(10,bF),(11,bx 5),(12,iv i),(13,iv kp),(14,iv (-1)),(15,iv (-1)),(16,iv (-1)),(85,bT)] ?_)))))))))
 rw [show (decide (p.rz[r].kind=2)||decide (p.rz[r].kind=5))=true from (by simp only [Bool.or_eq_true,decide_eq_true_eq];omega)]
 exact tM T0
 refine Za (oW (oW (oe (dF hs5) (oS bF (oF (iv p.rz[r].kind) (gC (ZM rfl (dF (by omega))) I0 I0 (oS bF (kN 199 [(1,.box 27 (cFm p)),(2,.box 29 (cSz n t f)),(3,.box 31 (Rd.cCg c)),(5,.box 57 (cRu p.rz[r]))] [(4,bv fo),(5,bx 1),(6,bx 2),(7,bx 3),(10,bF),(11,bx 5),(12,iv i),(13,iv kp),(14,iv (-1)),(15,iv (-1)),(16,iv (-1)),(85,bF)] ?_))))))))
 rw [show (decide (p.rz[r].kind=2)||decide (p.rz[r].kind=5))=false from (by simp only [Bool.or_eq_false_iff,decide_eq_false_iff_not];omega)]
 exact tM T0
 refine Zf ?_
 by_cases hs6:(decide (p.rz[r].kind=2)||decide (p.rz[r].kind=5))=true
 have hty:=En.or_t hs6
 rw [hs6]
 refine kW 199 (Y3 p n t f c p.rz[r]) [(4,bv fo),(5,bx 1),(6,bx 2),(7,bx 3),(10,bF),(11,bx 5),(12,iv i),(13,iv kp),(14,iv (-1)),(15,iv (-1)),(16,iv (-1)),(85,bT)] (Yb rfl (jM ?_))
 refine Ym (True) (ofL [(1,.box 27 (cFm p)),(2,.box 29 (cSz n t f)),(3,.box 31 (Rd.cCg c)),(5,.box 57 (cRu p.rz[r]))]) (ofT 199 [(4,bv fo),(5,bx 1),(6,bx 2),(7,bx 3),(10,bF),(11,bx 5),(12,iv i),(13,iv kp),(14,iv (-1)),(15,iv (-1)),(16,iv (-1)),(107,bv (!En.ptB c p.rz[r] i kp))]) ?_ (fun _ => ?_)
 by_cases hs7:(Rd.inW 0 ((c.st.length:Int)-1) kp)=true
 have hwk:=En.inW_y hs7
 by_cases hs8:kp=(i:Int)
 refine tD (dW (dW (dW (dS (iv c.st.length) (dC (Kq (c:=(c.st.length:Int)-1) rfl (w64 (by omega) (by omega) (by omega))) I0 I0 (dk (Zr Kv hs7) [iv kp,iv 0,iv ((c.st.length:Int)-1)] rfl rfl (dW (dS bF (dW (dW (de (dT hs8) (dW (dS bT (dK (dK (dK (dK (dK (dK (dK (dK (dS bT (eD ?_)))))))))))))))))))))))
 refine kW 199 [(1,.box 27 (cFm p)),(2,.box 29 (cSz n t f)),(3,.box 31 (Rd.cCg c)),(5,.box 57 (cRu p.rz[r]))] [(4,bv fo),(5,bx 1),(6,bx 2),(7,bx 3),(10,bF),(11,bx 5),(12,iv i),(13,iv kp),(14,iv (-1)),(15,iv (-1)),(16,iv (-1)),(107,bT)] ?_
 rw [show (!En.ptB c p.rz[r] i kp)=true from by rw [En.pt_i (En.or_t hs6) hs8];rfl]
 exact tM T0
 by_cases hs9:c.st[kp.toNat]=p.rz[r].pf
 refine tD (dW (dW (dW (dS (iv c.st.length) (dC (Kq (c:=(c.st.length:Int)-1) rfl (w64 (by omega) (by omega) (by omega))) I0 I0 (dk (Zr Kv hs7) [iv kp,iv 0,iv ((c.st.length:Int)-1)] rfl rfl (dW (dS bF (dW (dW (de (dF hs8) (dW (dS bF (dW (dS (Zb c.st) (dS (iv kp) (dC (xS (kp.toNat*1) 100 101 U24) I0 I0 (dL (iv c.st[kp.toNat]) (Zw c.st (by omega)) (dW (dW (dn (dT' hs9) (dS bF (eD ?_)))))))))))))))))))))))
 refine kW 199 [(1,.box 27 (cFm p)),(2,.box 29 (cSz n t f)),(3,.box 31 (Rd.cCg c)),(5,.box 57 (cRu p.rz[r]))] [(4,bv fo),(5,bx 1),(6,bx 2),(7,bx 3),(10,bF),(11,bx 5),(12,iv i),(13,iv kp),(14,iv (-1)),(15,iv (-1)),(16,iv (-1)),(107,bF)] ?_
 rw [show (!En.ptB c p.rz[r] i kp)=false from by rw [En.pt_y (En.or_t hs6) (En.inW_y hs7) hs8 hs9];rfl]
 exact tM T0
 refine tD (dW (dW (dW (dS (iv c.st.length) (dC (Kq (c:=(c.st.length:Int)-1) rfl (w64 (by omega) (by omega) (by omega))) I0 I0 (dk (Zr Kv hs7) [iv kp,iv 0,iv ((c.st.length:Int)-1)] rfl rfl (dW (dS bF (dW (dW (de (dF hs8) (dW (dS bF (dW (dS (Zb c.st) (dS (iv kp) (dC (xS (kp.toNat*1) 100 101 U24) I0 I0 (dL (iv c.st[kp.toNat]) (Zw c.st (by omega)) (dW (dW (dn (dF' hs9) (dS bT (eD ?_)))))))))))))))))))))))
 refine kW 199 [(1,.box 27 (cFm p)),(2,.box 29 (cSz n t f)),(3,.box 31 (Rd.cCg c)),(5,.box 57 (cRu p.rz[r]))] [(4,bv fo),(5,bx 1),(6,bx 2),(7,bx 3),(10,bF),(11,bx 5),(12,iv i),(13,iv kp),(14,iv (-1)),(15,iv (-1)),(16,iv (-1)),(107,bT)] ?_
 rw [show (!En.ptB c p.rz[r] i kp)=true from by rw [En.pt_p (En.or_t hs6) (En.inW_y hs7) hs9];rfl]
 exact tM T0
 have hs7f:(Rd.inW 0 ((c.st.length:Int)-1) kp)=false:=by simpa using hs7
 refine tD (dW (dW (dW (dS (iv c.st.length) (dC (Kq (c:=(c.st.length:Int)-1) rfl (w64 (by omega) (by omega) (by omega))) I0 I0 (dk (Zr Kv hs7f) [iv kp,iv 0,iv ((c.st.length:Int)-1)] rfl rfl (dW (dS bT (dK (dK (dK (dW (dS bT (dK (dK (dK (dK (dK (dK (dK (dK (dS bT (eD ?_)))))))))))))))))))))))
 refine kW 199 [(1,.box 27 (cFm p)),(2,.box 29 (cSz n t f)),(3,.box 31 (Rd.cCg c)),(5,.box 57 (cRu p.rz[r]))] [(4,bv fo),(5,bx 1),(6,bx 2),(7,bx 3),(10,bF),(11,bx 5),(12,iv i),(13,iv kp),(14,iv (-1)),(15,iv (-1)),(16,iv (-1)),(107,bT)] ?_
 rw [show (!En.ptB c p.rz[r] i kp)=true from by rw [En.pt_n (En.or_t hs6) (En.inW_n hs7f)];rfl]
 exact tM T0
 refine Zf ?_
 by_cases hs10:(!En.ptB c p.rz[r] i kp)=true
 rw [hs10]
 refine kW 199 (Y3 p n t f c p.rz[r]) [(4,bv fo),(5,bx 1),(6,bx 2),(7,bx 3),(10,bF),(11,bx 5),(12,iv i),(13,iv kp),(14,iv (-1)),(15,iv (-1)),(16,iv (-1)),(107,bT)] (jK (oS bF (jE (Zc (Zc ?_)))))
 refine Zg Tryz.results26 (.tmp rfl) ?_
 exact cB ((En.en_pt (by simpa using hs10)).symm)
 have hs10f:(!En.ptB c p.rz[r] i kp)=false:=by simpa using hs10
 rw [hs10f]
 refine kW 199 (Y3 p n t f c p.rz[r]) [(4,bv fo),(5,bx 1),(6,bx 2),(7,bx 3),(10,bF),(11,bx 5),(12,iv i),(13,iv kp),(14,iv (-1)),(15,iv (-1)),(16,iv (-1)),(107,bF)] (jL (jM (Za (oF (iv p.rz[r].kind) (oC (ZM rfl (dT (by have:=En.or_t hs6;omega))) I0 I0 (jG (oS bT (jE (Zc (Zc ?_))))))))))
 refine Zg Tryz.results26 (.tmp rfl) ?_
 exact cB ((En.en_23 R hi (En.en_b hi hs4f).1 (by simpa using hs10f) (.inl (by have:=(En.or_t hs6);omega)) (En.en_b hi hs4f).2).symm)
 have hs6f:(decide (p.rz[r].kind=2)||decide (p.rz[r].kind=5))=false:=by simpa using hs6
 have hty:=En.or_f hs6f
 rw [hs6f]
 refine kW 199 (Y3 p n t f c p.rz[r]) [(4,bv fo),(5,bx 1),(6,bx 2),(7,bx 3),(10,bF),(11,bx 5),(12,iv i),(13,iv kp),(14,iv (-1)),(15,iv (-1)),(16,iv (-1)),(85,bF)] (jL (jM ?_))
 by_cases hs11:kp=(-1)
 refine Za (oW (on (dT' hs11) (jF (jM ?_))))
 by_cases hs12:p.rz[r].kind=1
 refine Za (oW (oW (oe (dT hs12) (jG (oW (oW (oW (oW (oW (oW (oK (rlocal_c HL HC hc hf hr R (En.en_b hi hs4f).2) [.agg (cFm p),.agg (cSz n t f),.agg (Rd.cCg c),.agg (cRu p.rz[r]),iv i,bv fo] rfl rfl (oS (bv (En.loB n t f c p.rz[r] (En.hdG p f c fo) i)) (jE (Zc ?_))))))))))))))
 refine Zg Tryz.results26 (.tmp rfl) ?_
 exact cB ((En.en_1 hi (En.en_b hi hs4f).1 (En.pt_1 (En.or_f hs6f) hs11) hs12).symm)
 refine Za (oW (oW (oe (dF hs12) (jF (jM (Za (oF (iv p.rz[r].kind) (oC (ZM rfl (dT (by have:=En.or_f hs6f;omega))) I0 I0 (jG (oS bT (jE (Zc ?_))))))))))))
 refine Zg Tryz.results26 (.tmp rfl) ?_
 exact cB ((En.en_23 R hi (En.en_b hi hs4f).1 (En.pt_1 (En.or_f hs6f) hs11) (.inr (by have:=(En.or_f hs6f);omega)) (En.en_b hi hs4f).2).symm)
 refine Za (oW (on (dF' hs11) (jG (oS bF (jE (Zc ?_))))))
 refine Zg Tryz.results26 (.tmp rfl) ?_
 exact cB ((En.en_pt (En.pt_o (En.or_f hs6f) hs11)).symm)
abbrev Zfc (x0:Fm) (x1:Cf) (x2:Ru):List (Nat × ABlk):=[(1,.box 27 (cFm x0)),(3,.box 31 (Rd.cCg x1)),(5,.box 57 (cRu x2))]
abbrev ZaV (x0:Cf) (x1:Ru):List (Nat × ABlk):=[(3,.box 31 (Rd.cCg x0)),(5,.box 57 (cRu x1))]
abbrev Zfb (x0:Fm) (x1:Cf) (x2:Nat):List (Nat × AV):=[(7,bx 3),(10,bF),(11,bx 5),(14,iv (Jd.lkF x0.top x1.sh x1.st.length x2)),(15,iv (Jd.lkS x0.top x1.sh x1.st.length x2)),(16,iv (En.lkP x0.top x1.sh x1.st.length x2)),(179,bF)]
abbrev Zfa (x0:Fm) (x1:Cf) (x2:Nat):List (Nat × AV):=[(7,bx 3),(10,bF),(11,bx 5),(14,iv (Jd.lkF x0.top x1.sh x1.st.length x2)),(15,iv (Jd.lkS x0.top x1.sh x1.st.length x2)),(16,iv (En.lkP x0.top x1.sh x1.st.length x2)),(179,bT)]
theorem ZdK (HL:FamLen p) (HC:Rd.CgOk c) (hc:En.CfV p n f c) (hv:valE p=0) (hf:0≤f∧f≤1048576) (hr:r<p.rz.length) (hi:i<c.st.length) (h1:¬ p.top=1):Ctr Tryz.prog J 26 [.agg (cFm p),.agg (cSz n t f),.agg (Rd.cCg c),.agg [iv r,iv i,iv kp],bv fo] (bv (En.enR p.top n t f c (En.hdG p f c fo) p.rz[r] i kp)):=by
 have R:=En.val_in hv (List.getElem_mem hr)
 have hz:=En.val_sizes hv
 have hlst:=HC.lst
 have hkd:=R.kd
 have hkt:=R.kt
 have htop:=Jd.top_in hv
 have hlk:=En.lk_ok hc h1 htop hi
 refine Zm Tryz.func26 rfl (pN (Zh (ZS p)) (pN (Zh (Ya n t f)) (pN (Zh (Rd.plain_cg c)) (pN (Zh (pN (.v _) (pN (.v _) (pN (.v _) pZ)))) (pN (.v _) pZ))))) (n:=199) rfl (by simp) (fun w0 => ?_)
 refine kW 199 [] (XEr4_h1 p n t f c r i kp fo) (jB (oX 1 (.agg (cFm p)) (oX 2 (.agg (cSz n t f)) (oX 3 (.agg (Rd.cCg c)) (oX 4 (.agg [iv r,iv i,iv kp]) (oS bF (jD (jB (oW (oW (oW (oF (iv p.rz.length) (oU ((p.rz.length:Int)-1) (oK (Zr Kv (Jd.in_w hr)) [iv r,iv 0,iv ((p.rz.length:Int)-1)] rfl rfl (oF bF (oW (oW (oW (oF (iv c.st.length) ?_)))))))))))))))))))
 refine oU ((c.st.length:Int)-1) (oK (Zr Kv (Jd.in_w hi)) [iv i,iv 0,iv ((c.st.length:Int)-1)] rfl rfl (oW (oS bF (jF (Zl ?_)))))
 refine tD (dW (dS (slA 18 cRu p.rz) (dW (dS (iv r) (dC (xS (r*18) 36 38 U25) I0 I0 (dA (Zj (z:=18) (.tmp 39) rfl U57 rfl (by kernel_rfl) (Z9 lenRu p.rz r (by omega)) rfl) I0 (dW (dW (dW (dW (dz 5 Z57 (dY (dS (iv i) (dS (iv kp) (eD ?_)))))))))))))))
 refine kW 199 (Y3 p n t f c p.rz[r]) (XEr4_h3 fo i kp) (jC (Zl ?_))
 refine Ym (True) (ofL [(1,.box 27 (cFm p)),(2,.box 29 (cSz n t f)),(3,.box 31 (Rd.cCg c)),(5,.box 57 (cRu p.rz[r]))]) (ofT 199 [(4,bv fo),(5,bx 1),(6,bx 2),(7,bx 3),(10,bF),(11,bx 5),(12,iv i),(13,iv kp),(64,bv (!decide (c.st[i]=p.rz[r].frm)||En.rdN c p.rz[r]))]) ?_ (fun _ => ?_)
 by_cases hs1:c.st[i]=p.rz[r].frm
 by_cases hs2:p.rz[r].rd=(-1)
 refine tD (dW (dS (Zb c.st) (dS (iv i) (dC (xS (i*1) 46 47 U24) I0 I0 (dL (iv c.st[i]) (Zw c.st (by omega)) (dW (dW (dn (dT' hs1) (dS bF (dW (dW (dn (dT' hs2) (dS bF (dK (dK (dK (dK (dK (dW (dS bF (eD ?_)))))))))))))))))))))
 refine kW 199 [(1,.box 27 (cFm p)),(2,.box 29 (cSz n t f)),(3,.box 31 (Rd.cCg c)),(5,.box 57 (cRu p.rz[r]))] [(4,bv fo),(5,bx 1),(6,bx 2),(7,bx 3),(10,bF),(11,bx 5),(12,iv i),(13,iv kp),(64,bF)] ?_
 rw [show (!decide (c.st[i]=p.rz[r].frm)||En.rdN c p.rz[r])=false from by rw [decide_eq_true hs1,En.rdN_f (.inl hs2)];rfl]
 exact tM T0
 by_cases hs3:c.val=p.rz[r].rd
 refine tD (dW (dS (Zb c.st) (dS (iv i) (dC (xS (i*1) 46 47 U24) I0 I0 (dL (iv c.st[i]) (Zw c.st (by omega)) (dW (dW (dn (dT' hs1) (dS bF (dW (dW (dn (dF' hs2) (dS bT (dW (dW (dW (dW (dn (dT' hs3) (dW (dS bF (eD ?_)))))))))))))))))))))
 refine kW 199 [(1,.box 27 (cFm p)),(2,.box 29 (cSz n t f)),(3,.box 31 (Rd.cCg c)),(5,.box 57 (cRu p.rz[r]))] [(4,bv fo),(5,bx 1),(6,bx 2),(7,bx 3),(10,bF),(11,bx 5),(12,iv i),(13,iv kp),(64,bF)] ?_
 rw [show (!decide (c.st[i]=p.rz[r].frm)||En.rdN c p.rz[r])=false from by rw [decide_eq_true hs1,En.rdN_f (.inr hs3)];rfl]
 exact tM T0
 refine tD (dW (dS (Zb c.st) (dS (iv i) (dC (xS (i*1) 46 47 U24) I0 I0 (dL (iv c.st[i]) (Zw c.st (by omega)) (dW (dW (dn (dT' hs1) (dS bF (dW (dW (dn (dF' hs2) (dS bT (dW (dW (dW (dW (dn (dF' hs3) (dW (dS bT (eD ?_)))))))))))))))))))))
 refine kW 199 [(1,.box 27 (cFm p)),(2,.box 29 (cSz n t f)),(3,.box 31 (Rd.cCg c)),(5,.box 57 (cRu p.rz[r]))] [(4,bv fo),(5,bx 1),(6,bx 2),(7,bx 3),(10,bF),(11,bx 5),(12,iv i),(13,iv kp),(64,bT)] ?_
 rw [show (!decide (c.st[i]=p.rz[r].frm)||En.rdN c p.rz[r])=true from by rw [decide_eq_true hs1,En.rdN_t R hs2 hs3];rfl]
 exact tM T0
 refine tD (dW (dS (Zb c.st) (dS (iv i) (dC (xS (i*1) 46 47 U24) I0 I0 (dL (iv c.st[i]) (Zw c.st (by omega)) (dW (dW (dn (dF' hs1) (dS bT (dK (dK (dK (dK (dK (dK (dK (dK (dK (dK (dS bT (eD ?_)))))))))))))))))))))
 refine kW 199 [(1,.box 27 (cFm p)),(2,.box 29 (cSz n t f)),(3,.box 31 (Rd.cCg c)),(5,.box 57 (cRu p.rz[r]))] [(4,bv fo),(5,bx 1),(6,bx 2),(7,bx 3),(10,bF),(11,bx 5),(12,iv i),(13,iv kp),(64,bT)] ?_
 rw [show (!decide (c.st[i]=p.rz[r].frm)||En.rdN c p.rz[r])=true from by rw [decide_eq_false hs1];rfl]
 exact tM T0
 refine Zf ?_
 by_cases hs4:(!decide (c.st[i]=p.rz[r].frm)||En.rdN c p.rz[r])=true
 rw [hs4]
 refine kW 199 (Y3 p n t f c p.rz[r]) (XEr4_h4 fo i kp) (jK (oS bF (jE (Zc ?_))))
 refine Zg Tryz.results26 (.tmp rfl) ?_
 exact cB ((En.en_a R hi hs4).symm)
 have hs4f:(!decide (c.st[i]=p.rz[r].frm)||En.rdN c p.rz[r])=false:=by simpa using hs4
 rw [hs4f]
 refine kW 199 (Y3 p n t f c p.rz[r]) (XEr4_h5 fo i kp) (jL (jB (oW (oW (oW (oW (oW (oW (oW (oW (oK (nbNo_c HC hc hv hi h1) [iv p.top,Zb c.sh,iv c.st.length,iv i] rfl rfl (oS (.tup [iv (Jd.lkF p.top c.sh c.st.length i),iv (Jd.lkS p.top c.sh c.st.length i),iv (En.lkP p.top c.sh c.st.length i)]) (oW (oW (oW (oS (iv (Jd.lkF p.top c.sh c.st.length i)) (oS (iv (Jd.lkS p.top c.sh c.st.length i)) (oS (iv (En.lkP p.top c.sh c.st.length i)) (kN 199 (Y3 p n t f c p.rz[r]) [(4,bv fo),(5,bx 1),(6,bx 2),(7,bx 3),(10,bF),(11,bx 5),(12,iv i),(13,iv kp),(14,iv (Jd.lkF p.top c.sh c.st.length i)),(15,iv (Jd.lkS p.top c.sh c.st.length i)),(16,iv (En.lkP p.top c.sh c.st.length i))] (Zf ?_))))))))))))))))))))
 refine jM ?_
 refine Ym (True) (ofL [(1,.box 27 (cFm p)),(2,.box 29 (cSz n t f)),(3,.box 31 (Rd.cCg c)),(5,.box 57 (cRu p.rz[r]))]) (ofT 199 [(4,bv fo),(5,bx 1),(6,bx 2),(7,bx 3),(10,bF),(11,bx 5),(12,iv i),(13,iv kp),(14,iv (Jd.lkF p.top c.sh c.st.length i)),(15,iv (Jd.lkS p.top c.sh c.st.length i)),(16,iv (En.lkP p.top c.sh c.st.length i)),(85,bv (decide (p.rz[r].kind=2)||decide (p.rz[r].kind=5)))]) ?_ (fun _ => ?_)
 by_cases hs5:p.rz[r].kind=5
 refine Za (oF (iv p.rz[r].kind) (oC (ZM rfl (dF (by omega))) I0 I0 (oS bF (oW (oW (oe (dT hs5) (oS bT (kN 199 [(1,.box 27 (cFm p)),(2,.box 29 (cSz n t f)),(3,.box 31 (Rd.cCg c)),(5,.box 57 (cRu p.rz[r]))] [(4,bv fo),(5,bx 1),(6,bx 2),(7,bx 3),(10,bF),(11,bx 5),(12,iv i),(13,iv kp),(14,iv (Jd.lkF p.top c.sh c.st.length i)),(15,iv (Jd.lkS p.top c.sh c.st.length i)),(16,iv (En.lkP p.top c.sh c.st.length i)),(85,bT)] ?_))))))))
 rw [show (decide (p.rz[r].kind=2)||decide (p.rz[r].kind=5))=true from (by simp only [Bool.or_eq_true,decide_eq_true_eq];omega)]
 exact tM T0
 refine Za (oF (iv p.rz[r].kind) (oC (ZM rfl (dF (by omega))) I0 I0 (oS bF (oW (oW (oe (dF hs5) (oS bF (kN 199 [(1,.box 27 (cFm p)),(2,.box 29 (cSz n t f)),(3,.box 31 (Rd.cCg c)),(5,.box 57 (cRu p.rz[r]))] [(4,bv fo),(5,bx 1),(6,bx 2),(7,bx 3),(10,bF),(11,bx 5),(12,iv i),(13,iv kp),(14,iv (Jd.lkF p.top c.sh c.st.length i)),(15,iv (Jd.lkS p.top c.sh c.st.length i)),(16,iv (En.lkP p.top c.sh c.st.length i)),(85,bF)] ?_))))))))
 rw [show (decide (p.rz[r].kind=2)||decide (p.rz[r].kind=5))=false from (by simp only [Bool.or_eq_false_iff,decide_eq_false_iff_not];omega)]
 exact tM T0
 refine Zf ?_
 by_cases hs6:(decide (p.rz[r].kind=2)||decide (p.rz[r].kind=5))=true
 have hty:=En.or_t hs6
 rw [hs6]
 refine kW 199 (Y3 p n t f c p.rz[r]) [(4,bv fo),(5,bx 1),(6,bx 2),(7,bx 3),(10,bF),(11,bx 5),(12,iv i),(13,iv kp),(14,iv (Jd.lkF p.top c.sh c.st.length i)),(15,iv (Jd.lkS p.top c.sh c.st.length i)),(16,iv (En.lkP p.top c.sh c.st.length i)),(85,bT)] (Yb rfl (jM ?_))
 refine Ym (True) (ofL [(1,.box 27 (cFm p)),(2,.box 29 (cSz n t f)),(3,.box 31 (Rd.cCg c)),(5,.box 57 (cRu p.rz[r]))]) (ofT 199 [(4,bv fo),(5,bx 1),(6,bx 2),(7,bx 3),(10,bF),(11,bx 5),(12,iv i),(13,iv kp),(14,iv (Jd.lkF p.top c.sh c.st.length i)),(15,iv (Jd.lkS p.top c.sh c.st.length i)),(16,iv (En.lkP p.top c.sh c.st.length i)),(107,bv (!En.ptB c p.rz[r] i kp))]) ?_ (fun _ => ?_)
 by_cases hs7:(Rd.inW 0 ((c.st.length:Int)-1) kp)=true
 have hwk:=En.inW_y hs7
 by_cases hs8:kp=(i:Int)
 refine tD (dW (dW (dW (dS (iv c.st.length) (dC (Kq (c:=(c.st.length:Int)-1) rfl (w64 (by omega) (by omega) (by omega))) I0 I0 (dk (Zr Kv hs7) [iv kp,iv 0,iv ((c.st.length:Int)-1)] rfl rfl (dW (dS bF (dW (dW (de (dT hs8) (dW (dS bT (dK (dK (dK (dK (dK (dK (dK (dK (dS bT (eD ?_)))))))))))))))))))))))
 refine kW 199 [(1,.box 27 (cFm p)),(2,.box 29 (cSz n t f)),(3,.box 31 (Rd.cCg c)),(5,.box 57 (cRu p.rz[r]))] [(4,bv fo),(5,bx 1),(6,bx 2),(7,bx 3),(10,bF),(11,bx 5),(12,iv i),(13,iv kp),(14,iv (Jd.lkF p.top c.sh c.st.length i)),(15,iv (Jd.lkS p.top c.sh c.st.length i)),(16,iv (En.lkP p.top c.sh c.st.length i)),(107,bT)] ?_
 rw [show (!En.ptB c p.rz[r] i kp)=true from by rw [En.pt_i (En.or_t hs6) hs8];rfl]
 exact tM T0
 by_cases hs9:c.st[kp.toNat]=p.rz[r].pf
 refine tD (dW (dW (dW (dS (iv c.st.length) (dC (Kq (c:=(c.st.length:Int)-1) rfl (w64 (by omega) (by omega) (by omega))) I0 I0 (dk (Zr Kv hs7) [iv kp,iv 0,iv ((c.st.length:Int)-1)] rfl rfl (dW (dS bF (dW (dW (de (dF hs8) (dW (dS bF (dW (dS (Zb c.st) (dS (iv kp) (dC (xS (kp.toNat*1) 100 101 U24) I0 I0 (dL (iv c.st[kp.toNat]) (Zw c.st (by omega)) (dW (dW (dn (dT' hs9) (dS bF (eD ?_)))))))))))))))))))))))
 refine kW 199 [(1,.box 27 (cFm p)),(2,.box 29 (cSz n t f)),(3,.box 31 (Rd.cCg c)),(5,.box 57 (cRu p.rz[r]))] [(4,bv fo),(5,bx 1),(6,bx 2),(7,bx 3),(10,bF),(11,bx 5),(12,iv i),(13,iv kp),(14,iv (Jd.lkF p.top c.sh c.st.length i)),(15,iv (Jd.lkS p.top c.sh c.st.length i)),(16,iv (En.lkP p.top c.sh c.st.length i)),(107,bF)] ?_
 rw [show (!En.ptB c p.rz[r] i kp)=false from by rw [En.pt_y (En.or_t hs6) (En.inW_y hs7) hs8 hs9];rfl]
 exact tM T0
 refine tD (dW (dW (dW (dS (iv c.st.length) (dC (Kq (c:=(c.st.length:Int)-1) rfl (w64 (by omega) (by omega) (by omega))) I0 I0 (dk (Zr Kv hs7) [iv kp,iv 0,iv ((c.st.length:Int)-1)] rfl rfl (dW (dS bF (dW (dW (de (dF hs8) (dW (dS bF (dW (dS (Zb c.st) (dS (iv kp) (dC (xS (kp.toNat*1) 100 101 U24) I0 I0 (dL (iv c.st[kp.toNat]) (Zw c.st (by omega)) (dW (dW (dn (dF' hs9) (dS bT (eD ?_)))))))))))))))))))))))
 refine kW 199 [(1,.box 27 (cFm p)),(2,.box 29 (cSz n t f)),(3,.box 31 (Rd.cCg c)),(5,.box 57 (cRu p.rz[r]))] [(4,bv fo),(5,bx 1),(6,bx 2),(7,bx 3),(10,bF),(11,bx 5),(12,iv i),(13,iv kp),(14,iv (Jd.lkF p.top c.sh c.st.length i)),(15,iv (Jd.lkS p.top c.sh c.st.length i)),(16,iv (En.lkP p.top c.sh c.st.length i)),(107,bT)] ?_
 rw [show (!En.ptB c p.rz[r] i kp)=true from by rw [En.pt_p (En.or_t hs6) (En.inW_y hs7) hs9];rfl]
 exact tM T0
 have hs7f:(Rd.inW 0 ((c.st.length:Int)-1) kp)=false:=by simpa using hs7
 refine tD (dW (dW (dW (dS (iv c.st.length) (dC (Kq (c:=(c.st.length:Int)-1) rfl (w64 (by omega) (by omega) (by omega))) I0 I0 (dk (Zr Kv hs7f) [iv kp,iv 0,iv ((c.st.length:Int)-1)] rfl rfl (dW (dS bT (dK (dK (dK (dW (dS bT (dK (dK (dK (dK (dK (dK (dK (dK (dS bT (eD ?_)))))))))))))))))))))))
 refine kW 199 [(1,.box 27 (cFm p)),(2,.box 29 (cSz n t f)),(3,.box 31 (Rd.cCg c)),(5,.box 57 (cRu p.rz[r]))] [(4,bv fo),(5,bx 1),(6,bx 2),(7,bx 3),(10,bF),(11,bx 5),(12,iv i),(13,iv kp),(14,iv (Jd.lkF p.top c.sh c.st.length i)),(15,iv (Jd.lkS p.top c.sh c.st.length i)),(16,iv (En.lkP p.top c.sh c.st.length i)),(107,bT)] ?_
 rw [show (!En.ptB c p.rz[r] i kp)=true from by rw [En.pt_n (En.or_t hs6) (En.inW_n hs7f)];rfl]
 exact tM T0
 refine Zf ?_
 by_cases hs10:(!En.ptB c p.rz[r] i kp)=true
 rw [hs10]
 refine kW 199 (Y3 p n t f c p.rz[r]) [(4,bv fo),(5,bx 1),(6,bx 2),(7,bx 3),(10,bF),(11,bx 5),(12,iv i),(13,iv kp),(14,iv (Jd.lkF p.top c.sh c.st.length i)),(15,iv (Jd.lkS p.top c.sh c.st.length i)),(16,iv (En.lkP p.top c.sh c.st.length i)),(107,bT)] (jK (oS bF (jE (Zc (Zc ?_)))))
 refine Zg Tryz.results26 (.tmp rfl) ?_
 exact cB ((En.en_pt (by simpa using hs10)).symm)
 have hs10f:(!En.ptB c p.rz[r] i kp)=false:=by simpa using hs10
 rw [hs10f]
 refine kW 199 (Y3 p n t f c p.rz[r]) [(4,bv fo),(5,bx 1),(6,bx 2),(7,bx 3),(10,bF),(11,bx 5),(12,iv i),(13,iv kp),(14,iv (Jd.lkF p.top c.sh c.st.length i)),(15,iv (Jd.lkS p.top c.sh c.st.length i)),(16,iv (En.lkP p.top c.sh c.st.length i)),(107,bF)] (jL (jM (Za (oF (iv p.rz[r].kind) (oC (ZM rfl (dF (by omega))) I0 I0 (jF (jM ?_)))))))
 by_cases hs11:p.rz[r].dir=1
 refine Za (oW (oW (oe (dT hs11) (jG (oS (iv kp) (oS (iv (Jd.lkS p.top c.sh c.st.length i)) (oC (ZM rfl rfl) I0 I0 (oS (bv (decide (kp=(Jd.lkS p.top c.sh c.st.length i)))) (jE (Zc (Zc ?_)))))))))))
 refine Zg Tryz.results26 (.tmp rfl) ?_
 exact cB ((by rw [En.en_5 hi (En.en_b hi hs4f).1 (by simpa using hs10f) (by have:=(En.or_t hs6);omega)];unfold En.psB;rw [if_pos hs11]))
 refine Za (oW (oW (oe (dF hs11) (jF (jM ?_)))))
 by_cases hs12:p.rz[r].dir=2
 refine Za (oW (oW (oe (dT hs12) (jG (oS (iv kp) (oS (iv (Jd.lkF p.top c.sh c.st.length i)) (oC (ZM rfl rfl) I0 I0 (oS (bv (decide (kp=(Jd.lkF p.top c.sh c.st.length i)))) (jE (Zc (Zc ?_)))))))))))
 refine Zg Tryz.results26 (.tmp rfl) ?_
 exact cB ((by rw [En.en_5 hi (En.en_b hi hs4f).1 (by simpa using hs10f) (by have:=(En.or_t hs6);omega)];unfold En.psB;rw [if_neg hs11,if_pos hs12]))
 refine Za (oW (oW (oe (dF hs12) (jF (jM ?_)))))
 by_cases hs13:p.rz[r].dir=3
 refine Za (oW (oW (oe (dT hs13) (jH (Zl ?_)))))
 by_cases hs14:kp=(Jd.lkF p.top c.sh c.st.length i)
 refine Za (oW (oW (oe (dT hs14) (oS bT (qK (qK (qK (oF bT (jE (Zc (Zc ?_)))))))))))
 refine Zg Tryz.results26 (.tmp rfl) ?_
 exact cB ((by rw [En.en_5 hi (En.en_b hi hs4f).1 (by simpa using hs10f) (by have:=(En.or_t hs6);omega)];unfold En.psB;rw [if_neg hs11,if_neg hs12,if_pos hs13];simp only [dT hs14,decide_true,decide_false,Bool.and_true,Bool.true_and,Bool.false_and,Bool.and_false,Bool.true_or,Bool.false_or,Bool.or_true,Bool.or_false,Bool.not_true,Bool.not_false]))
 refine Za (oW (oW (oe (dF hs14) (oS bF (oS (iv kp) (oS (iv (Jd.lkS p.top c.sh c.st.length i)) (gC (ZM rfl rfl) I0 I0 (oF (bv (decide (kp=(Jd.lkS p.top c.sh c.st.length i)))) (jE (Zc (Zc ?_)))))))))))
 refine Zg Tryz.results26 (.tmp rfl) ?_
 exact cB ((by rw [En.en_5 hi (En.en_b hi hs4f).1 (by simpa using hs10f) (by have:=(En.or_t hs6);omega)];unfold En.psB;rw [if_neg hs11,if_neg hs12,if_pos hs13];simp only [dF hs14,decide_true,decide_false,Bool.and_true,Bool.true_and,Bool.false_and,Bool.and_false,Bool.true_or,Bool.false_or,Bool.or_true,Bool.or_false,Bool.not_true,Bool.not_false]))
 refine Za (oW (oW (oe (dF hs13) (jF (jB (oS (iv kp) (oS (iv (En.lkP p.top c.sh c.st.length i)) (oC (ZM rfl rfl) I0 I0 (oS (bv (decide (kp=(En.lkP p.top c.sh c.st.length i)))) (jE (Zc ?_)))))))))))
 refine Zg Tryz.results26 (.tmp rfl) ?_
 exact cB ((by rw [En.en_5 hi (En.en_b hi hs4f).1 (by simpa using hs10f) (by have:=(En.or_t hs6);omega)];unfold En.psB;rw [if_neg hs11,if_neg hs12,if_neg hs13]))
 have hs6f:(decide (p.rz[r].kind=2)||decide (p.rz[r].kind=5))=false:=by simpa using hs6
 have hty:=En.or_f hs6f
 rw [hs6f]
 refine kW 199 (Y3 p n t f c p.rz[r]) [(4,bv fo),(5,bx 1),(6,bx 2),(7,bx 3),(10,bF),(11,bx 5),(12,iv i),(13,iv kp),(14,iv (Jd.lkF p.top c.sh c.st.length i)),(15,iv (Jd.lkS p.top c.sh c.st.length i)),(16,iv (En.lkP p.top c.sh c.st.length i)),(85,bF)] (jL (jM ?_))
 by_cases hs15:kp=(-1)
 refine Za (oW (on (dT' hs15) (jF (jM (Za (oF (iv p.rz[r].kind) (oC (ZM rfl (dF (by omega))) I0 I0 (jF (jM (Za (oF (iv p.rz[r].kind) (oC (ZM rfl (dF (by omega))) I0 I0 (kN 199 (Zfc p c p.rz[r]) [(5,bx 1),(7,bx 3),(10,bF),(11,bx 5),(12,iv i),(14,iv (Jd.lkF p.top c.sh c.st.length i)),(15,iv (Jd.lkS p.top c.sh c.st.length i)),(16,iv (En.lkP p.top c.sh c.st.length i)),(151,bF)] ?_)))))))))))))
 refine jJ (jM ?_)
 refine Ym (True) (ofL [(1,.box 27 (cFm p)),(3,.box 31 (Rd.cCg c)),(5,.box 57 (cRu p.rz[r]))]) (ofT 199 [(5,bx 1),(7,bx 3),(10,bF),(11,bx 5),(14,iv (Jd.lkF p.top c.sh c.st.length i)),(15,iv (Jd.lkS p.top c.sh c.st.length i)),(16,iv (En.lkP p.top c.sh c.st.length i)),(158,bv (decide (p.rz[r].pos=1) && !decide ((i:Int)=0)))]) ?_ (fun _ => ?_)
 by_cases hs16:p.rz[r].pos=1
 by_cases hs17:(i:Int)=0
 refine Za (oW (oW (oe (dT hs16) (oS bT (oW (on (dT' hs17) (oS bF (kN 199 [(1,.box 27 (cFm p)),(3,.box 31 (Rd.cCg c)),(5,.box 57 (cRu p.rz[r]))] [(5,bx 1),(7,bx 3),(10,bF),(11,bx 5),(14,iv (Jd.lkF p.top c.sh c.st.length i)),(15,iv (Jd.lkS p.top c.sh c.st.length i)),(16,iv (En.lkP p.top c.sh c.st.length i)),(158,bF)] ?_))))))))
 rw [show (decide (p.rz[r].pos=1) && !decide ((i:Int)=0))=false by simp only [hs4f,hs6f,dT hs15,dT hs16,dT hs17,decide_true,decide_false,Bool.and_true,Bool.true_and,Bool.false_and,Bool.and_false,Bool.true_or,Bool.false_or,Bool.or_true,Bool.or_false,Bool.not_true,Bool.not_false]]
 exact tM T0
 refine Za (oW (oW (oe (dT hs16) (oS bT (oW (on (dF' hs17) (oS bT (kN 199 [(1,.box 27 (cFm p)),(3,.box 31 (Rd.cCg c)),(5,.box 57 (cRu p.rz[r]))] [(5,bx 1),(7,bx 3),(10,bF),(11,bx 5),(14,iv (Jd.lkF p.top c.sh c.st.length i)),(15,iv (Jd.lkS p.top c.sh c.st.length i)),(16,iv (En.lkP p.top c.sh c.st.length i)),(158,bT)] ?_))))))))
 rw [show (decide (p.rz[r].pos=1) && !decide ((i:Int)=0))=true by simp only [hs4f,hs6f,dT hs15,dT hs16,dF hs17,decide_true,decide_false,Bool.and_true,Bool.true_and,Bool.false_and,Bool.and_false,Bool.true_or,Bool.false_or,Bool.or_true,Bool.or_false,Bool.not_true,Bool.not_false]]
 exact tM T0
 refine Za (oW (oW (oe (dF hs16) (oS bF (qK (qK (oS bF (kN 199 [(1,.box 27 (cFm p)),(3,.box 31 (Rd.cCg c)),(5,.box 57 (cRu p.rz[r]))] [(5,bx 1),(7,bx 3),(10,bF),(11,bx 5),(14,iv (Jd.lkF p.top c.sh c.st.length i)),(15,iv (Jd.lkS p.top c.sh c.st.length i)),(16,iv (En.lkP p.top c.sh c.st.length i)),(158,bF)] ?_))))))))
 rw [show (decide (p.rz[r].pos=1) && !decide ((i:Int)=0))=false by simp only [hs4f,hs6f,dT hs15,dF hs16,decide_true,decide_false,Bool.and_true,Bool.true_and,Bool.false_and,Bool.and_false,Bool.true_or,Bool.false_or,Bool.or_true,Bool.or_false,Bool.not_true,Bool.not_false]]
 exact tM T0
 refine Zf ?_
 by_cases hs18:(decide (p.rz[r].pos=1) && !decide ((i:Int)=0))=true
 rw [hs18]
 refine kW 199 (Zfc p c p.rz[r]) [(5,bx 1),(7,bx 3),(10,bF),(11,bx 5),(14,iv (Jd.lkF p.top c.sh c.st.length i)),(15,iv (Jd.lkS p.top c.sh c.st.length i)),(16,iv (En.lkP p.top c.sh c.st.length i)),(158,bT)] (jK (oS bF (jE (Zc ?_))))
 refine Zg Tryz.results26 (.tmp rfl) ?_
 exact cB ((by rw [En.en_4 hi (En.en_b hi hs4f).1 (En.pt_1 (En.or_f hs6f) hs15) (by have:=(En.or_f hs6f);have:=R.kd;omega)];unfold En.nbB;simp only [hs18,decide_true,decide_false,Bool.and_true,Bool.true_and,Bool.false_and,Bool.and_false,Bool.true_or,Bool.false_or,Bool.or_true,Bool.or_false,Bool.not_true,Bool.not_false]))
 have hs18f:(decide (p.rz[r].pos=1) && !decide ((i:Int)=0))=false:=by simpa using hs18
 rw [hs18f]
 refine kW 199 (Zfc p c p.rz[r]) [(5,bx 1),(7,bx 3),(10,bF),(11,bx 5),(14,iv (Jd.lkF p.top c.sh c.st.length i)),(15,iv (Jd.lkS p.top c.sh c.st.length i)),(16,iv (En.lkP p.top c.sh c.st.length i)),(158,bF)] (jL (jM ?_))
 refine Ym (True) (ofL [(3,.box 31 (Rd.cCg c)),(5,.box 57 (cRu p.rz[r]))]) (ofT 199 [(7,bx 3),(10,bF),(11,bx 5),(14,iv (Jd.lkF p.top c.sh c.st.length i)),(15,iv (Jd.lkS p.top c.sh c.st.length i)),(16,iv (En.lkP p.top c.sh c.st.length i)),(179,bv (decide (p.rz[r].pos=2)&&decide (0≤(Jd.lkS p.top c.sh c.st.length i))))]) ?_ (fun _ => ?_)
 by_cases hs19:p.rz[r].pos=2
 by_cases hs20:p.top=2
 by_cases hs21:(Jd.lkS p.top c.sh c.st.length i)=(-1)
 refine Za (oW (oW (oe (dT hs19) (oS bT (oW (oW (oe (dT hs20) (oS bT (oW (on (dT' hs21) (oF bF (oF (iv p.top) (gC (ZM rfl (dF (by omega))) I0 I0 (oS bF (qK (qK (oW (oW (oS bF (kN 199 (ZaV c p.rz[r]) (Zfb p c i) ?_))))))))))))))))))))
 have hS:decide (0≤(Jd.lkS p.top c.sh c.st.length i))=false:=by have:=En.lineS (sh:=c.sh) hi;rw [hs20] at *;exact decide_eq_false (by omega)
 rw [show (decide (p.rz[r].pos=2)&&decide (0≤(Jd.lkS p.top c.sh c.st.length i)))=false from by rw [hS,decide_eq_true hs19];rfl]
 exact tM T0
 refine Za (oW (oW (oe (dT hs19) (oS bT (oW (oW (oe (dT hs20) (oS bT (oW (on (dF' hs21) (oF bT (qK (qK (qK (qK (qK (qK (qK (oW (oS bT (kN 199 (ZaV c p.rz[r]) (Zfa p c i) ?_)))))))))))))))))))))
 have hS:decide (0≤(Jd.lkS p.top c.sh c.st.length i))=true:=by have:=En.lineS (sh:=c.sh) hi;rw [hs20] at *;exact decide_eq_true (by omega)
 rw [show (decide (p.rz[r].pos=2)&&decide (0≤(Jd.lkS p.top c.sh c.st.length i)))=true from by rw [hS,decide_eq_true hs19];rfl]
 exact tM T0
 by_cases hs22:(Jd.lkF p.top c.sh c.st.length i)=(-1)
 refine Za (oW (oW (oe (dT hs19) (oS bT (oW (oW (oe (dF hs20) (oS bF (qK (qK (oF bF (oF (iv p.top) (gC (ZM rfl (dT (by have h4:p.rz[r].kind=4:=(by omega);have:=R.po h4 (by omega);omega))) I0 I0 (oS bT (oW (on (dT' hs22) (oW (oW (oS bF (kN 199 (ZaV c p.rz[r]) (Zfb p c i) ?_))))))))))))))))))))
 have hS:decide (0≤(Jd.lkS p.top c.sh c.st.length i))=false:=by have hb:=En.bothC hc hi (by have h4:p.rz[r].kind=4:=(by omega);have:=R.po h4 (by omega);omega);exact decide_eq_false (by omega)
 rw [show (decide (p.rz[r].pos=2)&&decide (0≤(Jd.lkS p.top c.sh c.st.length i)))=false from by rw [hS,decide_eq_true hs19];rfl]
 exact tM T0
 refine Za (oW (oW (oe (dT hs19) (oS bT (oW (oW (oe (dF hs20) (oS bF (qK (qK (oF bF (oF (iv p.top) (gC (ZM rfl (dT (by have h4:p.rz[r].kind=4:=(by omega);have:=R.po h4 (by omega);omega))) I0 I0 (oS bT (oW (on (dF' hs22) (oW (oW (oS bT (kN 199 (ZaV c p.rz[r]) (Zfa p c i) ?_))))))))))))))))))))
 have hS:decide (0≤(Jd.lkS p.top c.sh c.st.length i))=true:=by have hb:=En.bothC hc hi (by have h4:p.rz[r].kind=4:=(by omega);have:=R.po h4 (by omega);omega);exact decide_eq_true (by omega)
 rw [show (decide (p.rz[r].pos=2)&&decide (0≤(Jd.lkS p.top c.sh c.st.length i)))=true from by rw [hS,decide_eq_true hs19];rfl]
 exact tM T0
 refine Za (oW (oW (oe (dF hs19) (oS bF (qK (qK (qK (qK (qK (qK (qK (qK (qK (qK (qK (qK (qK (qK (qK (qK (oS bF (kN 199 [(3,.box 31 (Rd.cCg c)),(5,.box 57 (cRu p.rz[r]))] [(7,bx 3),(10,bF),(11,bx 5),(14,iv (Jd.lkF p.top c.sh c.st.length i)),(15,iv (Jd.lkS p.top c.sh c.st.length i)),(16,iv (En.lkP p.top c.sh c.st.length i)),(179,bF)] ?_))))))))))))))))))))))
 rw [show (decide (p.rz[r].pos=2)&&decide (0≤(Jd.lkS p.top c.sh c.st.length i)))=false from by rw [decide_eq_false hs19];rfl]
 exact tM T0
 refine Zf ?_
 by_cases hs23:(decide (p.rz[r].pos=2)&&decide (0≤(Jd.lkS p.top c.sh c.st.length i)))=true
 rw [hs23]
 refine kW 199 (ZaV c p.rz[r]) (Zfa p c i) (jK (oS bF (jE (Zc ?_))))
 refine Zg Tryz.results26 (.tmp rfl) ?_
 exact cB ((by rw [En.en_4 hi (En.en_b hi hs4f).1 (En.pt_1 (En.or_f hs6f) hs15) (by have:=(En.or_f hs6f);have:=R.kd;omega)];unfold En.nbB;simp only [hs18f,hs23,decide_true,decide_false,Bool.and_true,Bool.true_and,Bool.false_and,Bool.and_false,Bool.true_or,Bool.false_or,Bool.or_true,Bool.or_false,Bool.not_true,Bool.not_false]))
 have hs23f:(decide (p.rz[r].pos=2)&&decide (0≤(Jd.lkS p.top c.sh c.st.length i)))=false:=by simpa using hs23
 rw [hs23f]
 refine kW 199 (ZaV c p.rz[r]) (Zfb p c i) (jL (Zl ?_))
 by_cases hs24:(En.fitB c (Jd.lkF p.top c.sh c.st.length i) p.rz[r].left)=true
 by_cases hs25:(En.fitB c (Jd.lkS p.top c.sh c.st.length i) p.rz[r].right)=true
 refine Za (oW (oW (oW (oW (oK (Zr (Wm HC (Nat.le_trans (HL.rz _ (List.getElem_mem hr)).left (by decide)) hlk.1) hs24) [.agg (Rd.cCg c),Zb p.rz[r].left,iv (Jd.lkF p.top c.sh c.st.length i)] rfl rfl (oS bT (oW (oW (oW (oW (oK (Zr (Wm HC (Nat.le_trans (HL.rz _ (List.getElem_mem hr)).right (by decide)) hlk.2.1) hs25) [.agg (Rd.cCg c),Zb p.rz[r].right,iv (Jd.lkS p.top c.sh c.st.length i)] rfl rfl (oF bT (oW (oW (oW (oW (oK (Wm HC (Nat.le_trans (HL.rz _ (List.getElem_mem hr)).pz (by decide)) hlk.2.2) [.agg (Rd.cCg c),Zb p.rz[r].pz,iv (En.lkP p.top c.sh c.st.length i)] rfl rfl (oF (bv (En.fitB c (En.lkP p.top c.sh c.st.length i) p.rz[r].pz)) (jE ?_)))))))))))))))))))
 refine Zg Tryz.results26 (.tmp rfl) ?_
 exact cB ((by rw [En.en_4 hi (En.en_b hi hs4f).1 (En.pt_1 (En.or_f hs6f) hs15) (by have:=(En.or_f hs6f);have:=R.kd;omega)];unfold En.nbB;simp only [hs18f,hs23f,hs24,hs25,decide_true,decide_false,Bool.and_true,Bool.true_and,Bool.false_and,Bool.and_false,Bool.true_or,Bool.false_or,Bool.or_true,Bool.or_false,Bool.not_true,Bool.not_false]))
 have hs25f:(En.fitB c (Jd.lkS p.top c.sh c.st.length i) p.rz[r].right)=false:=by simpa using hs25
 refine Za (oW (oW (oW (oW (oK (Zr (Wm HC (Nat.le_trans (HL.rz _ (List.getElem_mem hr)).left (by decide)) hlk.1) hs24) [.agg (Rd.cCg c),Zb p.rz[r].left,iv (Jd.lkF p.top c.sh c.st.length i)] rfl rfl (oS bT (oW (oW (oW (oW (oK (Zr (Wm HC (Nat.le_trans (HL.rz _ (List.getElem_mem hr)).right (by decide)) hlk.2.1) hs25f) [.agg (Rd.cCg c),Zb p.rz[r].right,iv (Jd.lkS p.top c.sh c.st.length i)] rfl rfl (oF bF (qK (qK (qK (qK (qK (oF bF (jE ?_)))))))))))))))))))
 refine Zg Tryz.results26 (.tmp rfl) ?_
 exact cB ((by rw [En.en_4 hi (En.en_b hi hs4f).1 (En.pt_1 (En.or_f hs6f) hs15) (by have:=(En.or_f hs6f);have:=R.kd;omega)];unfold En.nbB;simp only [hs18f,hs23f,hs24,hs25f,decide_true,decide_false,Bool.and_true,Bool.true_and,Bool.false_and,Bool.and_false,Bool.true_or,Bool.false_or,Bool.or_true,Bool.or_false,Bool.not_true,Bool.not_false]))
 have hs24f:(En.fitB c (Jd.lkF p.top c.sh c.st.length i) p.rz[r].left)=false:=by simpa using hs24
 refine Za (oW (oW (oW (oW (oK (Zr (Wm HC (Nat.le_trans (HL.rz _ (List.getElem_mem hr)).left (by decide)) hlk.1) hs24f) [.agg (Rd.cCg c),Zb p.rz[r].left,iv (Jd.lkF p.top c.sh c.st.length i)] rfl rfl (oS bF (qK (qK (qK (qK (qK (oF bF (qK (qK (qK (qK (qK (oF bF (jE ?_)))))))))))))))))))
 refine Zg Tryz.results26 (.tmp rfl) ?_
 exact cB ((by rw [En.en_4 hi (En.en_b hi hs4f).1 (En.pt_1 (En.or_f hs6f) hs15) (by have:=(En.or_f hs6f);have:=R.kd;omega)];unfold En.nbB;simp only [hs18f,hs23f,hs24f,decide_true,decide_false,Bool.and_true,Bool.true_and,Bool.false_and,Bool.and_false,Bool.true_or,Bool.false_or,Bool.or_true,Bool.or_false,Bool.not_true,Bool.not_false]))
 refine Za (oW (on (dF' hs15) (jG (oS bF (jE (Zc ?_))))))
 refine Zg Tryz.results26 (.tmp rfl) ?_
 exact cB ((En.en_pt (En.pt_o (En.or_f hs6f) hs15)).symm)
variable {y:Int}
set_option maxRecDepth 100000 in
set_option maxHeartbeats 6400000 in
theorem ZbD (HL:FamLen p) (HC:Rd.CgOk c) (hc:En.CfV p n f c) (hv:valE p=0) (hf:0≤f∧f≤1048576) (hno:Rd.inW 0 ((p.rz.length:Int)-1) x=true→Rd.inW 0 ((c.st.length:Int)-1) y=false):Ctr Tryz.prog J 26 [.agg (cFm p),.agg (cSz n t f),.agg (Rd.cCg c),.agg [iv x,iv y,iv kp],bv fo] bF:=by
 have hz:=En.val_sizes hv
 have hlst:=HC.lst
 refine Zm Tryz.func26 rfl (pN (Zh (ZS p)) (pN (Zh (Ya n t f)) (pN (Zh (Rd.plain_cg c)) (pN (Zh (pN (.v _) (pN (.v _) (pN (.v _) pZ)))) (pN (.v _) pZ))))) (n:=199) rfl (by simp) (fun w0 => ?_)
 refine kW 199 [] [(0,.agg (cFm p)),(1,.agg (cSz n t f)),(2,.agg (Rd.cCg c)),(3,.agg [iv x,iv y,iv kp]),(4,bv fo)] (jB (oX 1 (.agg (cFm p)) (oX 2 (.agg (cSz n t f)) (oX 3 (.agg (Rd.cCg c)) (oX 4 (.agg [iv x,iv y,iv kp]) (oS bF (jD (Zl ?_))))))))
 by_cases hs1:(Rd.inW 0 ((p.rz.length:Int)-1) x)=true
 refine Za (oW (oW (oW (oF (iv p.rz.length) (oU ((p.rz.length:Int)-1) (oK (Zr Kv hs1) [iv x,iv 0,iv ((p.rz.length:Int)-1)] rfl rfl (oF bF (oW (oW (oW (oF (iv c.st.length) (oU ((c.st.length:Int)-1) (oK (Zr Kv (hno hs1)) [iv y,iv 0,iv ((c.st.length:Int)-1)] rfl rfl (oW (oS bT (jG (oS bF (jA ?_))))))))))))))))))
 refine jN ?_
 refine Zg Tryz.results26 (.tmp rfl) ?_
 exact rfl
 have hs1f:(Rd.inW 0 ((p.rz.length:Int)-1) x)=false:=by simpa using hs1
 refine Za (oW (oW (oW (oF (iv p.rz.length) (oU ((p.rz.length:Int)-1) (oK (Zr Kv hs1f) [iv x,iv 0,iv ((p.rz.length:Int)-1)] rfl rfl (oF bT (qK (qK (qK (qK (qK (qK (qK (qK (oS bT (jG (oS bF (Yh ?_)))))))))))))))))))
 refine Zf (jN ?_)
 refine Zg Tryz.results26 (.tmp rfl) ?_
 exact rfl
variable {m:Nat}
theorem En.inW_isP :Rd.inW 0 ((m:Int)-1) x=En.isP m x:=by
 unfold Rd.inW En.isP
 congr 1
 exact decide_eq_decide.2 (by omega)
theorem Zci (HL:FamLen p) (HC:Rd.CgOk c) (hc:En.CfV p n f c) (hv:valE p=0) (hf:0≤f∧f≤1048576)  :Ctr Tryz.prog J 26 [.agg (cFm p),.agg (cSz n t f),.agg (Rd.cCg c),.agg [iv x,iv y,iv kp],bv fo] (bv (En.enB p n t f c (En.hdG p f c fo) x y kp)):=by
 by_cases h1:0≤x∧x<(p.rz.length:Int)
 ·by_cases h2:0≤y∧y<(c.st.length:Int)
  ·obtain ⟨r,rfl⟩:=Int.eq_ofNat_of_zero_le h1.1
   obtain ⟨i,rfl⟩:=Int.eq_ofNat_of_zero_le h2.1
   have hr:r<p.rz.length:=by omega
   have hi:i<c.st.length:=by omega
   have e:En.enB p n t f c (En.hdG p f c fo) (r:Int) (i:Int) kp=En.enR p.top n t f c (En.hdG p f c fo) p.rz[r] i kp:=by
    unfold En.enB
    rw [En.isP_nat hr,En.isP_nat hi,Int.toNat_natCast,Int.toNat_natCast,List.getD_eq_getElem?_getD,List.getElem?_eq_getElem hr]
    rfl
   rw [e]
   by_cases h3:p.top=1
   ·exact ZdL HL HC hc hv hf hr hi h3
   exact ZdK HL HC hc hv hf hr hi h3
  have e:En.enB p n t f c (En.hdG p f c fo) x y kp=false:=by
   unfold En.enB
   rw [En.isP_no h2];simp
  rw [e]
  exact ZbD HL HC hc hv hf fun _=>by rw [En.inW_isP];exact En.isP_no h2
 have e:En.enB p n t f c (En.hdG p f c fo) x y kp=false:=by
  unfold En.enB
  rw [En.isP_no h1];rfl
 rw [e]
 exact ZbD HL HC hc hv hf fun h=>by rw [En.inW_isP,En.isP_no h1] at h;cases h
end Go.Proofs.YtdbehgbggaaipaaGreat
