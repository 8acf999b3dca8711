import Derived.Test.YtmobmhgobpipkaaGreatProg
import Derived.ChangeArms
import Derived.Test.YtmobmhgobpipkaaGreatGrpaahfeipb
import Derived.Test.YtmobmhgobpipkaaGreatGrpldcgpkmj
import Derived.Test.YtmobmhgobpipkaaGreatGrpngaglejp
import Derived.Test.YtmobmhgobpipkaaGreatGrpobjpmijn
import Derived.Test.YtmobmhgobpipkaaGreatGrpmmkgfope
import Derived.Test.YtmobmhgobpipkaaGreatGrpmeogbljb
import Derived.Test.YtmobmhgobpipkaaGreatGrpndchfanc
import Derived.Test.YtmobmhgobpipkaaGreatGrpodajcjoo
import Derived.Test.YtmobmhgobpipkaaGreatGrphgnjgmgo
set_option linter.all false
namespace Go.Proofs.YtmobmhgobpipkaaGreat
open Go.RowKit Go.Deep
variable {J:World→Prop}
set_option maxRecDepth 100000 in
set_option maxHeartbeats 6400000 in
theorem validConfig_3 {p:Fm} (HP:FmOk p) {n t f:Int} {c:Cf} (HC:Rd.CgOk c) (hai:1≤n∧n≤1048576∧0≤f∧f≤n) (g0:((c.st.length:Nat):Int)=(Ns.cntE p n f)) (g1:Rd.belB c.st ((p.states.length:Nat):Int)=true) (g2:c.cor=n-f) (g3:(decide (((c.se.length:Nat):Int)=((p.msgs.length:Nat):Int))&&Rd.belB c.se 1048577)=false):Ctr Tryz.prog J 54 [.agg (cFm p),.agg (cSz n t f),.agg (Rd.cCg c)] (bv (Rd.rvB p n f c)):=by
 have hlv:=HP.lvals
 have hlf:=HC.lfa
 refine Zw Tryz.func54 rfl (by intro X hX;simp only [List.mem_cons,List.not_mem_nil,or_false] at hX;rcases hX with rfl | rfl | rfl;exact Zq (Z9 p);exact Zq (Yi n t f);exact Zq (Rd.plain_cg c)) (n:=95) rfl (by simp) (fun w0 => ?_)
 refine kW 95 [] [(0,.agg (cFm p)),(1,.agg (cSz n t f)),(2,.agg (Rd.cCg c))] (Zb (Za (ZM rfl (ZT (X := .agg (cFm p)) (k:=1) (.tmp 0) rfl rfl) ⟨I0,T0⟩ T0 rfl (ZM rfl (ZT (X := .agg (cSz n t f)) (k:=2) (.tmp 1) rfl rfl) ⟨I0,T0⟩ T0 rfl (ZM rfl (ZT (X := .agg (Rd.cCg c)) (k:=3) (.tmp 2) rfl rfl) ⟨I0,T0⟩ T0 rfl (pM (aC (.bool false)) (Zd (Zc (Zb (Zb ?_))))))))))
 refine Zs (dA (fb 1 5 U31 1) I0 (dB (lb (Ze c.st) 8 U24) I0 rfl (dA (nS 9 U24) I0 (dB (lS (cFm p) 10 3 U27) I0 rfl (dB (lS (cSz n t f) 3 4 U29) I0 rfl (dD (sc #[.tmp 11,.tmp 12] [] (KX hai) [.agg (cFm p),.agg (cSz n t f)] rfl rfl rfl) I0 I0 I0 (dC (Zv rfl (dT' g0)) I0 I0 (dM (mT 14 bF) (dB (lS (cFm p) 10 3 U27) I0 rfl (dA (fb 1 5 U31 1) I0 (dB (lb (Ze c.st) 17 U24) I0 rfl (dD (sc #[.tmp 16,.tmp 18] [] (ZA (states_c HP.lstates c.st HC.lst) g1) [.agg (cFm p),Ze c.st] rfl rfl rfl) I0 I0 I0 (dA (Zr rfl rfl) I0 (dP (pk false bT bF rfl) (dM (mT 21 bF) (dA (fb 2 5 U31 1) I0 (dB (lb (iv c.cor) 23 U3) I0 rfl (dA (fb 0 4 U29 1) I0 (dB (lb (iv n) 25 U3) I0 rfl (dA (fb 2 4 U29 1) I0 (dB (lb (iv f) 27 U3) I0 rfl (dC (Z5 (c:=n-f) rfl (w64 (by omega) (by omega) (by omega))) I0 I0 (dC (Zv rfl (dT' g2)) I0 I0 (dP (pk false bT bF rfl) (dM (mT 31 bF) (dA (fb 3 5 U31 1) I0 (dB (lb (Ze c.se) 33 U24) I0 rfl (dA (fb 3 3 U27 1) I0 (dB (lb (ZD p.msgs) 35 U22) I0 rfl (dA (nS 36 U22) I0 (dD (sc #[.tmp 34,.tmp 37] [] (ZA (numbers_c c.se HC.lse) g3) [Ze c.se,iv p.msgs.length] rfl rfl rfl) I0 I0 I0 (dA (Zr rfl rfl) I0 (dP (pk false bT bT rfl) (dM (mT 40 bT) (dK (dK (dK (dK (dK (dK (dK (dP (pk true bT (.v (.tuple #[])) rfl) (dE ?_))))))))))))))))))))))))))))))))))))))))))) (by kernel_rfl)
 show ETri J w0 _ _ _
 refine kW 95 [(1,.box 27 (cFm p)),(2,.box 29 (cSz n t f)),(3,.box 31 (Rd.cCg c))] [(3,.box 1 0),(4,.box 2 0),(5,.box 3 0),(6,bF),(49,bT)] (Zc (Zm rfl (Zb (Za (pM (aC (.bool false)) (Zd (Zc (Zl (Zf ?_)))))))))
 refine Zh Tryz.results54 (.tmp rfl) ?_
 exact congrArg (fun x:Bool=>AV.v (.bool x)) ((by simp only [Rd.rvB,g0,g1,g2,g3,decide_true,decide_false,Bool.and_true,Bool.true_and,Bool.false_and,Bool.and_false,Bool.not_true,Bool.not_false,if_true,if_false,eq_self,ite_true,ite_false]))
set_option maxRecDepth 100000 in
set_option maxHeartbeats 6400000 in
theorem validConfig_4 {p:Fm} (HP:FmOk p) {n t f:Int} {c:Cf} (HC:Rd.CgOk c) (hai:1≤n∧n≤1048576∧0≤f∧f≤n) (g0:((c.st.length:Nat):Int)=(Ns.cntE p n f)) (g1:Rd.belB c.st ((p.states.length:Nat):Int)=true) (g2:c.cor=n-f) (g3:(decide (((c.se.length:Nat):Int)=((p.msgs.length:Nat):Int))&&Rd.belB c.se 1048577)=true) (g4:(decide (((c.fa.length:Nat):Int)=((p.msgs.length:Nat):Int))&&Rd.belB c.fa 1048577)=false):Ctr Tryz.prog J 54 [.agg (cFm p),.agg (cSz n t f),.agg (Rd.cCg c)] (bv (Rd.rvB p n f c)):=by
 have hlv:=HP.lvals
 have hlf:=HC.lfa
 refine Zw Tryz.func54 rfl (by intro X hX;simp only [List.mem_cons,List.not_mem_nil,or_false] at hX;rcases hX with rfl | rfl | rfl;exact Zq (Z9 p);exact Zq (Yi n t f);exact Zq (Rd.plain_cg c)) (n:=95) rfl (by simp) (fun w0 => ?_)
 refine kW 95 [] [(0,.agg (cFm p)),(1,.agg (cSz n t f)),(2,.agg (Rd.cCg c))] (Zb (Za (ZM rfl (ZT (X := .agg (cFm p)) (k:=1) (.tmp 0) rfl rfl) ⟨I0,T0⟩ T0 rfl (ZM rfl (ZT (X := .agg (cSz n t f)) (k:=2) (.tmp 1) rfl rfl) ⟨I0,T0⟩ T0 rfl (ZM rfl (ZT (X := .agg (Rd.cCg c)) (k:=3) (.tmp 2) rfl rfl) ⟨I0,T0⟩ T0 rfl (pM (aC (.bool false)) (Zd (Zc (Zb (Zb ?_))))))))))
 refine Zs (dA (fb 1 5 U31 1) I0 (dB (lb (Ze c.st) 8 U24) I0 rfl (dA (nS 9 U24) I0 (dB (lS (cFm p) 10 3 U27) I0 rfl (dB (lS (cSz n t f) 3 4 U29) I0 rfl (dD (sc #[.tmp 11,.tmp 12] [] (KX hai) [.agg (cFm p),.agg (cSz n t f)] rfl rfl rfl) I0 I0 I0 (dC (Zv rfl (dT' g0)) I0 I0 (dM (mT 14 bF) (dB (lS (cFm p) 10 3 U27) I0 rfl (dA (fb 1 5 U31 1) I0 (dB (lb (Ze c.st) 17 U24) I0 rfl (dD (sc #[.tmp 16,.tmp 18] [] (ZA (states_c HP.lstates c.st HC.lst) g1) [.agg (cFm p),Ze c.st] rfl rfl rfl) I0 I0 I0 (dA (Zr rfl rfl) I0 (dP (pk false bT bF rfl) (dM (mT 21 bF) (dA (fb 2 5 U31 1) I0 (dB (lb (iv c.cor) 23 U3) I0 rfl (dA (fb 0 4 U29 1) I0 (dB (lb (iv n) 25 U3) I0 rfl (dA (fb 2 4 U29 1) I0 (dB (lb (iv f) 27 U3) I0 rfl (dC (Z5 (c:=n-f) rfl (w64 (by omega) (by omega) (by omega))) I0 I0 (dC (Zv rfl (dT' g2)) I0 I0 (dP (pk false bT bF rfl) (dM (mT 31 bF) (dA (fb 3 5 U31 1) I0 (dB (lb (Ze c.se) 33 U24) I0 rfl (dA (fb 3 3 U27 1) I0 (dB (lb (ZD p.msgs) 35 U22) I0 rfl (dA (nS 36 U22) I0 (dD (sc #[.tmp 34,.tmp 37] [] (ZA (numbers_c c.se HC.lse) g3) [Ze c.se,iv p.msgs.length] rfl rfl rfl) I0 I0 I0 (dA (Zr rfl rfl) I0 (dP (pk false bT bF rfl) (dM (mT 40 bF) (dA (fb 4 5 U31 1) I0 (dB (lb (Ze c.fa) 42 U24) I0 rfl (dA (fb 3 3 U27 1) I0 (dB (lb (ZD p.msgs) 44 U22) I0 rfl (dA (nS 45 U22) I0 (dD (sc #[.tmp 43,.tmp 46] [] (ZA (numbers_c c.fa HC.lfa) g4) [Ze c.fa,iv p.msgs.length] rfl rfl rfl) I0 I0 I0 (dA (Zr rfl rfl) I0 (dP (pk false bT bT rfl) (dE ?_))))))))))))))))))))))))))))))))))))))))))) (by kernel_rfl)
 show ETri J w0 _ _ _
 refine kW 95 [(1,.box 27 (cFm p)),(2,.box 29 (cSz n t f)),(3,.box 31 (Rd.cCg c))] [(3,.box 1 0),(4,.box 2 0),(5,.box 3 0),(6,bF),(49,bT)] (Zc (Zm rfl (Zb (Za (pM (aC (.bool false)) (Zd (Zc (Zl (Zf ?_)))))))))
 refine Zh Tryz.results54 (.tmp rfl) ?_
 exact congrArg (fun x:Bool=>AV.v (.bool x)) ((by simp only [Rd.rvB,g0,g1,g2,g3,g4,decide_true,decide_false,Bool.and_true,Bool.true_and,Bool.false_and,Bool.and_false,Bool.not_true,Bool.not_false,if_true,if_false,eq_self,ite_true,ite_false]))
set_option maxRecDepth 100000 in
set_option maxHeartbeats 6400000 in
theorem validConfig_5 {p:Fm} (HP:FmOk p) {n t f:Int} {c:Cf} (HC:Rd.CgOk c) (hai:1≤n∧n≤1048576∧0≤f∧f≤n) (g0:((c.st.length:Nat):Int)=(Ns.cntE p n f)) (g1:Rd.belB c.st ((p.states.length:Nat):Int)=true) (g2:c.cor=n-f) (g3:(decide (((c.se.length:Nat):Int)=((p.msgs.length:Nat):Int))&&Rd.belB c.se 1048577)=true) (g4:(decide (((c.fa.length:Nat):Int)=((p.msgs.length:Nat):Int))&&Rd.belB c.fa 1048577)=true):Ctr Tryz.prog J 54 [.agg (cFm p),.agg (cSz n t f),.agg (Rd.cCg c)] (bv (Rd.rvB p n f c)):=by
 have hlv:=HP.lvals
 have hlf:=HC.lfa
 refine Zw Tryz.func54 rfl (by intro X hX;simp only [List.mem_cons,List.not_mem_nil,or_false] at hX;rcases hX with rfl | rfl | rfl;exact Zq (Z9 p);exact Zq (Yi n t f);exact Zq (Rd.plain_cg c)) (n:=95) rfl (by simp) (fun w0 => ?_)
 refine kW 95 [] [(0,.agg (cFm p)),(1,.agg (cSz n t f)),(2,.agg (Rd.cCg c))] (Zb (Za (ZM rfl (ZT (X := .agg (cFm p)) (k:=1) (.tmp 0) rfl rfl) ⟨I0,T0⟩ T0 rfl (ZM rfl (ZT (X := .agg (cSz n t f)) (k:=2) (.tmp 1) rfl rfl) ⟨I0,T0⟩ T0 rfl (ZM rfl (ZT (X := .agg (Rd.cCg c)) (k:=3) (.tmp 2) rfl rfl) ⟨I0,T0⟩ T0 rfl (pM (aC (.bool false)) (Zd (Zc (Zb (Zb ?_))))))))))
 refine Zs (dA (fb 1 5 U31 1) I0 (dB (lb (Ze c.st) 8 U24) I0 rfl (dA (nS 9 U24) I0 (dB (lS (cFm p) 10 3 U27) I0 rfl (dB (lS (cSz n t f) 3 4 U29) I0 rfl (dD (sc #[.tmp 11,.tmp 12] [] (KX hai) [.agg (cFm p),.agg (cSz n t f)] rfl rfl rfl) I0 I0 I0 (dC (Zv rfl (dT' g0)) I0 I0 (dM (mT 14 bF) (dB (lS (cFm p) 10 3 U27) I0 rfl (dA (fb 1 5 U31 1) I0 (dB (lb (Ze c.st) 17 U24) I0 rfl (dD (sc #[.tmp 16,.tmp 18] [] (ZA (states_c HP.lstates c.st HC.lst) g1) [.agg (cFm p),Ze c.st] rfl rfl rfl) I0 I0 I0 (dA (Zr rfl rfl) I0 (dP (pk false bT bF rfl) (dM (mT 21 bF) (dA (fb 2 5 U31 1) I0 (dB (lb (iv c.cor) 23 U3) I0 rfl (dA (fb 0 4 U29 1) I0 (dB (lb (iv n) 25 U3) I0 rfl (dA (fb 2 4 U29 1) I0 (dB (lb (iv f) 27 U3) I0 rfl (dC (Z5 (c:=n-f) rfl (w64 (by omega) (by omega) (by omega))) I0 I0 (dC (Zv rfl (dT' g2)) I0 I0 (dP (pk false bT bF rfl) (dM (mT 31 bF) (dA (fb 3 5 U31 1) I0 (dB (lb (Ze c.se) 33 U24) I0 rfl (dA (fb 3 3 U27 1) I0 (dB (lb (ZD p.msgs) 35 U22) I0 rfl (dA (nS 36 U22) I0 (dD (sc #[.tmp 34,.tmp 37] [] (ZA (numbers_c c.se HC.lse) g3) [Ze c.se,iv p.msgs.length] rfl rfl rfl) I0 I0 I0 (dA (Zr rfl rfl) I0 (dP (pk false bT bF rfl) (dM (mT 40 bF) (dA (fb 4 5 U31 1) I0 (dB (lb (Ze c.fa) 42 U24) I0 rfl (dA (fb 3 3 U27 1) I0 (dB (lb (ZD p.msgs) 44 U22) I0 rfl (dA (nS 45 U22) I0 (dD (sc #[.tmp 43,.tmp 46] [] (ZA (numbers_c c.fa HC.lfa) g4) [Ze c.fa,iv p.msgs.length] rfl rfl rfl) I0 I0 I0 (dA (Zr rfl rfl) I0 (dP (pk false bT bF rfl) (dE ?_))))))))))))))))))))))))))))))))))))))))))) (by kernel_rfl)
 show ETri J w0 _ _ _
 refine kW 95 [(1,.box 27 (cFm p)),(2,.box 29 (cSz n t f)),(3,.box 31 (Rd.cCg c))] [(3,.box 1 0),(4,.box 2 0),(5,.box 3 0),(6,bF),(49,bF)] (Zc (Zn rfl (Zi (Zc (Zb (Zb (Za (pM (aC (.int .i64 0)) (kN 95 [(1,.box 27 (cFm p)),(2,.box 29 (cSz n t f)),(3,.box 31 (Rd.cCg c))] [(3,.box 1 0),(4,.box 2 0),(5,.box 3 0),(6,bF),(7,iv 0)] (Zc (Zy ?_)))))))))))
 refine Yd (σ:={k:Nat // k≤c.fa.length∧Rd.noP c.fa (Rd.badF p) k}) (fun s=>(ofL [(1,.box 27 (cFm p)),(2,.box 29 (cSz n t f)),(3,.box 31 (Rd.cCg c))],ofT 95 [(3,.box 1 0),(4,.box 2 0),(5,.box 3 0),(7,iv s.1)])) (fun s=>c.fa.length-s.1) ⟨0,Nat.zero_le _,Rd.noP_zero _ _⟩ (Zk _ _ rfl (by kernel_rfl) (by kernel_rfl)) (fun s => ?_)
 obtain ⟨k,hk0,hs0⟩:=s
 show ETri J w0 (ofL [(1,.box 27 (cFm p)),(2,.box 29 (cSz n t f)),(3,.box 31 (Rd.cCg c))]) (ofT 95 [(3,.box 1 0),(4,.box 2 0),(5,.box 3 0),(7,iv k)]) _
 refine Zb (Zb ?_)
 by_cases hs1:((k:Nat):Int)<((c.fa.length:Nat):Int)
 refine Za (pM (mT 7 (iv k)) (oA (fb 4 5 U31 1) I0 (oB (lb (Ze c.fa) 51 U24) I0 rfl (oA (nS 52 U24) I0 (oC (ZW rfl (dT hs1)) I0 I0 (Zd (Zc (Zm rfl (Zi (Zc (Zb (Zy (Zb ?_)))))))))))))
 by_cases hs2:c.fa[k]=0
 refine Za (oA (fb 4 5 U31 1) I0 (oB (lb (Ze c.fa) 57 U24) I0 rfl (pM (mT 7 (iv k)) (oC (xS (k*1) 58 59 U24) I0 I0 (oA (lE (iv c.fa[k]) 60 U3 (ZU c.fa (by omega))) I0 (oC (Zv rfl (dT' hs2)) I0 I0 (pM (mT 62 bF) (qK (qK (qK (pP (pk false (.v (.tuple #[])) bF rfl) (Zd (Zc (Zn rfl (Zi (ZL (Zc (Za (pM (mT 7 (iv k)) (oC (ZZ (c:=((k+1:Nat):Int)) rfl (w64 (by omega) (by omega) (by omega))) I0 I0 (pM (aT 56 (iv (k+1:Nat))) (kN 95 [(1,.box 27 (cFm p)),(2,.box 29 (cSz n t f)),(3,.box 31 (Rd.cCg c))] [(3,.box 1 0),(4,.box 2 0),(5,.box 3 0),(7,iv (k+1:Nat)),(54,bT),(67,bF)] (Zc ?_)))))))))))))))))))))))
 refine ZI ⟨k+1,by omega,Rd.noP_succ (by omega) hs0 (Rd.badF_z hs2)⟩ (show c.fa.length-(k+1)<c.fa.length-k by omega) ?_
 exact Zk _ _ rfl (by kernel_rfl) (by kernel_rfl)
 by_cases hs3:(Rd.looseB p)=true
 refine Za (oA (fb 4 5 U31 1) I0 (oB (lb (Ze c.fa) 57 U24) I0 rfl (pM (mT 7 (iv k)) (oC (xS (k*1) 58 59 U24) I0 I0 (oA (lE (iv c.fa[k]) 60 U3 (ZU c.fa (by omega))) I0 (oC (Zv rfl (dF' hs2)) I0 I0 (pM (mT 62 bT) (gB (lS (cFm p) 10 3 U27) I0 rfl (gC (sc #[.tmp 64] [] (ZA loose_c hs3) [.agg (cFm p)] rfl rfl rfl) I0 I0 (gA (Zr rfl rfl) I0 (pP (pk true bF bF rfl) (Zd (Zc (Zn rfl (Zi (ZL (Zc (Za (pM (mT 7 (iv k)) (oC (ZZ (c:=((k+1:Nat):Int)) rfl (w64 (by omega) (by omega) (by omega))) I0 I0 (pM (aT 56 (iv (k+1:Nat))) (kN 95 [(1,.box 27 (cFm p)),(2,.box 29 (cSz n t f)),(3,.box 31 (Rd.cCg c))] [(3,.box 1 0),(4,.box 2 0),(5,.box 3 0),(7,iv (k+1:Nat)),(54,bT),(67,bF)] (Zc ?_)))))))))))))))))))))))
 refine ZI ⟨k+1,by omega,Rd.noP_succ (by omega) hs0 (Rd.badF_l hs3)⟩ (show c.fa.length-(k+1)<c.fa.length-k by omega) ?_
 exact Zk _ _ rfl (by kernel_rfl) (by kernel_rfl)
 have hs3f:(Rd.looseB p)=false:=by simpa using hs3
 refine Za (oA (fb 4 5 U31 1) I0 (oB (lb (Ze c.fa) 57 U24) I0 rfl (pM (mT 7 (iv k)) (oC (xS (k*1) 58 59 U24) I0 I0 (oA (lE (iv c.fa[k]) 60 U3 (ZU c.fa (by omega))) I0 (oC (Zv rfl (dF' hs2)) I0 I0 (pM (mT 62 bT) (gB (lS (cFm p) 10 3 U27) I0 rfl (gC (sc #[.tmp 64] [] (ZA loose_c hs3f) [.agg (cFm p)] rfl rfl rfl) I0 I0 (gA (Zr rfl rfl) I0 (pP (pk true bT bF rfl) (Zd (Zc (Zm rfl (Zb (Za (pM (aC (.bool false)) (Zd (Zc (Zl (Zu (Zf (Zf ?_)))))))))))))))))))))))
 refine Zu (Zf ?_)
 refine Zh Tryz.results54 (.tmp rfl) ?_
 have hF:c.fa.any (Rd.badF p)=true:=Rd.any_one (by omega) (Rd.badF_y hs2 hs3f)
 exact congrArg (fun x:Bool=>AV.v (.bool x)) ((by simp only [Rd.rvB,g0,g1,g2,g3,g4,hF,decide_true,decide_false,Bool.and_true,Bool.true_and,Bool.false_and,Bool.and_false,Bool.not_true,Bool.not_false,if_true,if_false,eq_self,ite_true,ite_false]))
 refine Za (pM (mT 7 (iv k)) (oA (fb 4 5 U31 1) I0 (oB (lb (Ze c.fa) 51 U24) I0 rfl (oA (nS 52 U24) I0 (oC (ZW rfl (dF hs1)) I0 I0 (Zd (Zc (Zn rfl (Yb (Zt (Zt (Kb (Zc (Zb (Zb ?_)))))))))))))))
 by_cases hs4:(Rd.inW 0 (max 0 (((p.vals.length:Nat):Int)-1)) c.val)=true
 refine Za (oA (fb 5 5 U31 1) I0 (oB (lb (iv c.val) 68 U3) I0 rfl (oA (fb 4 3 U27 1) I0 (oB (lb (ZD p.vals) 70 U22) I0 rfl (oA (nS 71 U22) I0 (oC (Z5 (c:=((p.vals.length:Nat):Int)-1) rfl (w64 (by omega) (by omega) (by omega))) I0 I0 (oC (sp_max (.const (.int .i64 0)) (.tmp 73) rfl) I0 I0 (ZM rfl (sc #[.tmp 69,.const (.int .i64 0),.tmp 74] [] (ZA Ko hs4) [iv c.val,iv 0,iv (max 0 (((p.vals.length:Nat):Int)-1))] rfl rfl rfl) ⟨I0,I0,I0,I0,T0⟩ T0 T0 (oA (Zr rfl rfl) I0 (Zd (Zc (Zn rfl (Zi (Zc (Zb (Zb ?_))))))))))))))))
 by_cases hs5:p.top=4
 refine Za (oA (fb 1 3 U27 1) I0 (oB (lb (iv p.top) 77 U3) I0 rfl (oC (Zp rfl (dT hs5)) I0 I0 (Zd (Zc (Zm rfl (Zb ?_)))))))
 by_cases hs6:((c.sh.length:Nat):Int)=n
 refine Za (oA (fb 0 5 U31 1) I0 (oB (lb (Ze c.sh) 80 U24) I0 rfl (oA (nS 81 U24) I0 (oA (fb 0 4 U29 1) I0 (oB (lb (iv n) 83 U3) I0 rfl (oC (Zp rfl (dT hs6)) I0 I0 (pM (mT 85 bT) (gA (fb 0 5 U31 1) I0 (gB (lb (Ze c.sh) 87 U24) I0 rfl (gC (sc #[.tmp 88] [] (Rd.IsShape_c HC.sh HC.lsh) [Ze c.sh] rfl rfl rfl) I0 I0 (pP (pk true (bv (shp c.sh)) bF rfl) (pM (aT 90 (bv (shp c.sh))) (Zd (Zc (Zl (Zf ?_))))))))))))))))
 refine Zh Tryz.results54 (.tmp rfl) ?_
 have hF:c.fa.any (Rd.badF p)=false:=Rd.any_none (k:=k) (by omega) hs0
 exact congrArg (fun x:Bool=>AV.v (.bool x)) ((by simp only [Rd.rvB,g0,g1,g2,g3,g4,hs4,hs5,hs6,hF,decide_true,decide_false,Bool.and_true,Bool.true_and,Bool.false_and,Bool.and_false,Bool.not_true,Bool.not_false,if_true,if_false,eq_self,ite_true,ite_false]))
 refine Za (oA (fb 0 5 U31 1) I0 (oB (lb (Ze c.sh) 80 U24) I0 rfl (oA (nS 81 U24) I0 (oA (fb 0 4 U29 1) I0 (oB (lb (iv n) 83 U3) I0 rfl (oC (Zp rfl (dF hs6)) I0 I0 (pM (mT 85 bF) (qK (qK (qK (pP (pk false (.v (.tuple #[])) bF rfl) (pM (aT 90 bF) (Zd (Zc (Zl (Zf ?_))))))))))))))))
 refine Zh Tryz.results54 (.tmp rfl) ?_
 have hF:c.fa.any (Rd.badF p)=false:=Rd.any_none (k:=k) (by omega) hs0
 exact congrArg (fun x:Bool=>AV.v (.bool x)) ((by simp only [Rd.rvB,g0,g1,g2,g3,g4,hs4,hs5,hs6,hF,decide_true,decide_false,Bool.and_true,Bool.true_and,Bool.false_and,Bool.and_false,Bool.not_true,Bool.not_false,if_true,if_false,eq_self,ite_true,ite_false]))
 refine Za (oA (fb 1 3 U27 1) I0 (oB (lb (iv p.top) 77 U3) I0 rfl (oC (Zp rfl (dF hs5)) I0 I0 (Zd (Zc (Zn rfl (Zi (Zc (Zb (Za (oA (fb 0 5 U31 1) I0 (oB (lb (Ze c.sh) 91 U24) I0 rfl (oA (nS 92 U24) I0 (oC (Zp rfl rfl) I0 I0 (pM (aT 94 (bv (decide (((c.sh.length:Nat):Int)=0)))) (Zd (Zc (Zl ?_))))))))))))))))))
 refine Zh Tryz.results54 (.tmp rfl) ?_
 have hF:c.fa.any (Rd.badF p)=false:=Rd.any_none (k:=k) (by omega) hs0
 exact congrArg (fun x:Bool=>AV.v (.bool x)) ((by simp only [Rd.rvB,g0,g1,g2,g3,g4,hs4,hs5,hF,decide_true,decide_false,Bool.and_true,Bool.true_and,Bool.false_and,Bool.and_false,Bool.not_true,Bool.not_false,if_true,if_false,eq_self,ite_true,ite_false]))
 have hs4f:(Rd.inW 0 (max 0 (((p.vals.length:Nat):Int)-1)) c.val)=false:=by simpa using hs4
 refine Za (oA (fb 5 5 U31 1) I0 (oB (lb (iv c.val) 68 U3) I0 rfl (oA (fb 4 3 U27 1) I0 (oB (lb (ZD p.vals) 70 U22) I0 rfl (oA (nS 71 U22) I0 (oC (Z5 (c:=((p.vals.length:Nat):Int)-1) rfl (w64 (by omega) (by omega) (by omega))) I0 I0 (oC (sp_max (.const (.int .i64 0)) (.tmp 73) rfl) I0 I0 (ZM rfl (sc #[.tmp 69,.const (.int .i64 0),.tmp 74] [] (ZA Ko hs4f) [iv c.val,iv 0,iv (max 0 (((p.vals.length:Nat):Int)-1))] rfl rfl rfl) ⟨I0,I0,I0,I0,T0⟩ T0 T0 (oA (Zr rfl rfl) I0 (Zd (Zc (Zm rfl (Zb (Za (pM (aC (.bool false)) (Zd (Zc (Zl (Zf ?_)))))))))))))))))))
 refine Zh Tryz.results54 (.tmp rfl) ?_
 have hF:c.fa.any (Rd.badF p)=false:=Rd.any_none (k:=k) (by omega) hs0
 exact congrArg (fun x:Bool=>AV.v (.bool x)) ((by simp only [Rd.rvB,g0,g1,g2,g3,g4,hs4f,hF,decide_true,decide_false,Bool.and_true,Bool.true_and,Bool.false_and,Bool.and_false,Bool.not_true,Bool.not_false,if_true,if_false,eq_self,ite_true,ite_false]))
theorem validConfig_c {p:Fm} (HP:FmOk p) {n t f:Int} {c:Cf} (HC:Rd.CgOk c) (hai:1≤n∧n≤1048576∧0≤f∧f≤n):Ctr Tryz.prog J 54 [.agg (cFm p),.agg (cSz n t f),.agg (Rd.cCg c)] (bv (Rd.rvB p n f c)):=by
  by_cases g0:((c.st.length:Nat):Int)=(Ns.cntE p n f)
  case neg=>exact validConfig_0 HP HC hai  g0
  by_cases g1:Rd.belB c.st ((p.states.length:Nat):Int)=true
  case neg=>exact validConfig_1 HP HC hai g0 (by simpa only [Bool.not_eq_true] using g1)
  by_cases g2:c.cor=n-f
  case neg=>exact validConfig_2 HP HC hai g0 g1 g2
  by_cases g3:(decide (((c.se.length:Nat):Int)=((p.msgs.length:Nat):Int))&&Rd.belB c.se 1048577)=true
  case neg=>exact validConfig_3 HP HC hai g0 g1 g2 (by simpa only [Bool.not_eq_true] using g3)
  by_cases g4:(decide (((c.fa.length:Nat):Int)=((p.msgs.length:Nat):Int))&&Rd.belB c.fa 1048577)=true
  case neg=>exact validConfig_4 HP HC hai g0 g1 g2 g3 (by simpa only [Bool.not_eq_true] using g4)
  exact validConfig_5 HP HC hai g0 g1 g2 g3 g4
set_option maxRecDepth 100000 in
set_option maxHeartbeats 6400000 in
theorem rValidConfig_c {p:Fm} (HP:FmOk p) {n t f:Int} {c:Cf} (HC:Rd.CgOk c):Ctr Tryz.prog J 29 [.agg (cFm p),.agg (cSz n t f),.agg (Rd.cCg c)] (iv (Rd.vcE p n t f c)):=by
 refine Zw Tryz.func29 rfl (by intro X hX;simp only [List.mem_cons,List.not_mem_nil,or_false] at hX;rcases hX with rfl | rfl | rfl;exact Zq (Z9 p);exact Zq (Yi n t f);exact Zq (Rd.plain_cg c)) (n:=19) rfl (by simp) (fun w0 => ?_)
 refine kW 19 [] [(0,.agg (cFm p)),(1,.agg (cSz n t f)),(2,.agg (Rd.cCg c))] (Zb (Za (ZM rfl (ZT (X := .agg (cFm p)) (k:=1) (.tmp 0) rfl rfl) ⟨I0,T0⟩ T0 rfl (ZM rfl (ZT (X := .agg (cSz n t f)) (k:=2) (.tmp 1) rfl rfl) ⟨I0,T0⟩ T0 rfl (ZM rfl (ZT (X := .agg (Rd.cCg c)) (k:=3) (.tmp 2) rfl rfl) ⟨I0,T0⟩ T0 rfl (pM (aC (.int .i64 0)) (Zd (Zc (Zb (Zb (Za (oB (lS (cFm p) 10 3 U27) I0 rfl (oB (lS (cSz n t f) 3 4 U29) I0 rfl (oD (sc #[.tmp 8,.tmp 9] [] (Sized_c HP) [.agg (cFm p),.agg (cSz n t f)] rfl rfl rfl) I0 I0 I0 (pM (aT 10 (iv (Ns.sysE p n t f))) (Zd (Zc (Zb ?_))))))))))))))))))
 by_cases hs1:(Ns.sysE p n t f)=0
 refine Za (pM (mT 7 (iv (Ns.sysE p n t f))) (oC (Zv rfl (dT' hs1)) I0 I0 (Zd (Zc (Zn rfl (Zi (Zc (Zb (Zb ?_)))))))))
 by_cases hs2:(Rd.rvB p n f c)=true
 refine Za (oB (lS (cFm p) 10 3 U27) I0 rfl (oB (lS (cSz n t f) 3 4 U29) I0 rfl (oB (lS (Rd.cCg c) 6 5 U31) I0 rfl (ZM rfl (sc #[.tmp 14,.tmp 15,.tmp 16] [] (ZA (validConfig_c HP HC (Ns.adm_in (Ns.sys_ok hs1).2.1)) hs2) [.agg (cFm p),.agg (cSz n t f),.agg (Rd.cCg c)] rfl rfl rfl) ⟨I0,I0,I0,I0,T0⟩ T0 T0 (oA (Zr rfl rfl) I0 (kN 19 [] [(6,iv 0),(18,bF)] (Zc (Zn rfl (Zi (Zc (Zb (Za (pM (aC (.int .i64 0)) (Zd (Zc (Zl ?_))))))))))))))))
 refine Zh Tryz.results29 (.tmp rfl) ?_
 have hx:Rd.rdX p n f c=true:=by rw [← Rd.rv_rd hs1];simpa using hs2
 have hr:Rd.vcE p n t f c=0:=by unfold Rd.vcE;rw [if_pos hs1,hx];rfl
 rw [hr]
 exact rfl
 have hs2f:(Rd.rvB p n f c)=false:=by simpa using hs2
 refine Za (oB (lS (cFm p) 10 3 U27) I0 rfl (oB (lS (cSz n t f) 3 4 U29) I0 rfl (oB (lS (Rd.cCg c) 6 5 U31) I0 rfl (ZM rfl (sc #[.tmp 14,.tmp 15,.tmp 16] [] (ZA (validConfig_c HP HC (Ns.adm_in (Ns.sys_ok hs1).2.1)) hs2f) [.agg (cFm p),.agg (cSz n t f),.agg (Rd.cCg c)] rfl rfl rfl) ⟨I0,I0,I0,I0,T0⟩ T0 T0 (oA (Zr rfl rfl) I0 (kN 19 [] [(6,iv 0),(18,bT)] (Zc (Zm rfl (Zb (Za (pM (aC (.int .i64 1)) (Zd (Zc (Zl (Zf ?_)))))))))))))))
 refine Zh Tryz.results29 (.tmp rfl) ?_
 have hx:Rd.rdX p n f c=false:=by rw [← Rd.rv_rd hs1];simpa using hs2f
 have hr:Rd.vcE p n t f c=1:=by unfold Rd.vcE;rw [if_pos hs1,hx];rfl
 rw [hr]
 exact rfl
 refine Za (pM (mT 7 (iv (Ns.sysE p n t f))) (oC (Zv rfl (dF' hs1)) I0 I0 (Zd (Zc (Zm rfl (Zb (Za (pM (mT 7 (iv (Ns.sysE p n t f))) (pM (aT 13 (iv (Ns.sysE p n t f))) (Zd (Zc (Zl (Zf ?_)))))))))))))
 refine Zh Tryz.results29 (.tmp rfl) ?_
 have hr:Rd.vcE p n t f c=Ns.sysE p n t f:=by unfold Rd.vcE;rw [if_neg hs1]
 rw [hr]
 exact rfl
set_option maxRecDepth 100000 in
set_option maxHeartbeats 6400000 in
theorem renabled_no {p:Fm} (HL:FamLen p) {n t f:Int} {c:Cf} (HC:Rd.CgOk c) (hc:En.CfV p n f c) (hv:valE p=0) (hf:0≤f∧f≤1048576) {x y kp:Int} {fo:Bool} (hno:Rd.inW 0 (((p.rules.length:Nat):Int)-1) x=true→Rd.inW 0 (((c.st.length:Nat):Int)-1) y=false):Ctr Tryz.prog J 30 [.agg (cFm p),.agg (cSz n t f),.agg (Rd.cCg c),.agg [iv x,iv y,iv kp],bv fo] bF:=by
 have hz:=En.val_sizes hv
 have hlst:=HC.lst
 refine Zw Tryz.func30 rfl (by intro X hX;simp only [List.mem_cons,List.not_mem_nil,or_false] at hX;rcases hX with rfl | rfl | rfl | rfl | rfl;exact Zq (Z9 p);exact Zq (Yi n t f);exact Zq (Rd.plain_cg c);exact Zq (fun X hX=>by simp only [List.mem_cons,List.not_mem_nil,or_false] at hX;rcases hX with rfl | rfl | rfl<;>exact .v _);exact .v _) (n:=199) rfl (by simp) (fun w0 => ?_)
 refine kW 199 [] [(0,.agg (cFm p)),(1,.agg (cSz n t f)),(2,.agg (Rd.cCg c)),(3,.agg [iv x,iv y,iv kp]),(4,bv fo)] (Zb (Za (ZM rfl (ZT (X := .agg (cFm p)) (k:=1) (.tmp 0) rfl rfl) ⟨I0,T0⟩ T0 rfl (ZM rfl (ZT (X := .agg (cSz n t f)) (k:=2) (.tmp 1) rfl rfl) ⟨I0,T0⟩ T0 rfl (ZM rfl (ZT (X := .agg (Rd.cCg c)) (k:=3) (.tmp 2) rfl rfl) ⟨I0,T0⟩ T0 rfl (ZM rfl (ZT (X := .agg [iv x,iv y,iv kp]) (k:=4) (.tmp 3) rfl rfl) ⟨I0,T0⟩ T0 rfl (pM (aC (.bool false)) (Zd (Zc (Zb (Zb ?_)))))))))))
 by_cases hs1:(Rd.inW 0 (((p.rules.length:Nat):Int)-1) x)=true
 refine Za (oA (fb 0 8 U35 1) I0 (oB (lb (iv x) 17 U3) I0 rfl (oA (fb 9 5 U27 1) I0 (oB (lb (slA 18 cRu p.rules) 19 U25) I0 rfl (oA (nS 20 U25) I0 (oC (Z5 (c:=((p.rules.length:Nat):Int)-1) rfl (w64 (by omega) (by omega) (by omega))) I0 I0 (ZM rfl (sc #[.tmp 18,.const (.int .i64 0),.tmp 22] [] (ZA Ko hs1) [iv x,iv 0,iv (((p.rules.length:Nat):Int)-1)] rfl rfl rfl) ⟨I0,I0,I0,I0,T0⟩ T0 T0 (oA (Zr rfl rfl) I0 (pM (mT 24 bF) (gA (fb 1 8 U35 1) I0 (gB (lb (iv y) 26 U3) I0 rfl (gA (fb 1 7 U31 1) I0 (gB (lb (Ze c.st) 28 U24) I0 rfl (gA (nS 29 U24) I0 (gC (Z5 (c:=((c.st.length:Nat):Int)-1) rfl (w64 (by omega) (by omega) (by omega))) I0 I0 (YC rfl (sc #[.tmp 27,.const (.int .i64 0),.tmp 31] [] (ZA Ko (hno hs1)) [iv y,iv 0,iv (((c.st.length:Nat):Int)-1)] rfl rfl rfl) ⟨I0,I0,I0,I0,T0⟩ T0 T0 (gA (Zr rfl rfl) I0 (pP (pk false bT bT rfl) (Zd (Zc (Zm rfl (Zb (Za ?_)))))))))))))))))))))))
 refine pM (aC (.bool false)) (Zd (Zc (Zl (Zf ?_))))
 refine Zh Tryz.results30 (.tmp rfl) ?_
 exact rfl
 have hs1f:(Rd.inW 0 (((p.rules.length:Nat):Int)-1) x)=false:=by simpa using hs1
 refine Za (oA (fb 0 8 U35 1) I0 (oB (lb (iv x) 17 U3) I0 rfl (oA (fb 9 5 U27 1) I0 (oB (lb (slA 18 cRu p.rules) 19 U25) I0 rfl (oA (nS 20 U25) I0 (oC (Z5 (c:=((p.rules.length:Nat):Int)-1) rfl (w64 (by omega) (by omega) (by omega))) I0 I0 (ZM rfl (sc #[.tmp 18,.const (.int .i64 0),.tmp 22] [] (ZA Ko hs1f) [iv x,iv 0,iv (((p.rules.length:Nat):Int)-1)] rfl rfl rfl) ⟨I0,I0,I0,I0,T0⟩ T0 T0 (oA (Zr rfl rfl) I0 (pM (mT 24 bT) (qK (qK (qK (qK (qK (qK (qK (qK (pP (pk true bT (.v (.tuple #[])) rfl) (Zd (Zc (Zm rfl (Zb (Za ?_)))))))))))))))))))))))
 refine pM (aC (.bool false)) (Zd (Zc (Zl (Zf ?_))))
 refine Zh Tryz.results30 (.tmp rfl) ?_
 exact rfl
theorem En.inW_isP {m:Nat} {x:Int}:Rd.inW 0 (((m:Nat):Int)-1) x=En.isP m x:=by
  unfold Rd.inW En.isP
  congr 1
  exact decide_eq_decide.2 (by omega)
theorem renabled_c {p:Fm} (HL:FamLen p) {n t f:Int} {c:Cf} (HC:Rd.CgOk c) (hc:En.CfV p n f c) (hv:valE p=0) (hf:0≤f∧f≤1048576) {x y kp:Int} {fo:Bool}:Ctr Tryz.prog J 30 [.agg (cFm p),.agg (cSz n t f),.agg (Rd.cCg c),.agg [iv x,iv y,iv kp],bv fo] (bv (En.enB p n t f c (En.hdG p f c fo) x y kp)):=by
  by_cases h1:0≤x∧x<((p.rules.length:Nat):Int)
  · by_cases h2:0≤y∧y<((c.st.length:Nat):Int)
    · obtain ⟨r,rfl⟩:=Int.eq_ofNat_of_zero_le h1.1
      obtain ⟨i,rfl⟩:=Int.eq_ofNat_of_zero_le h2.1
      have hr:r<p.rules.length:=by omega
      have hi:i<c.st.length:=by omega
      have e:En.enB p n t f c (En.hdG p f c fo) ((r:Nat):Int) ((i:Nat):Int) kp=En.enR p.top n t f c (En.hdG p f c fo) p.rules[r] i kp:=by
        unfold En.enB
        rw [En.isP_nat hr,En.isP_nat hi,Int.toNat_natCast,Int.toNat_natCast,List.getD_eq_getElem?_getD,List.getElem?_eq_getElem hr]
        rfl
      rw [e]
      by_cases h3:p.top=1
      · exact renabled_in1 HL HC hc hv hf hr hi h3
      exact renabled_in2 HL HC hc hv hf hr hi h3
    have e:En.enB p n t f c (En.hdG p f c fo) x y kp=false:=by
      unfold En.enB
      rw [En.isP_no h2];simp
    rw [e]
    exact renabled_no HL HC hc hv hf fun _=>by rw [En.inW_isP];exact En.isP_no h2
  have e:En.enB p n t f c (En.hdG p f c fo) x y kp=false:=by
    unfold En.enB
    rw [En.isP_no h1];rfl
  rw [e]
  exact renabled_no HL HC hc hv hf fun h=>by rw [En.inW_isP,En.isP_no h1] at h;cases h
set_option maxRecDepth 100000
set_option maxHeartbeats 6400000
theorem isForced_c {p:Fm} (HL:FamLen p) {n t f:Int} {c:Cf} (HC:Rd.CgOk c) (hc:En.CfV p n f c) (hv:valE p=0) (hf:0≤f∧f≤1048576) {x y:Int}:Ctr Tryz.prog J 33 [.agg (cFm p),.agg (cSz n t f),.agg (Rd.cCg c),iv x,iv y] (bv (En.frB p n t f c (En.hdG p f c true) x y)):=by
 have hco:=hc.co
 have hlst:=HC.lst
 refine Zw Tryz.func33 rfl (by intro X hX;simp only [List.mem_cons,List.not_mem_nil,or_false] at hX;rcases hX with rfl | rfl | rfl | rfl | rfl;exact Zq (Z9 p);exact Zq (Yi n t f);exact Zq (Rd.plain_cg c);exact .v _;exact .v _) (n:=31) rfl (by simp) (fun w0 => ?_)
 refine kW 31 [] [(0,.agg (cFm p)),(1,.agg (cSz n t f)),(2,.agg (Rd.cCg c)),(3,iv x),(4,iv y)] (Zb (Za (ZM rfl (ZT (X := .agg (cFm p)) (k:=1) (.tmp 0) rfl rfl) ⟨I0,T0⟩ T0 rfl (ZM rfl (ZT (X := .agg (cSz n t f)) (k:=2) (.tmp 1) rfl rfl) ⟨I0,T0⟩ T0 rfl (ZM rfl (ZT (X := .agg (Rd.cCg c)) (k:=3) (.tmp 2) rfl rfl) ⟨I0,T0⟩ T0 rfl (pM (aC (.bool false)) (Zd (Zc (Zb (Zb ?_))))))))))
 by_cases hs1:c.cor≤y
 refine Za (pM (mT 4 (iv y)) (oA (fb 2 7 U31 1) I0 (oB (lb (iv c.cor) 13 U3) I0 rfl (oC (YI rfl (dT hs1)) I0 I0 (Zd (Zc (Zm rfl (Zb (Za (pM (aC (.bool false)) (Zd (Zc (Zl (Zf ?_))))))))))))))
 refine Zh Tryz.results33 (.tmp rfl) ?_
 exact congrArg (fun x:Bool=>AV.v (.bool x)) ((En.fr_lo (by have:=hs1;omega)).symm)
 refine Za (pM (mT 4 (iv y)) (oA (fb 2 7 U31 1) I0 (oB (lb (iv c.cor) 13 U3) I0 rfl (oC (YI rfl (dF hs1)) I0 I0 (Zd (Zc (Zn rfl (Zi (Zc (Zb (Zb (Za (pM (aC (.int .i64 (-1))) (kN 31 [(1,.box 27 (cFm p)),(2,.box 29 (cSz n t f)),(3,.box 31 (Rd.cCg c))] [(3,iv x),(4,iv y),(5,.box 1 0),(6,.box 2 0),(7,.box 3 0),(10,bF),(11,iv (-1))] (Zc (Zy ?_))))))))))))))))
 refine Yd (σ:={j:Nat // j≤c.st.length+1∧En.noE p n t f c (En.hdG p f c true) x y j}) (fun s=>(ofL [(1,.box 27 (cFm p)),(2,.box 29 (cSz n t f)),(3,.box 31 (Rd.cCg c))],ofT 31 [(3,iv x),(4,iv y),(5,.box 1 0),(6,.box 2 0),(7,.box 3 0),(11,iv ((((s.1:Nat)):Int)-1))])) (fun s=>c.st.length+1-s.1) ⟨0,Nat.zero_le _,En.noE_zero⟩ (Zk _ _ rfl (by kernel_rfl) (by kernel_rfl)) (fun s => ?_)
 obtain ⟨j,hj0,hnf⟩:=s
 show ETri J w0 (ofL [(1,.box 27 (cFm p)),(2,.box 29 (cSz n t f)),(3,.box 31 (Rd.cCg c))]) (ofT 31 [(3,iv x),(4,iv y),(5,.box 1 0),(6,.box 2 0),(7,.box 3 0),(11,iv (((j:Nat):Int)-1))]) _
 refine Zb (Zb ?_)
 by_cases hs2:((j:Nat):Int)-1<((c.st.length:Nat):Int)
 refine Za (pM (mT 11 (iv (((j:Nat):Int)-1))) (oA (fb 1 7 U31 1) I0 (oB (lb (Ze c.st) 17 U24) I0 rfl (oA (nS 18 U24) I0 (oC (ZW rfl (dT hs2)) I0 I0 (Zd (Zc (Zm rfl (Zi (Zc (Zb (Zy (Zb ?_)))))))))))))
 by_cases hs3:(En.enB p n t f c (En.hdG p f c true) x y (((j:Nat):Int)-1))=true
 refine Za (oB (lS (cFm p) 10 5 U27) I0 rfl (oB (lS (cSz n t f) 3 6 U29) I0 rfl (oB (lS (Rd.cCg c) 6 7 U31) I0 rfl (pM (mT 3 (iv x)) (pM (mT 4 (iv y)) (pM (mT 11 (iv (((j:Nat):Int)-1))) (oD (Kh [(.tmp 26,.int .i64 x),(.tmp 27,.int .i64 y),(.tmp 28,.int .i64 (((j:Nat):Int)-1))] #[.int .i64 x,.int .i64 y,.int .i64 (((j:Nat):Int)-1)] rfl rfl (by kernel_rfl) rfl) I0 I0 I0 (ZM rfl (sc #[.tmp 23,.tmp 24,.tmp 25,.tmp 29,.const (.bool true)] [] (ZA (renabled_c HL HC hc hv hf) hs3) [.agg (cFm p),.agg (cSz n t f),.agg (Rd.cCg c),.agg [iv x,iv y,iv (((j:Nat):Int)-1)],bT] rfl rfl rfl) ⟨I0,I0,I0,I0,I0,I0,T0⟩ T0 T0 (Zd (Zc (Zm rfl (Zb (Za (pM (aC (.bool true)) (Zd (Zc (Zl (Zu (Zf (Zf (Zu (Zf ?_))))))))))))))))))))))
 refine Zh Tryz.results33 (.tmp rfl) ?_
 exact congrArg (fun x:Bool=>AV.v (.bool x)) ((En.fr_yes (by have:=hs1;omega) (by omega) hs3).symm)
 have hs3f:(En.enB p n t f c (En.hdG p f c true) x y (((j:Nat):Int)-1))=false:=by simpa using hs3
 refine Za (oB (lS (cFm p) 10 5 U27) I0 rfl (oB (lS (cSz n t f) 3 6 U29) I0 rfl (oB (lS (Rd.cCg c) 6 7 U31) I0 rfl (pM (mT 3 (iv x)) (pM (mT 4 (iv y)) (pM (mT 11 (iv (((j:Nat):Int)-1))) (oD (Kh [(.tmp 26,.int .i64 x),(.tmp 27,.int .i64 y),(.tmp 28,.int .i64 (((j:Nat):Int)-1))] #[.int .i64 x,.int .i64 y,.int .i64 (((j:Nat):Int)-1)] rfl rfl (by kernel_rfl) rfl) I0 I0 I0 (ZM rfl (sc #[.tmp 23,.tmp 24,.tmp 25,.tmp 29,.const (.bool true)] [] (ZA (renabled_c HL HC hc hv hf) hs3f) [.agg (cFm p),.agg (cSz n t f),.agg (Rd.cCg c),.agg [iv x,iv y,iv (((j:Nat):Int)-1)],bT] rfl rfl rfl) ⟨I0,I0,I0,I0,I0,I0,T0⟩ T0 T0 (Zd (Zc (Zn rfl (Zi (ZL (Zc (Za (pM (mT 11 (iv (((j:Nat):Int)-1))) (oC (ZZ (c:=((j:Nat):Int)-1+1) rfl (w64 (by omega) (by omega) (by omega))) I0 I0 (pM (aT 22 (iv (((j:Nat):Int)-1+1))) (kN 31 [(1,.box 27 (cFm p)),(2,.box 29 (cSz n t f)),(3,.box 31 (Rd.cCg c))] [(3,iv x),(4,iv y),(5,.box 1 0),(6,.box 2 0),(7,.box 3 0),(11,iv (((j:Nat):Int)-1+1)),(20,bT),(30,bF)] (Zc ?_))))))))))))))))))))
 refine ZI ⟨j+1,by omega,En.noE_succ hnf hs3f⟩ (show c.st.length+1-(j+1)<c.st.length+1-j by omega) ?_
 show Wk _ _ (ofL [(1,.box 27 (cFm p)),(2,.box 29 (cSz n t f)),(3,.box 31 (Rd.cCg c))]) (ofT 31 [(3,iv x),(4,iv y),(5,.box 1 0),(6,.box 2 0),(7,.box 3 0),(11,iv (((((j+1):Nat)):Int)-1))])
 rw [show ((((j+1):Nat)):Int)-1=((j:Nat):Int)-1+1 by omega]
 exact Zk _ _ rfl (by kernel_rfl) (by kernel_rfl)
 refine Za (pM (mT 11 (iv (((j:Nat):Int)-1))) (oA (fb 1 7 U31 1) I0 (oB (lb (Ze c.st) 17 U24) I0 rfl (oA (nS 18 U24) I0 (oC (ZW rfl (dF hs2)) I0 I0 (Zd (Zc (Zn rfl (Yb (Zt (Zt (Kb (Zc (Zb (Za (pM (aC (.bool false)) (Zd (Zc (Zl ?_)))))))))))))))))))
 refine Zh Tryz.results33 (.tmp rfl) ?_
 exact congrArg (fun x:Bool=>AV.v (.bool x)) ((En.fr_no (by omega) hnf).symm)
theorem rForced_c {p:Fm} (HP:FmOk p) (HL:FamLen p) {n t f:Int} {c:Cf} (HC:Rd.CgOk c) {x y:Int}:Ctr Tryz.prog J 13 [.agg (cFm p),.agg (cSz n t f),.agg (Rd.cCg c),iv x,iv y] (.tup [bv (En.faR p n t f c x y),iv (Rd.vcE p n t f c)]):=by
 refine Zw Tryz.func13 rfl (by intro X hX;simp only [List.mem_cons,List.not_mem_nil,or_false] at hX;rcases hX with rfl | rfl | rfl | rfl | rfl;exact Zq (Z9 p);exact Zq (Yi n t f);exact Zq (Rd.plain_cg c);exact .v _;exact .v _) (n:=26) rfl (by simp) (fun w0 => ?_)
 refine kW 26 [] [(0,.agg (cFm p)),(1,.agg (cSz n t f)),(2,.agg (Rd.cCg c)),(3,iv x),(4,iv y)] (Zb (Za (ZM rfl (ZT (X := .agg (cFm p)) (k:=1) (.tmp 0) rfl rfl) ⟨I0,T0⟩ T0 rfl (ZM rfl (ZT (X := .agg (cSz n t f)) (k:=2) (.tmp 1) rfl rfl) ⟨I0,T0⟩ T0 rfl (ZM rfl (ZT (X := .agg (Rd.cCg c)) (k:=3) (.tmp 2) rfl rfl) ⟨I0,T0⟩ T0 rfl (pM (aC (.bool false)) (pM (aC (.int .i64 0)) (Zd (Zc (Zb (Zb (Za (oB (lS (cFm p) 10 5 U27) I0 rfl (oB (lS (cSz n t f) 3 6 U29) I0 rfl (oB (lS (Rd.cCg c) 6 7 U31) I0 rfl (ZM rfl (sc #[.tmp 13,.tmp 14,.tmp 15] [] (rValidConfig_c HP HC) [.agg (cFm p),.agg (cSz n t f),.agg (Rd.cCg c)] rfl rfl rfl) ⟨I0,I0,I0,I0,T0⟩ T0 T0 (pM (aT 16 (iv (Rd.vcE p n t f c))) (Zd (Zc (Zb ?_))))))))))))))))))))
 by_cases hs1:(Rd.vcE p n t f c)=0
 obtain ⟨hs,hx⟩:=En.vc_ok hs1
 have hc:=En.cf_in hx
 obtain ⟨hv,ha,h8⟩:=Ns.sys_ok hs
 have hai:=Ns.adm_in ha
 have l8:=En.cf_len hc hai h8
 have hsz:=En.val_sizes hv
 have hf:0≤f∧f≤1048576:=by omega
 refine Za (pM (mT 12 (iv (Rd.vcE p n t f c))) (oC (Zv rfl (dT' hs1)) I0 I0 (Zd (Zc (Zn rfl (Zi (Zc (Zb (Za (oB (lS (cFm p) 10 5 U27) I0 rfl (oB (lS (cSz n t f) 3 6 U29) I0 rfl (oB (lS (Rd.cCg c) 6 7 U31) I0 rfl (pM (mT 3 (iv x)) (pM (mT 4 (iv y)) (ZM rfl (sc #[.tmp 20,.tmp 21,.tmp 22,.tmp 23,.tmp 24] [] (isForced_c HL HC hc hv hf) [.agg (cFm p),.agg (cSz n t f),.agg (Rd.cCg c),iv x,iv y] rfl rfl rfl) ⟨I0,I0,I0,I0,I0,I0,T0⟩ T0 T0 (pM (aT 25 (bv (En.frB p n t f c (En.hdG p f c true) x y))) (pM (aC (.int .i64 0)) (Zd (Zc (Zl ?_))))))))))))))))))))
 refine Yv Tryz.results13 (.tmp rfl) (.tmp rfl) ?_
 rw [show En.faR p n t f c x y=_ from if_pos hs1,hs1]
 exact rfl
 refine Za (pM (mT 12 (iv (Rd.vcE p n t f c))) (oC (Zv rfl (dF' hs1)) I0 I0 (Zd (Zc (Zm rfl (Zb (Za (pM (mT 12 (iv (Rd.vcE p n t f c))) (pM (aC (.bool false)) (pM (aT 19 (iv (Rd.vcE p n t f c))) (Zd (Zc (Zl (Zf ?_))))))))))))))
 refine Yv Tryz.results13 (.tmp rfl) (.tmp rfl) ?_
 rw [show En.faR p n t f c x y=false from if_neg hs1]
 exact rfl
end Go.Proofs.YtmobmhgobpipkaaGreat
namespace Go.Proofs.YtmobmhgobpipkaaGreat
open Go.RowKit Go.Deep Go.ChangeShapes Go.WideShapes Go.ChangeAt Go.Joins
theorem Kz:Tryz.prog.cellsOf 3=1:=by kernel_rfl
theorem zcells_ints:Tryz.prog.cellsOf 24=1:=by kernel_rfl
set_option maxRecDepth 100000 in
theorem zint_of_trod {H:Type} {enc:TypeId × Value→H} {w:World} {base:Nat} {sp:Nat→Bool} {held:Bool} {n:Nat} {v:Value} {x:DataW H × List MemPlace} (h:DataW.trod enc Tryz.prog w base sp held n 3 [v]=some x):∃ c,v = .int .i64 c∧I64 c:=by
  obtain ⟨c,e1,_,e3⟩:=DataW.trod_int Tryz.underlying3 h
  simp at e1
  exact ⟨c,e1,I64.of_wf e3⟩
theorem cells_cfg:Tryz.prog.cellsOf 31=6:=by kernel_rfl
set_option maxRecDepth 100000 in
theorem cfg_of_trod {H:Type} {enc:TypeId × Value→H} {w:World} {base:Nat} {sp:Nat→Bool} {held:Bool} {n:Nat} {cs:List Value} {x:DataW H × List MemPlace} (h:DataW.trod enc Tryz.prog w base sp held n 31 cs=some x) :
    ∃ u0 xs0 u1 xs1 c2 u3 xs3 u4 xs4 c5,cs=[u0,u1,.int .i64 c2,u3,u4,.int .i64 c5]∧IsInts 0 w u0 xs0∧IsInts 0 w u1 xs1∧I64 c2∧IsInts 0 w u3 xs3∧IsInts 0 w u4 xs4∧I64 c5:=by
  obtain ⟨ys,m,_,_,hlen,_,hf⟩:=DataW.trod_struct Tryz.underlying31 h
  rw [cells_cfg] at hlen
  match cs,hlen with
  | [v0,v1,v2,v3,v4,v5],_ =>
    have h0:DataW.trod enc Tryz.prog w base sp held m 24 (([v0,v1,v2,v3,v4,v5].drop 0).take (Tryz.prog.cellsOf 24))=ys[0]? := hf 0 _ rfl
    rw [zcells_ints] at h0
    simp only [List.drop_zero,List.take_succ_cons,List.take_zero] at h0
    have h1:DataW.trod enc Tryz.prog w base sp held m 24 (([v0,v1,v2,v3,v4,v5].drop 1).take (Tryz.prog.cellsOf 24))=ys[1]? := hf 1 _ rfl
    rw [zcells_ints] at h1
    simp only [List.drop_succ_cons,List.drop_zero,List.take_succ_cons,List.take_zero] at h1
    have h2:DataW.trod enc Tryz.prog w base sp held m 3 (([v0,v1,v2,v3,v4,v5].drop 2).take (Tryz.prog.cellsOf 3))=ys[2]? := hf 2 _ rfl
    rw [Kz] at h2
    simp only [List.drop_succ_cons,List.drop_zero,List.take_succ_cons,List.take_zero] at h2
    have h3:DataW.trod enc Tryz.prog w base sp held m 24 (([v0,v1,v2,v3,v4,v5].drop 3).take (Tryz.prog.cellsOf 24))=ys[3]? := hf 3 _ rfl
    rw [zcells_ints] at h3
    simp only [List.drop_succ_cons,List.drop_zero,List.take_succ_cons,List.take_zero] at h3
    have h4:DataW.trod enc Tryz.prog w base sp held m 24 (([v0,v1,v2,v3,v4,v5].drop 4).take (Tryz.prog.cellsOf 24))=ys[4]? := hf 4 _ rfl
    rw [zcells_ints] at h4
    simp only [List.drop_succ_cons,List.drop_zero,List.take_succ_cons,List.take_zero] at h4
    have h5:DataW.trod enc Tryz.prog w base sp held m 3 (([v0,v1,v2,v3,v4,v5].drop 5).take (Tryz.prog.cellsOf 3))=ys[5]? := hf 5 _ rfl
    rw [Kz] at h5
    simp only [List.drop_succ_cons,List.drop_zero,List.take_succ_cons,List.take_zero] at h5
    have hx:∀ i,i<6→∃ y,ys[i]? = some y:=fun i hi=>⟨ys[i]'(by simp at *;omega),List.getElem?_eq_getElem _⟩
    obtain ⟨y0,e0⟩:=hx 0 (by omega)
    rw [e0] at h0
    obtain ⟨xs0,q0⟩:=Yk Tryz.underlying24 Tryz.underlying3 Kz h0
    obtain ⟨y1,e1⟩:=hx 1 (by omega)
    rw [e1] at h1
    obtain ⟨xs1,q1⟩:=Yk Tryz.underlying24 Tryz.underlying3 Kz h1
    obtain ⟨y2,e2⟩:=hx 2 (by omega)
    rw [e2] at h2
    obtain ⟨c2,rfl,q2⟩:=zint_of_trod h2
    obtain ⟨y3,e3⟩:=hx 3 (by omega)
    rw [e3] at h3
    obtain ⟨xs3,q3⟩:=Yk Tryz.underlying24 Tryz.underlying3 Kz h3
    obtain ⟨y4,e4⟩:=hx 4 (by omega)
    rw [e4] at h4
    obtain ⟨xs4,q4⟩:=Yk Tryz.underlying24 Tryz.underlying3 Kz h4
    obtain ⟨y5,e5⟩:=hx 5 (by omega)
    rw [e5] at h5
    obtain ⟨c5,rfl,q5⟩:=zint_of_trod h5
    exact ⟨v0,xs0,v1,xs1,c2,v3,xs3,v4,xs4,c5,rfl,q0,q1,q2,q3,q4,q5⟩
theorem cells_at:Tryz.prog.cellsOf 33=19:=by kernel_rfl
def IsAt (w:World) (v:Value) (q:Fm) (n t f:Int) (c:Cf):Prop :=
  ∃ fs cs:List Value,v = .agg (fs++([Value.int .i64 n,Value.int .i64 t,Value.int .i64 f]++cs)).toArray∧IsFam 0 w (.agg fs.toArray) q∧IsCf 0 w (.agg cs.toArray) c
set_option maxRecDepth 100000 in
theorem at_of_trod {H:Type} {enc:TypeId × Value→H} {w:World} {base:Nat} {sp:Nat→Bool} {n:Nat} {cs:List Value} {x:DataW H × List MemPlace} (h:DataW.trod enc Tryz.prog w base sp true n 33 cs=some x) :
    ∃ q a b d c,IsAt w (.agg cs.toArray) q a b d c:=by
  obtain ⟨ys,m,_,_,hlen,_,hf⟩:=DataW.trod_struct Tryz.underlying33 h
  rw [cells_at] at hlen
  have h0:DataW.trod enc Tryz.prog w base sp true m 27 ((cs.drop 0).take (Tryz.prog.cellsOf 27))=ys[0]? := hf 0 _ rfl
  rw [cells_famE] at h0
  have h1:DataW.trod enc Tryz.prog w base sp true m 29 ((cs.drop 10).take (Tryz.prog.cellsOf 29))=ys[1]? := hf 1 _ rfl
  rw [cells_size] at h1
  have h2:DataW.trod enc Tryz.prog w base sp true m 31 ((cs.drop 13).take (Tryz.prog.cellsOf 31))=ys[2]? := hf 2 _ rfl
  rw [cells_cfg] at h2
  have hx:∀ i,i<3→∃ y,ys[i]? = some y:=fun i hi=>⟨ys[i]'(by simp at *;omega),List.getElem?_eq_getElem _⟩
  obtain ⟨y0,e0⟩:=hx 0 (by omega)
  rw [e0] at h0
  obtain ⟨v,q,rfl,hq⟩:=fam_of_trod h0
  obtain ⟨y1,e1⟩:=hx 1 (by omega)
  rw [e1] at h1
  obtain ⟨c0,c1,c2,s1,_,_,_⟩:=size_of_trod h1
  obtain ⟨y2,e2⟩:=hx 2 (by omega)
  rw [e2] at h2
  obtain ⟨u0,xs0,u1,xs1,g2,u3,xs3,u4,xs4,g5,s2,q0,q1,q2,q3,q4,q5⟩:=cfg_of_trod h2
  refine ⟨q,c0,c1,c2,⟨xs0,xs1,g2,xs3,xs4,g5⟩,cs.take 10,(cs.drop 13).take 6,?_,?_,?_⟩
  · rw [← s1]
    have d:(cs.drop 13).take 6=cs.drop 13:=List.take_of_length_le (by rw [List.length_drop,hlen];decide)
    rw [d,show cs.drop 13=(cs.drop 10).drop 3 by rw [List.drop_drop],List.take_append_drop,List.take_append_drop]
  · simpa using hq
  exact ⟨u0,u1,u3,u4,by rw [s2],q0,q1,q2,q3,q4,q5⟩
set_option maxRecDepth 100000 in
theorem arg_at {H:Type} {enc:TypeId × Value→H} {w:World} {r:Reach} {b0:Nat} {v:Value} {d:DataW H} {p:List MemPlace} (hv:Value.okWide Tryz.prog w r b0 33 v) (h:DataW.Trod enc Tryz.prog w 0 (fun _=>true) true 33 v d p) :
    ∃ q a b d c,IsAt w v q a b d c:=by
  obtain ⟨cs,rfl,_⟩:=okWide_struct Tryz.underlying33 hv
  obtain ⟨fuel,hf⟩:=h
  obtain ⟨q,a,b,d,c,hq⟩:=at_of_trod hf
  exact ⟨q,a,b,d,c,by simpa [Value.cells] using hq⟩
end Go.Proofs.YtmobmhgobpipkaaGreat
namespace Go.Proofs.YtmobmhgobpipkaaGreat
open Go.RowKit Go.Deep
set_option maxHeartbeats 12800000
def wideCf (q:Cf):Bool:=decide (100<q.sh.length)||decide (100<q.st.length)||decide (100<q.se.length)||decide (100<q.fa.length)
theorem Wide_any {lo:Nat} {w:World} {v:Value} {q:Cf} (h:IsCf lo w v q) :
    Calls Tryz.prog 8 #[v] w fun e w'=>e = .returned (.bool (wideCf q))∧Below w.heap.size w w':=by
  obtain ⟨u0,u1,u3,u4,rfl,h0,h1,_,h3,h4,_⟩:=h
  have E:Hid (wideCf q=(decide (100<q.sh.length)||decide (100<q.st.length)||decide (100<q.se.length)||decide (100<q.fa.length))):=(rfl:wideCf q=_)
  have l0:q.sh.length≤9223372036854775807:=by obtain ⟨_,_,_,hh,hm,_⟩:=h0;unfold maxLen at hm;omega
  obtain ⟨a0,c0,rfl⟩:=h0.shape
  have l1:q.st.length≤9223372036854775807:=by obtain ⟨_,_,_,hh,hm,_⟩:=h1;unfold maxLen at hm;omega
  obtain ⟨a1,c1,rfl⟩:=h1.shape
  have l3:q.se.length≤9223372036854775807:=by obtain ⟨_,_,_,hh,hm,_⟩:=h3;unfold maxLen at hm;omega
  obtain ⟨a3,c3,rfl⟩:=h3.shape
  have l4:q.fa.length≤9223372036854775807:=by obtain ⟨_,_,_,hh,hm,_⟩:=h4;unfold maxLen at hm;omega
  obtain ⟨a4,c4,rfl⟩:=h4.shape
  clear h0 h1 h3 h4
  by_cases t0:100<q.sh.length
  · have i0:(100:Int)<((q.sh.length:Nat):Int):=by omega
    go_enter Tryz.func8,Tryz.ntmps8
    go_wp2_with fail
    go_ret
    exact ⟨Zo (by rw [E.out,decide_eq_true t0];simp),Zg _ _⟩
  have i0:¬ (100:Int)<((q.sh.length:Nat):Int):=by omega
  by_cases t1:100<q.st.length
  · have i1:(100:Int)<((q.st.length:Nat):Int):=by omega
    go_enter Tryz.func8,Tryz.ntmps8
    go_wp2_with fail
    go_ret
    exact ⟨Zo (by rw [E.out,decide_eq_true t1];simp),Zg _ _⟩
  have i1:¬ (100:Int)<((q.st.length:Nat):Int):=by omega
  by_cases t3:100<q.se.length
  · have i3:(100:Int)<((q.se.length:Nat):Int):=by omega
    go_enter Tryz.func8,Tryz.ntmps8
    go_wp2_with fail
    go_ret
    exact ⟨Zo (by rw [E.out,decide_eq_true t3];simp),Zg _ _⟩
  have i3:¬ (100:Int)<((q.se.length:Nat):Int):=by omega
  by_cases t4:100<q.fa.length
  · have i4:(100:Int)<((q.fa.length:Nat):Int):=by omega
    go_enter Tryz.func8,Tryz.ntmps8
    go_wp2_with fail
    go_ret
    exact ⟨Zo (by rw [E.out,decide_eq_true t4];simp),Zg _ _⟩
  have i4:¬ (100:Int)<((q.fa.length:Nat):Int):=by omega
  go_enter Tryz.func8,Tryz.ntmps8
  go_wp2_with fail
  go_ret
  exact ⟨Zo (by rw [E.out,decide_eq_false t0,decide_eq_false t1,decide_eq_false t3,decide_eq_false t4];simp),Zg _ _⟩
end Go.Proofs.YtmobmhgobpipkaaGreat
namespace Go.Proofs.YtmobmhgobpipkaaGreat
end Go.Proofs.YtmobmhgobpipkaaGreat
namespace Go.Proofs.YtmobmhgobpipkaaGreat
open Go.RowKit Go.Deep
namespace Rd
section
variable {J:World→Prop} {F ok:Nat→Prop} {w:World} {lo:Nat}
structure CgIn (c:Cf):Prop where
  sh:InOk c.sh
  st:InOk c.st
  se:InOk c.se
  fa:InOk c.fa
  cor:I64 c.cor
  val:I64 c.val
theorem cf_in {v:Value} {c:Cf} (h:IsCf lo w v c):CgIn c:=by
  obtain ⟨_,_,_,_,_,h0,h1,h2,h3,h4,h5⟩:=h
  exact ⟨h0.ok,h1.ok,h3.ok,h4.ok,h2,h5⟩
theorem cf_pu (hok:∀ b,lo≤b→b<w.heap.size→ok b) {v:Value} {c:Cf} (h:IsCf lo w v c):Pu F w ok (.agg (cCg c)) v:=by
  obtain ⟨u0,u1,u3,u4,rfl,h0,h1,_,h3,h4,_⟩:=h
  refine .agg rfl fun j hj => ?_
  match j,hj with
  | 0,_=>exact YF hok h0
  | 1,_=>exact YF hok h1
  | 2,_=>exact .v _
  | 3,_=>exact YF hok h3
  | 4,_=>exact YF hok h4
  | 5,_=>exact .v _
theorem cf_of {v:Value} {c:Cf} (H:CgIn c) (h:Pu F w ok (.agg (cCg c)) v):IsCf 0 w v c:=by
  obtain ⟨vs,rfl,hl,hv⟩:=Y3 h
  match vs,hl,hv with
  | [v0,v1,v2,v3,v4,v5],_,hv =>
    have e2:=(hv 2 (by simp [cCg])).v_inv
    have e5:=(hv 5 (by simp [cCg])).v_inv
    simp only [List.getD_cons_succ,List.getD_cons_zero] at e2 e5
    subst e2 e5
    exact ⟨v0,v1,v3,v4,rfl,YV H.sh (fun _ _=>Nat.zero_le _) (hv 0 (by simp [cCg])),YV H.st (fun _ _=>Nat.zero_le _) (hv 1 (by simp [cCg])),H.cor,YV H.se (fun _ _=>Nat.zero_le _) (hv 3 (by simp [cCg])),YV H.fa (fun _ _=>Nat.zero_le _) (hv 4 (by simp [cCg])),H.val⟩
theorem agg_app {cs ds:List AV} {us vs:List Value} (h1:Pu F w ok (.agg cs) (.agg us.toArray)) (h2:Pu F w ok (.agg ds) (.agg vs.toArray)):Pu F w ok (.agg (cs++ds)) (.agg (us++vs).toArray):=by
  obtain ⟨us',e1,l1,p1⟩:=Y3 h1
  obtain ⟨vs',e2,l2,p2⟩:=Y3 h2
  obtain rfl:us=us':=by simpa using e1
  obtain rfl:vs=vs':=by simpa using e2
  refine .agg (by simp [l1,l2]) fun j hj => ?_
  by_cases hj':j<cs.length
  · rw [List.getElem_append_left hj']
    have:=p1 j hj'
    simpa [Array.getD_eq_getD_getElem?,List.getD_eq_getElem?_getD,List.getElem?_append_left (show j<us.length by omega)] using this
  rw [List.getElem_append_right (by omega)]
  have:=p2 (j-cs.length) (by simp at hj;omega)
  simpa [Array.getD_eq_getD_getElem?,List.getD_eq_getElem?_getD,List.getElem?_append_right (show us.length≤j by omega),l1] using this
theorem at_pu {v:Value} {q:Fm} {n t f:Int} {c:Cf} (h:IsAt w v q n t f c):Pu (fun _=>True) w (fun b=>b<w.heap.size) (.agg (cFm q++(cSz n t f++cCg c))) v:=by
  obtain ⟨fs,cs,rfl,hF,hC⟩:=h
  refine agg_app (famw hF) (agg_app (.agg rfl fun j hj => ?_) (cf_pu (fun _ _ h=>h) hC))
  match j,hj with
  | 0,_=>exact .v _
  | 1,_=>exact .v _
  | 2,_=>exact .v _
theorem Wide_c {c:Cf} (H:CgIn c):Ctr Tryz.prog J 8 [.agg (cCg c)] (bv (wideCf c)):=ctr1 fun w v _ h=>(Wide_any (cf_of H h)).mono fun _ _=>ret_sc
theorem cg_ok {c:Cf} (H:CgIn c) (h:wideCf c=false):CgOk c:=by
  unfold wideCf at h
  simp only [Bool.or_eq_false_iff,decide_eq_false_iff_not] at h
  exact ⟨H.sh,H.st,H.se,H.fa,by omega,by omega,by omega,by omega⟩
end
end Rd
variable {J:World→Prop}
set_option maxRecDepth 100000 in
set_option maxHeartbeats 6400000 in
theorem lawUnfoldForces_c {p:Fm} (HP:FmOk p) {n t f:Int} {c:Cf} (HI:Rd.CgIn c) {x y:Int}:Ctr Tryz.prog J 4 [.agg (cFm p++(cSz n t f++Rd.cCg c)),iv x,iv y] bT:=by
 refine Zw Tryz.func4 rfl (by intro X hX;simp only [List.mem_cons,List.not_mem_nil,or_false] at hX;rcases hX with rfl | rfl | rfl;exact Zq (fun X hX=>by rcases List.mem_append.1 hX with h | h;exact Z9 p X h;rcases List.mem_append.1 h with h | h;exact Yi n t f X h;exact Rd.plain_cg c X h);exact .v _;exact .v _) (n:=55) rfl (by simp) (fun w0 => ?_)
 refine kW 55 [] [(0,.agg (cFm p++(cSz n t f++Rd.cCg c))),(1,iv x),(2,iv y)] (Zb (Za (ZM rfl (ZT (X := .agg (cFm p++(cSz n t f++Rd.cCg c))) (k:=1) (.tmp 0) rfl rfl) ⟨I0,T0⟩ T0 rfl (pM (aC (.bool false)) (Zd (Zc (Zb (Zb ?_))))))))
 by_cases hs1:(bigF p)=true
 refine Za (oA (fb 0 3 U33 10) I0 (oB (lS (cFm p) 10 11 U27) I0 rfl (oC (sc #[.tmp 12] [] (ZA (Big_c HP) hs1) [.agg (cFm p)] rfl rfl rfl) I0 I0 (pM (mT 13 bT) (qK (qK (qK (pP (pk true bT (.v (.tuple #[])) rfl) (Zd (Zc (Zm rfl (Zb (Za (oA (sc #[] [] Sh.zknown_c [] rfl rfl rfl) I0 (pM (aT 19 bT) (Zd (Zc (Zl (Zf ?_)))))))))))))))))))
 refine Zh Tryz.results4 (.tmp rfl) ?_
 exact rfl
 have hs1f:(bigF p)=false:=by simpa using hs1
 by_cases hs2:(wideCf c)=true
 refine Za (oA (fb 0 3 U33 10) I0 (oB (lS (cFm p) 10 11 U27) I0 rfl (oC (sc #[.tmp 12] [] (ZA (Big_c HP) hs1f) [.agg (cFm p)] rfl rfl rfl) I0 I0 (pM (mT 13 bF) (gA (fb 13 3 U33 6) I0 (gB (lS (Rd.cCg c) 6 15 U31) I0 rfl (gC (sc #[.tmp 16] [] (ZA (Rd.Wide_c HI) hs2) [.agg (Rd.cCg c)] rfl rfl rfl) I0 I0 (pP (pk false bT bT rfl) (Zd (Zc (Zm rfl (Zb (Za (oA (sc #[] [] Sh.zknown_c [] rfl rfl rfl) I0 (pM (aT 19 bT) (Zd (Zc (Zl (Zf ?_)))))))))))))))))))
 refine Zh Tryz.results4 (.tmp rfl) ?_
 exact rfl
 have hs2f:(wideCf c)=false:=by simpa using hs2
 refine Za (oA (fb 0 3 U33 10) I0 (oB (lS (cFm p) 10 11 U27) I0 rfl (oC (sc #[.tmp 12] [] (ZA (Big_c HP) hs1f) [.agg (cFm p)] rfl rfl rfl) I0 I0 (pM (mT 13 bF) (gA (fb 13 3 U33 6) I0 (gB (lS (Rd.cCg c) 6 15 U31) I0 rfl (gC (sc #[.tmp 16] [] (ZA (Rd.Wide_c HI) hs2f) [.agg (Rd.cCg c)] rfl rfl rfl) I0 I0 (pP (pk false bT bF rfl) (Zd (Zc (Zn rfl (Zi (Zc (Zb (Za (oA (fb 0 3 U33 10) I0 (oB (lS (cFm p) 10 21 U27) I0 rfl (oA (fb 10 3 U33 3) I0 (oB (lS (cSz n t f) 3 23 U29) I0 rfl (oA (fb 13 3 U33 6) I0 (oB (lS (Rd.cCg c) 6 25 U31) I0 rfl (pM (mT 1 (iv x)) (pM (mT 2 (iv y)) ?_)))))))))))))))))))))))
 refine ZM rfl (sc #[.tmp 22,.tmp 24,.tmp 26,.tmp 27,.tmp 28] [] (Forced_c HP (famLen hs1f) (Rd.cg_ok HI hs2f)) [.agg (cFm p),.agg (cSz n t f),.agg (Rd.cCg c),iv x,iv y] rfl rfl rfl) ⟨I0,I0,I0,I0,I0,I0,T0⟩ T0 T0 (pM (mT 29 (.tup [bv (En.faR p n t f c x y),iv (Rd.vcE p n t f c)])) (oA (ZQ (X:=bv (En.faR p n t f c x y)) (.tmp 20) rfl rfl) I0 (oA (ZQ (X:=iv (Rd.vcE p n t f c)) (.tmp 20) rfl rfl) I0 (pM (aT 30 (bv (En.faR p n t f c x y))) (pM (aT 31 (iv (Rd.vcE p n t f c))) (Zd (Zc (Zb (Za (oA (fb 0 3 U33 10) I0 (oB (lS (cFm p) 10 33 U27) I0 rfl (oA (fb 10 3 U33 3) I0 (oB (lS (cSz n t f) 3 35 U29) I0 rfl (oA (fb 13 3 U33 6) I0 (oB (lS (Rd.cCg c) 6 37 U31) I0 rfl (pM (mT 1 (iv x)) (pM (mT 2 (iv y)) (ZM rfl (sc #[.tmp 34,.tmp 36,.tmp 38,.tmp 39,.tmp 40] [] (rForced_c HP (famLen hs1f) (Rd.cg_ok HI hs2f)) [.agg (cFm p),.agg (cSz n t f),.agg (Rd.cCg c),iv x,iv y] rfl rfl rfl) ⟨I0,I0,I0,I0,I0,I0,T0⟩ T0 T0 (pM (mT 41 (.tup [bv (En.faR p n t f c x y),iv (Rd.vcE p n t f c)])) (oA (ZQ (X:=bv (En.faR p n t f c x y)) (.tmp 32) rfl rfl) I0 (oA (ZQ (X:=iv (Rd.vcE p n t f c)) (.tmp 32) rfl rfl) I0 (pM (aT 42 (bv (En.faR p n t f c x y))) (pM (aT 43 (iv (Rd.vcE p n t f c))) ?_)))))))))))))))))))))))
 refine Zd (Zc (Zb (Za (pM (mT 7 (bv (En.faR p n t f c x y))) (pM (mT 9 (bv (En.faR p n t f c x y))) (oC (sp_beql rfl U4 (beq_self_eq_true _)) I0 I0 (pM (mT 46 bT) (qM (mT 8 (iv (Rd.vcE p n t f c))) (qM (mT 10 (iv (Rd.vcE p n t f c))) (gC (Zp rfl (dT rfl)) I0 I0 (pP (pk true bT bF rfl) (pM (mT 51 bT) (gA (sc #[] [] Sh.zknown_c [] rfl rfl rfl) I0 (pP (pk true bT bF rfl) (pM (aT 54 bT) (Zd (Zc (Zl ?_))))))))))))))))))
 refine Zh Tryz.results4 (.tmp rfl) ?_
 exact rfl
theorem walk_UnfoldForces {v:Value} {p:Fm} {n t f:Int} {c:Cf} {x y:Int} (w:World) (h:IsAt w v p n t f c) (_:I64 x) (_:I64 y) :
    Calls Tryz.prog 4 #[v,.int .i64 x,.int .i64 y] w fun e w'=>e = .returned (.bool true)∧Below w.heap.size w w':=by
  have hp:=Rd.at_pu h
  obtain ⟨fs,cs,_,hF,hC⟩:=h
  exact (lawUnfoldForces_c (J:=fun _=>True) hF.ok (Rd.cf_in hC) w #[v,.int .i64 x,.int .i64 y] (fun _ _=>T0) rfl fun j hj=>(match j,hj with
    | 0,_=>hp
    | 1,_ => .v _
    | 2,_ => .v _)).mono fun _ _ ⟨_,he,hp,hb⟩=>⟨by rw [he,hp.v_inv],hb⟩
end Go.Proofs.YtmobmhgobpipkaaGreat
