import Derived.Test.YtengacodacejiaaProg
import Derived.ChangeArms
import Derived.Test.YtengacodacejiaaGrpdladfmom
import Derived.Test.YtengacodacejiaaGrpflkjneac
import Derived.Test.YtengacodacejiaaGrpjicnfjoo
import Derived.Test.YtengacodacejiaaGrpnckbmimh
import Derived.Test.YtengacodacejiaaGrpmdopolij
import Derived.Test.YtengacodacejiaaGrppdihiibb
import Derived.Test.YtengacodacejiaaGrpjmplmpld
import Derived.Test.YtengacodacejiaaGrplhllodke
set_option linter.all false
namespace Go.Proofs.Ytengacodacejiaa
open Go.RowKit Go.Deep
variable {J:World→Prop}
set_option maxRecDepth 100000 in
set_option maxHeartbeats 6400000 in
theorem localH_c {p:Fm} {n t f:Int} {c:Cf} (hn:(Ns.cntE p n f)=((c.st.length:Nat):Int)) (l8:c.st.length≤8) {sx:Int} {r:Nat} (hr:r<p.rules.length) {i:Nat} (hi:i<c.st.length) {kp:Int} {g:Nat→Int} (hg:∀ m,0≤g m∧g m≤3000000) (h8:p.rules.length≤8) (h3:p.msgs.length≤3) (hg2:p.rules[r].guards.length≤2) (hgd:∀ q∈p.rules[r].guards,0≤q.msg∧q.msg<p.msgs.length∧1≤q.coef∧q.coef≤100) (le:p.rules[r].ex.length≤9223372036854775807) (lf:p.rules[r].fa.length≤9223372036854775807):Ctr Try.prog J 48 [.el (En.sysP p n t f) 0,.agg (En.cfV sx c),.agg [iv r,iv i,iv kp],.agg (En.msA g)] (bv (En.loB n t f c p.rules[r] g i)):=by
 refine ZJ Try.func48 rfl (by intro X hX;simp only [List.mem_cons,List.not_mem_nil,or_false] at hX;rcases hX with rfl | rfl | rfl | rfl;exact (show Plain (.el (En.sysP p n t f) 0) from .el (Z6 (En.plain_sysP p n t f)));exact Zt (En.plain_cfV _ c);exact Zt (fun X hX=>by simp only [List.mem_cons,List.not_mem_nil,or_false] at hX;rcases hX with rfl | rfl | rfl<;>exact .v _);exact Zt (En.plain_msA _)) (n:=113) rfl (by simp) (fun w0 => ?_)
 refine kW 113 [] [(0,.el (En.sysP p n t f) 0),(1,.agg (En.cfV sx c)),(2,.agg [iv r,iv i,iv kp]),(3,.agg (En.msA g))] (Zb (Za (oA (Yi (X := .agg (En.cfV sx c)) (.tmp 1) rfl rfl rfl) I0 (oA (Yi (X := .agg [iv r,iv i,iv kp]) (.tmp 2) rfl rfl rfl) I0 (oA (Yi (X := .agg (En.msA g)) (.tmp 3) rfl rfl rfl) I0 (pM (aC (.bool false)) (Ze (Zc (Zb ?_)))))))))
 refine Zu (dM (mT 0 (.el (En.sysP p n t f) 0)) (dA (Zx (off:=0) (.tmp 15) rfl) I0 (dA (fe 0 16 U111 10) I0 (dA (fe 9 17 U27 1) I0 (dA (lE (slA 18 cRu p.rules) 18 U25) I0 (dA (fe 0 6 U35 1) I0 (dA (lE (iv r) 20 U3) I0 (dC (xS (r*18) 19 21 U25) I0 I0 (dM (aT 22 (.el (p.rules.flatMap cRu) (r*18))) (dE ?_)))))))))) (by kernel_rfl)
 show ETri J w0 _ _ _
 refine kW 113 [] [(0,.el (En.sysP p n t f) 0),(5,.el (En.cfV sx c) 0),(6,.el ([iv r,iv i,iv kp]) 0),(7,.el (En.msA g) 0),(8,bF),(9,.el (p.rules.flatMap cRu) (r*18))] (Zc (Zb (Zb ?_)))
 refine Y6 (True) (ofL []) (ofT 113 [(0,.el (En.sysP p n t f) 0),(5,.el (En.cfV sx c) 0),(6,.el ([iv r,iv i,iv kp]) 0),(7,.el (En.msA g) 0),(8,bF),(9,.el (p.rules.flatMap cRu) (r*18)),(36,bv (En.rdN c p.rules[r]))]) ?_ (fun _ => ?_)
 by_cases hs1:0≤p.rules[r].rd
 by_cases hs2:c.val=p.rules[r].rd
 refine Zu (dM (mT 9 (.el (p.rules.flatMap cRu) (r*18))) (dA (Zx (off:=r*18) (.tmp 23) rfl) I0 (dA (fe (r*18+10) 24 U65 1) I0 (dA (lE (iv p.rules[r].rd) 25 U3 ((ZA lenRu p.rules r 10 (by omega) (by decide)).trans rfl)) I0 (dC (YL rfl (dT hs1)) I0 I0 (dM (mT 27 bT) (dA (fe 15 5 U78 1) I0 (dA (lE (iv c.val) 29 U3) I0 (dM (mT 9 (.el (p.rules.flatMap cRu) (r*18))) (dA (Zx (off:=r*18) (.tmp 31) rfl) I0 (dA (fe (r*18+10) 32 U65 1) I0 (dA (lE (iv p.rules[r].rd) 33 U3 ((ZA lenRu p.rules r 10 (by omega) (by decide)).trans rfl)) I0 (dC (Zs rfl (dT' hs2)) I0 I0 (dP (pk true bF bF rfl) (dE ?_))))))))))))))) (by kernel_rfl)
 show ETri J w0 _ _ _
 refine kW 113 [] [(0,.el (En.sysP p n t f) 0),(5,.el (En.cfV sx c) 0),(6,.el ([iv r,iv i,iv kp]) 0),(7,.el (En.msA g) 0),(8,bF),(9,.el (p.rules.flatMap cRu) (r*18)),(36,bF)] ?_
 rw [show (En.rdN c p.rules[r])=false by unfold En.rdN;simp only [dT hs1,dT hs2,decide_true,decide_false,Bool.and_true,Bool.true_and,Bool.false_and,Bool.and_false,Bool.true_or,Bool.false_or,Bool.or_true,Bool.or_false,Bool.not_true,Bool.not_false]]
 exact Zr T0 (Zj [] _ rfl (by kernel_rfl) (by kernel_rfl))
 refine Zu (dM (mT 9 (.el (p.rules.flatMap cRu) (r*18))) (dA (Zx (off:=r*18) (.tmp 23) rfl) I0 (dA (fe (r*18+10) 24 U65 1) I0 (dA (lE (iv p.rules[r].rd) 25 U3 ((ZA lenRu p.rules r 10 (by omega) (by decide)).trans rfl)) I0 (dC (YL rfl (dT hs1)) I0 I0 (dM (mT 27 bT) (dA (fe 15 5 U78 1) I0 (dA (lE (iv c.val) 29 U3) I0 (dM (mT 9 (.el (p.rules.flatMap cRu) (r*18))) (dA (Zx (off:=r*18) (.tmp 31) rfl) I0 (dA (fe (r*18+10) 32 U65 1) I0 (dA (lE (iv p.rules[r].rd) 33 U3 ((ZA lenRu p.rules r 10 (by omega) (by decide)).trans rfl)) I0 (dC (Zs rfl (dF' hs2)) I0 I0 (dP (pk true bT bF rfl) (dE ?_))))))))))))))) (by kernel_rfl)
 show ETri J w0 _ _ _
 refine kW 113 [] [(0,.el (En.sysP p n t f) 0),(5,.el (En.cfV sx c) 0),(6,.el ([iv r,iv i,iv kp]) 0),(7,.el (En.msA g) 0),(8,bF),(9,.el (p.rules.flatMap cRu) (r*18)),(36,bT)] ?_
 rw [show (En.rdN c p.rules[r])=true by unfold En.rdN;simp only [dT hs1,dF hs2,decide_true,decide_false,Bool.and_true,Bool.true_and,Bool.false_and,Bool.and_false,Bool.true_or,Bool.false_or,Bool.or_true,Bool.or_false,Bool.not_true,Bool.not_false]]
 exact Zr T0 (Zj [] _ rfl (by kernel_rfl) (by kernel_rfl))
 refine Zu (dM (mT 9 (.el (p.rules.flatMap cRu) (r*18))) (dA (Zx (off:=r*18) (.tmp 23) rfl) I0 (dA (fe (r*18+10) 24 U65 1) I0 (dA (lE (iv p.rules[r].rd) 25 U3 ((ZA lenRu p.rules r 10 (by omega) (by decide)).trans rfl)) I0 (dC (YL rfl (dF hs1)) I0 I0 (dM (mT 27 bF) (dK (dK (dK (dK (dK (dK (dK (dP (pk false (.v (.tuple #[])) bF rfl) (dE ?_))))))))))))))) (by kernel_rfl)
 show ETri J w0 _ _ _
 refine kW 113 [] [(0,.el (En.sysP p n t f) 0),(5,.el (En.cfV sx c) 0),(6,.el ([iv r,iv i,iv kp]) 0),(7,.el (En.msA g) 0),(8,bF),(9,.el (p.rules.flatMap cRu) (r*18)),(36,bF)] ?_
 rw [show (En.rdN c p.rules[r])=false by unfold En.rdN;simp only [dF hs1,decide_true,decide_false,Bool.and_true,Bool.true_and,Bool.false_and,Bool.and_false,Bool.true_or,Bool.false_or,Bool.or_true,Bool.or_false,Bool.not_true,Bool.not_false]]
 exact Zr T0 (Zj [] _ rfl (by kernel_rfl) (by kernel_rfl))
 refine Zc ?_
 by_cases hs3:(En.rdN c p.rules[r])=true
 rw [hs3]
 refine kW 113 [] [(0,.el (En.sysP p n t f) 0),(5,.el (En.cfV sx c) 0),(6,.el ([iv r,iv i,iv kp]) 0),(7,.el (En.msA g) 0),(8,bF),(9,.el (p.rules.flatMap cRu) (r*18)),(36,bT)] (Zm rfl (Zb (Za (pM (aC (.bool false)) (Ze (Zc (Zk (Zh ?_))))))))
 refine Zl Try.results48 (.tmp rfl) ?_
 exact congrArg (fun x:Bool=>AV.v (.bool x)) ((En.lo_rd hs3).symm)
 have hs3f:(En.rdN c p.rules[r])=false:=by simpa using hs3
 rw [hs3f]
 refine kW 113 [] [(0,.el (En.sysP p n t f) 0),(5,.el (En.cfV sx c) 0),(6,.el ([iv r,iv i,iv kp]) 0),(7,.el (En.msA g) 0),(8,bF),(9,.el (p.rules.flatMap cRu) (r*18)),(36,bF)] (Zo rfl (Zn (Zc (Zb (Zb (Za (pM (mT 9 (.el (p.rules.flatMap cRu) (r*18))) (oA (Zx (off:=r*18) (.tmp 37) rfl) I0 (oA (fe (r*18+7) 38 U65 1) I0 (oA (lE (slA 6 cTh p.rules[r].guards) 39 U63 ((ZA lenRu p.rules r 7 (by omega) (by decide)).trans rfl)) I0 (oA (nS 40 U63) I0 (pM (Ki (.const (.int .i64 0)) (iv 0) rfl) (kN 113 [] [(0,.el (En.sysP p n t f) 0),(5,.el (En.cfV sx c) 0),(6,.el ([iv r,iv i,iv kp]) 0),(7,.el (En.msA g) 0),(8,bF),(9,.el (p.rules.flatMap cRu) (r*18)),(40,slA 6 cTh p.rules[r].guards),(41,iv (p.rules[r].guards.length:Nat)),(42,iv 0)] (Zc (ZE ?_)))))))))))))))
 refine Yp (σ:={k:Nat // k≤p.rules[r].guards.length∧Rd.noP p.rules[r].guards (En.gdN n t f g) k}) (fun s=>(ofL [],ofT 113 [(0,.el (En.sysP p n t f) 0),(5,.el (En.cfV sx c) 0),(6,.el ([iv r,iv i,iv kp]) 0),(7,.el (En.msA g) 0),(9,.el (p.rules.flatMap cRu) (r*18)),(40,slA 6 cTh p.rules[r].guards),(41,iv (p.rules[r].guards.length:Nat)),(42,iv s.1)])) (fun s=>p.rules[r].guards.length-s.1) ⟨0,Nat.zero_le _,Rd.noP_zero _ _⟩ (Zj [] _ rfl (by kernel_rfl) (by kernel_rfl)) (fun s => ?_)
 obtain ⟨k,hk0,hs0⟩:=s
 show ETri J w0 (ofL []) (ofT 113 [(0,.el (En.sysP p n t f) 0),(5,.el (En.cfV sx c) 0),(6,.el ([iv r,iv i,iv kp]) 0),(7,.el (En.msA g) 0),(9,.el (p.rules.flatMap cRu) (r*18)),(40,slA 6 cTh p.rules[r].guards),(41,iv (p.rules[r].guards.length:Nat)),(42,iv k)]) _
 refine Zb ?_
 by_cases hs4:((k:Nat):Int)<((p.rules[r].guards.length:Nat):Int)
 have hk1:k<p.rules[r].guards.length:=by omega
 have hgk:=hgd _ (List.getElem_mem hk1)
 have hgb:=hg p.rules[r].guards[k].msg.toNat
 refine Za (oC (Z5 rfl (dT hs4)) I0 I0 (Ze (Zc (Zb (Zm rfl (Zn (Zc (Zb (ZE (Zb (Za (pM (mT 42 (iv k)) (oC (xS (k*6) 40 42 U63) I0 I0 (oA (ZF (z:=6) (.tmp 45) rfl U128 rfl (by kernel_rfl) (Kh lenTh p.rules[r].guards k (by omega)) rfl) I0 (ZQ rfl (Z0 (z := .agg #[.int .i64 0,.int .i64 0,.int .i64 0,.int .i64 0,.int .i64 0,.int .i64 0]) (k:=1) rfl (by kernel_rfl)) T0 T0 rfl (pM (aT 44 (iv k)) (ZQ rfl (sB 6 11 (.tmp 46) (.agg (cTh p.rules[r].guards[k]))) ⟨I0,I0,T0⟩ ⟨rfl,T0⟩ rfl (Ze (Zc (Zb ?_))))))))))))))))))))
 by_cases hs5:p.rules[r].guards[k].coef*(g p.rules[r].guards[k].msg.toNat)<(En.gbV p.rules[r] n t f k)
 refine Zu (dA (fb 1 11 U128 1) I0 (dB (lb (iv p.rules[r].guards[k].coef) 47 U3) I0 rfl (dA (fb 0 11 U128 1) I0 (dB (lb (iv p.rules[r].guards[k].msg) 49 U3) I0 rfl (dC (Z9 (off':=0+p.rules[r].guards[k].msg.toNat*1) (.tmp 7) (.tmp 50) rfl U76 (by kernel_rfl) (by omega) (by omega) rfl) I0 I0 (dA (lE (iv (g p.rules[r].guards[k].msg.toNat)) 51 U3 (En.msA_get (by omega))) I0 (dC (sp_mul (c:=p.rules[r].guards[k].coef*(g p.rules[r].guards[k].msg.toNat)) rfl (En.mulW hgk.2.2.1 hgk.2.2.2 hgb.1 hgb.2)) I0 I0 (dM (mT 0 (.el (En.sysP p n t f) 0)) (dA (fe 0 6 U35 1) I0 (dA (lE (iv r) 55 U3) I0 (dM (mT 10 (iv k)) (dA (Zx (off:=0) (.tmp 54) rfl) I0 (dA (fe 15 58 U111 16) I0 (dC (Z9 (off':=15+r*2) (.tmp 59) (.tmp 56) rfl U108 (by kernel_rfl) (by omega) (by omega) rfl) I0 I0 (dC (Z9 (off':=15+r*2+k*1) (.tmp 60) (.tmp 57) rfl U107 (by kernel_rfl) (by omega) (by omega) rfl) I0 I0 (dA (lE (iv (En.gbV p.rules[r] n t f k)) 61 U3 (En.sysP_bd hr h8 hk1 hg2)) I0 (dC (Z5 rfl (dT hs5)) I0 I0 (dE ?_)))))))))))))))))) (by kernel_rfl)
 show ETri J w0 _ _ _
 refine kW 113 [(1,.box 128 (cTh p.rules[r].guards[k]))] [(0,.el (En.sysP p n t f) 0),(5,.el (En.cfV sx c) 0),(6,.el ([iv r,iv i,iv kp]) 0),(7,.el (En.msA g) 0),(9,.el (p.rules.flatMap cRu) (r*18)),(10,iv k),(11,.box 1 0),(40,slA 6 cTh p.rules[r].guards),(41,iv (p.rules[r].guards.length:Nat)),(42,iv k),(43,bT),(63,bT)] (Zc (Zm rfl (Zb (Za (pM (aC (.bool false)) (Ze (Zc (Zk (Zv (Zh (Zh (Zv (Zh ?_)))))))))))))
 refine Zl Try.results48 (.tmp rfl) ?_
 exact congrArg (fun x:Bool=>AV.v (.bool x)) ((En.lo_gd hk1 hs5).symm)
 refine Zu (dA (fb 1 11 U128 1) I0 (dB (lb (iv p.rules[r].guards[k].coef) 47 U3) I0 rfl (dA (fb 0 11 U128 1) I0 (dB (lb (iv p.rules[r].guards[k].msg) 49 U3) I0 rfl (dC (Z9 (off':=0+p.rules[r].guards[k].msg.toNat*1) (.tmp 7) (.tmp 50) rfl U76 (by kernel_rfl) (by omega) (by omega) rfl) I0 I0 (dA (lE (iv (g p.rules[r].guards[k].msg.toNat)) 51 U3 (En.msA_get (by omega))) I0 (dC (sp_mul (c:=p.rules[r].guards[k].coef*(g p.rules[r].guards[k].msg.toNat)) rfl (En.mulW hgk.2.2.1 hgk.2.2.2 hgb.1 hgb.2)) I0 I0 (dM (mT 0 (.el (En.sysP p n t f) 0)) (dA (fe 0 6 U35 1) I0 (dA (lE (iv r) 55 U3) I0 (dM (mT 10 (iv k)) (dA (Zx (off:=0) (.tmp 54) rfl) I0 (dA (fe 15 58 U111 16) I0 (dC (Z9 (off':=15+r*2) (.tmp 59) (.tmp 56) rfl U108 (by kernel_rfl) (by omega) (by omega) rfl) I0 I0 (dC (Z9 (off':=15+r*2+k*1) (.tmp 60) (.tmp 57) rfl U107 (by kernel_rfl) (by omega) (by omega) rfl) I0 I0 (dA (lE (iv (En.gbV p.rules[r] n t f k)) 61 U3 (En.sysP_bd hr h8 hk1 hg2)) I0 (dC (Z5 rfl (dF hs5)) I0 I0 (dE ?_)))))))))))))))))) (by kernel_rfl)
 show ETri J w0 _ _ _
 refine kW 113 [(1,.box 128 (cTh p.rules[r].guards[k]))] [(0,.el (En.sysP p n t f) 0),(5,.el (En.cfV sx c) 0),(6,.el ([iv r,iv i,iv kp]) 0),(7,.el (En.msA g) 0),(9,.el (p.rules.flatMap cRu) (r*18)),(10,iv k),(11,.box 1 0),(40,slA 6 cTh p.rules[r].guards),(41,iv (p.rules[r].guards.length:Nat)),(42,iv k),(43,bT),(63,bF)] (Zc (Zo rfl (Zn (ZX (Zc (Za (oC (Yj (c:=((k+1:Nat):Int)) rfl (w64 (by omega) (by omega) (by omega))) I0 I0 (pM (mT 64 (iv (k+1:Nat))) (kN 113 [(1,.box 128 (cTh p.rules[r].guards[k]))] [(0,.el (En.sysP p n t f) 0),(5,.el (En.cfV sx c) 0),(6,.el ([iv r,iv i,iv kp]) 0),(7,.el (En.msA g) 0),(9,.el (p.rules.flatMap cRu) (r*18)),(10,iv k),(11,.box 1 0),(40,slA 6 cTh p.rules[r].guards),(41,iv (p.rules[r].guards.length:Nat)),(42,iv (k+1:Nat)),(43,bT),(63,bF)] (Zc ?_))))))))))
 refine ZZ ⟨k+1,by omega,Rd.noP_succ hk1 hs0 (En.gd_no hk1 hs5)⟩ (show p.rules[r].guards.length-(k+1)<p.rules[r].guards.length-k by omega) ?_
 exact Zj [] _ rfl (by kernel_rfl) (by kernel_rfl)
 refine Za (oC (Z5 rfl (dF hs4)) I0 I0 (Ze (Zc (Zb (Zo rfl (Yn (Zy (Zy (t_hit (Zc (Zb (Za (pM (mT 9 (.el (p.rules.flatMap cRu) (r*18))) (oA (Zx (off:=r*18) (.tmp 65) rfl) I0 (oA (fe (r*18+8) 66 U65 1) I0 (oA (lE (Zd p.rules[r].ex) 67 U24 ((ZA lenRu p.rules r 8 (by omega) (by decide)).trans rfl)) I0 (oA (nS 68 U24) I0 (oC (Zp rfl rfl) I0 I0 (pM (aT 70 (bv (decide (((p.rules[r].ex.length:Nat):Int)=0)))) (Ze (Zc (Zb (Zb ?_)))))))))))))))))))))))
 refine Za (oA (fe 1 5 U78 8) I0 (pM (mT 0 (.el (En.sysP p n t f) 0)) (oA (Zx (off:=0) (.tmp 72) rfl) I0 (oA (fe 13 73 U111 1) I0 (oA (lE (iv (Ns.cntE p n f)) 74 U3) I0 (oC (sp_sliceArrEl (n:=c.st.length) (off:=1) (ds:=(c.st.map iv)) (.tmp 71) (.tmp 75) rfl U74 (by kernel_rfl) (by omega) (by kernel_rfl) (by unfold maxLen;omega) (by show _≤16;omega) (En.cfV_row l8) hn) I0 I0 (oA (nS 76 U24) I0 (pM (Ki (.const (.int .i64 0)) (iv 0) rfl) (kN 113 [] [(6,.el ([iv r,iv i,iv kp]) 0),(9,.el (p.rules.flatMap cRu) (r*18)),(12,bv (decide (((p.rules[r].ex.length:Nat):Int)=0))),(76,Zd c.st),(77,iv c.st.length),(78,iv 0)] (Zc (ZE ?_)))))))))))
 rw [← En.exU_zero (c:=c) (i:=i)]
 refine Yp (σ:={j:Nat // j≤c.st.length∧En.noF c p.rules[r] i j}) (fun s=>(ofL [],ofT 113 [(6,.el ([iv r,iv i,iv kp]) 0),(9,.el (p.rules.flatMap cRu) (r*18)),(12,bv (En.exU c p.rules[r] i s.1)),(76,Zd c.st),(77,iv c.st.length),(78,iv s.1)])) (fun s=>c.st.length-s.1) ⟨0,Nat.zero_le _,En.noF_zero⟩ (Zj [] _ rfl (by kernel_rfl) (by kernel_rfl)) (fun s => ?_)
 obtain ⟨j,hj0,hnf⟩:=s
 show ETri J w0 (ofL []) (ofT 113 [(6,.el ([iv r,iv i,iv kp]) 0),(9,.el (p.rules.flatMap cRu) (r*18)),(12,bv (En.exU c p.rules[r] i j)),(76,Zd c.st),(77,iv c.st.length),(78,iv j)]) _
 refine Zb ?_
 by_cases hs6:((j:Nat):Int)<((c.st.length:Nat):Int)
 have hj1:j<c.st.length:=by omega
 refine Za (oC (Z5 rfl (dT hs6)) I0 I0 (Ze (Zc (Zb (Zm rfl (Zn (Zc (Zb (ZE (Zb (Za (pM (mT 78 (iv j)) (oC (xS (j*1) 76 78 U24) I0 I0 (oA (lE (iv c.st[j]) 81 U3 (Kk c.st (by omega))) I0 (pM (aT 80 (iv j)) (pM (aT 82 (iv c.st[j])) (Ze (Zc (Zb (Zb ?_))))))))))))))))))))
 by_cases hs7:((j:Nat):Int)=((i:Nat):Int)
 refine Za (pM (mT 13 (iv j)) (oA (fe 1 6 U35 1) I0 (oA (lE (iv i) 84 U3) I0 (oC (Zp rfl (dT hs7)) I0 I0 (Ze (Zc (Zm rfl (Yn (Zy (t_hit (Zc (Za (oC (Yj (c:=((j+1:Nat):Int)) rfl (w64 (by omega) (by omega) (by omega))) I0 I0 (pM (mT 111 (iv (j+1:Nat))) (kN 113 [] [(6,.el ([iv r,iv i,iv kp]) 0),(9,.el (p.rules.flatMap cRu) (r*18)),(12,bv (En.exU c p.rules[r] i j)),(13,iv j),(14,iv c.st[j]),(76,Zd c.st),(77,iv c.st.length),(78,iv (j+1:Nat)),(79,bT),(86,bT)] (Zc ?_))))))))))))))))
 refine ZZ ⟨j+1,by omega,En.noF_succ hnf (En.fa_same (by omega))⟩ (show c.st.length-(j+1)<c.st.length-j by omega) ?_
 show Wk _ _ (ofL []) (ofT 113 [(6,.el ([iv r,iv i,iv kp]) 0),(9,.el (p.rules.flatMap cRu) (r*18)),(12,bv (En.exU c p.rules[r] i (j+1))),(76,Zd c.st),(77,iv c.st.length),(78,iv ((j+1):Nat))])
 rw [En.exU_same (by omega)]
 exact Zj [] _ rfl (by kernel_rfl) (by kernel_rfl)
 refine Za (pM (mT 13 (iv j)) (oA (fe 1 6 U35 1) I0 (oA (lE (iv i) 84 U3) I0 (oC (Zp rfl (dF hs7)) I0 I0 (Ze (Zc (Zo rfl (Zn (Zc (Zb (Zb ?_)))))))))))
 by_cases hs8:0<((p.rules[r].fa.length:Nat):Int)
 by_cases hs9:(decide (c.st[j]∈p.rules[r].fa))=true
 refine Za (pM (mT 9 (.el (p.rules.flatMap cRu) (r*18))) (oA (Zx (off:=r*18) (.tmp 87) rfl) I0 (oA (fe (r*18+9) 88 U65 1) I0 (oA (lE (Zd p.rules[r].fa) 89 U24 ((ZA lenRu p.rules r 9 (by omega) (by decide)).trans rfl)) I0 (oA (nS 90 U24) I0 (oC (ZK rfl (dT hs8)) I0 I0 (pM (mT 92 bT) (qM (mT 9 (.el (p.rules.flatMap cRu) (r*18))) (gA (Zx (off:=r*18) (.tmp 94) rfl) I0 (gA (fe (r*18+9) 95 U65 1) I0 (gA (lE (Zd p.rules[r].fa) 96 U24 ((ZA lenRu p.rules r 9 (by omega) (by decide)).trans rfl)) I0 (qM (mT 14 (iv c.st[j])) (gD (sc #[.tmp 97,.tmp 98] [] (ZS (KS p.rules[r].fa c.st[j] lf) hs9) [Zd p.rules[r].fa,iv c.st[j]] rfl rfl rfl) I0 I0 I0 (gA (Zq rfl rfl) I0 (pP (pk true bF bF rfl) (Ze (Zc (Zo rfl (Zn (Zc ?_))))))))))))))))))))
 by_cases hs10:(En.exU c p.rules[r] i j)=true
 rw [hs10]
 refine kW 113 [] [(6,.el ([iv r,iv i,iv kp]) 0),(9,.el (p.rules.flatMap cRu) (r*18)),(12,bT),(13,iv j),(14,iv c.st[j]),(76,Zd c.st),(77,iv c.st.length),(78,iv j),(79,bT),(86,bF),(101,bF)] (Za (pM (mT 12 bT) (pM (mT 102 bT) (qK (qK (qK (qK (qK (qK (pP (pk true bT (.v (.tuple #[])) rfl) (pM (aT 110 bT) (Ze (ZX (Zc (Za (oC (Yj (c:=((j+1:Nat):Int)) rfl (w64 (by omega) (by omega) (by omega))) I0 I0 (pM (mT 111 (iv (j+1:Nat))) (kN 113 [] [(6,.el ([iv r,iv i,iv kp]) 0),(9,.el (p.rules.flatMap cRu) (r*18)),(12,bT),(13,iv j),(14,iv c.st[j]),(76,Zd c.st),(77,iv c.st.length),(78,iv (j+1:Nat)),(79,bT),(86,bF),(101,bF)] (Zc ?_)))))))))))))))))))
 refine ZZ ⟨j+1,by omega,En.noF_succ hnf (En.fa_in hj1 hs9)⟩ (show c.st.length-(j+1)<c.st.length-j by omega) ?_
 show Wk _ _ (ofL []) (ofT 113 [(6,.el ([iv r,iv i,iv kp]) 0),(9,.el (p.rules.flatMap cRu) (r*18)),(12,bv (En.exU c p.rules[r] i (j+1))),(76,Zd c.st),(77,iv c.st.length),(78,iv ((j+1):Nat))])
 rw [En.exU_t hs10]
 exact Zj [] _ rfl (by kernel_rfl) (by kernel_rfl)
 have hs10f:(En.exU c p.rules[r] i j)=false:=by simpa using hs10
 rw [hs10f]
 refine kW 113 [] [(6,.el ([iv r,iv i,iv kp]) 0),(9,.el (p.rules.flatMap cRu) (r*18)),(12,bF),(13,iv j),(14,iv c.st[j]),(76,Zd c.st),(77,iv c.st.length),(78,iv j),(79,bT),(86,bF),(101,bF)] (Za (pM (mT 12 bF) (pM (mT 102 bF) (qM (mT 9 (.el (p.rules.flatMap cRu) (r*18))) (gA (Zx (off:=r*18) (.tmp 104) rfl) I0 (gA (fe (r*18+8) 105 U65 1) I0 (gA (lE (Zd p.rules[r].ex) 106 U24 ((ZA lenRu p.rules r 8 (by omega) (by decide)).trans rfl)) I0 (qM (mT 14 (iv c.st[j])) (gD (sc #[.tmp 107,.tmp 108] [] (KS p.rules[r].ex c.st[j] le) [Zd p.rules[r].ex,iv c.st[j]] rfl rfl rfl) I0 I0 I0 (pP (pk false bT (bv (decide (c.st[j]∈p.rules[r].ex))) rfl) (pM (aT 110 (bv (decide (c.st[j]∈p.rules[r].ex)))) (Ze (ZX (Zc (Za (oC (Yj (c:=((j+1:Nat):Int)) rfl (w64 (by omega) (by omega) (by omega))) I0 I0 (pM (mT 111 (iv (j+1:Nat))) (kN 113 [] [(6,.el ([iv r,iv i,iv kp]) 0),(9,.el (p.rules.flatMap cRu) (r*18)),(12,bv (decide (c.st[j]∈p.rules[r].ex))),(13,iv j),(14,iv c.st[j]),(76,Zd c.st),(77,iv c.st.length),(78,iv (j+1:Nat)),(79,bT),(86,bF),(101,bF)] (Zc ?_)))))))))))))))))))
 refine ZZ ⟨j+1,by omega,En.noF_succ hnf (En.fa_in hj1 hs9)⟩ (show c.st.length-(j+1)<c.st.length-j by omega) ?_
 show Wk _ _ (ofL []) (ofT 113 [(6,.el ([iv r,iv i,iv kp]) 0),(9,.el (p.rules.flatMap cRu) (r*18)),(12,bv (En.exU c p.rules[r] i (j+1))),(76,Zd c.st),(77,iv c.st.length),(78,iv ((j+1):Nat))])
 rw [En.exU_f hj1 hs10f (by omega)]
 exact Zj [] _ rfl (by kernel_rfl) (by kernel_rfl)
 have hs9f:(decide (c.st[j]∈p.rules[r].fa))=false:=by simpa using hs9
 refine Za (pM (mT 9 (.el (p.rules.flatMap cRu) (r*18))) (oA (Zx (off:=r*18) (.tmp 87) rfl) I0 (oA (fe (r*18+9) 88 U65 1) I0 (oA (lE (Zd p.rules[r].fa) 89 U24 ((ZA lenRu p.rules r 9 (by omega) (by decide)).trans rfl)) I0 (oA (nS 90 U24) I0 (oC (ZK rfl (dT hs8)) I0 I0 (pM (mT 92 bT) (qM (mT 9 (.el (p.rules.flatMap cRu) (r*18))) (gA (Zx (off:=r*18) (.tmp 94) rfl) I0 (gA (fe (r*18+9) 95 U65 1) I0 (gA (lE (Zd p.rules[r].fa) 96 U24 ((ZA lenRu p.rules r 9 (by omega) (by decide)).trans rfl)) I0 (qM (mT 14 (iv c.st[j])) (gD (sc #[.tmp 97,.tmp 98] [] (ZS (KS p.rules[r].fa c.st[j] lf) hs9f) [Zd p.rules[r].fa,iv c.st[j]] rfl rfl rfl) I0 I0 I0 (gA (Zq rfl rfl) I0 (pP (pk true bT bF rfl) (Ze (Zc (Zm rfl (Zb (Za (pM (aC (.bool false)) (Ze (Zc ?_)))))))))))))))))))))))
 refine Zk (Zh (Zv (Zh (Zh (Zv (Zh ?_))))))
 refine Zl Try.results48 (.tmp rfl) ?_
 exact congrArg (fun x:Bool=>AV.v (.bool x)) ((En.lo_fa hj1 (En.fa_out hj1 (by omega) hs8 hs9f)).symm)
 refine Za (pM (mT 9 (.el (p.rules.flatMap cRu) (r*18))) (oA (Zx (off:=r*18) (.tmp 87) rfl) I0 (oA (fe (r*18+9) 88 U65 1) I0 (oA (lE (Zd p.rules[r].fa) 89 U24 ((ZA lenRu p.rules r 9 (by omega) (by decide)).trans rfl)) I0 (oA (nS 90 U24) I0 (oC (ZK rfl (dF hs8)) I0 I0 (pM (mT 92 bF) (qK (qK (qK (qK (qK (qK (qK (pP (pk false (.v (.tuple #[])) bF rfl) (Ze (Zc (Zo rfl (Zn (Zc ?_))))))))))))))))))))
 by_cases hs11:(En.exU c p.rules[r] i j)=true
 rw [hs11]
 refine kW 113 [] [(6,.el ([iv r,iv i,iv kp]) 0),(9,.el (p.rules.flatMap cRu) (r*18)),(12,bT),(13,iv j),(14,iv c.st[j]),(76,Zd c.st),(77,iv c.st.length),(78,iv j),(79,bT),(86,bF),(101,bF)] (Za (pM (mT 12 bT) (pM (mT 102 bT) (qK (qK (qK (qK (qK (qK (pP (pk true bT (.v (.tuple #[])) rfl) (pM (aT 110 bT) (Ze (ZX (Zc (Za (oC (Yj (c:=((j+1:Nat):Int)) rfl (w64 (by omega) (by omega) (by omega))) I0 I0 (pM (mT 111 (iv (j+1:Nat))) (kN 113 [] [(6,.el ([iv r,iv i,iv kp]) 0),(9,.el (p.rules.flatMap cRu) (r*18)),(12,bT),(13,iv j),(14,iv c.st[j]),(76,Zd c.st),(77,iv c.st.length),(78,iv (j+1:Nat)),(79,bT),(86,bF),(101,bF)] (Zc ?_)))))))))))))))))))
 refine ZZ ⟨j+1,by omega,En.noF_succ hnf (En.fa_none hs8)⟩ (show c.st.length-(j+1)<c.st.length-j by omega) ?_
 show Wk _ _ (ofL []) (ofT 113 [(6,.el ([iv r,iv i,iv kp]) 0),(9,.el (p.rules.flatMap cRu) (r*18)),(12,bv (En.exU c p.rules[r] i (j+1))),(76,Zd c.st),(77,iv c.st.length),(78,iv ((j+1):Nat))])
 rw [En.exU_t hs11]
 exact Zj [] _ rfl (by kernel_rfl) (by kernel_rfl)
 have hs11f:(En.exU c p.rules[r] i j)=false:=by simpa using hs11
 rw [hs11f]
 refine kW 113 [] [(6,.el ([iv r,iv i,iv kp]) 0),(9,.el (p.rules.flatMap cRu) (r*18)),(12,bF),(13,iv j),(14,iv c.st[j]),(76,Zd c.st),(77,iv c.st.length),(78,iv j),(79,bT),(86,bF),(101,bF)] (Za (pM (mT 12 bF) (pM (mT 102 bF) (qM (mT 9 (.el (p.rules.flatMap cRu) (r*18))) (gA (Zx (off:=r*18) (.tmp 104) rfl) I0 (gA (fe (r*18+8) 105 U65 1) I0 (gA (lE (Zd p.rules[r].ex) 106 U24 ((ZA lenRu p.rules r 8 (by omega) (by decide)).trans rfl)) I0 (qM (mT 14 (iv c.st[j])) (gD (sc #[.tmp 107,.tmp 108] [] (KS p.rules[r].ex c.st[j] le) [Zd p.rules[r].ex,iv c.st[j]] rfl rfl rfl) I0 I0 I0 (pP (pk false bT (bv (decide (c.st[j]∈p.rules[r].ex))) rfl) (pM (aT 110 (bv (decide (c.st[j]∈p.rules[r].ex)))) (Ze (ZX (Zc (Za (oC (Yj (c:=((j+1:Nat):Int)) rfl (w64 (by omega) (by omega) (by omega))) I0 I0 (pM (mT 111 (iv (j+1:Nat))) (kN 113 [] [(6,.el ([iv r,iv i,iv kp]) 0),(9,.el (p.rules.flatMap cRu) (r*18)),(12,bv (decide (c.st[j]∈p.rules[r].ex))),(13,iv j),(14,iv c.st[j]),(76,Zd c.st),(77,iv c.st.length),(78,iv (j+1:Nat)),(79,bT),(86,bF),(101,bF)] (Zc ?_)))))))))))))))))))
 refine ZZ ⟨j+1,by omega,En.noF_succ hnf (En.fa_none hs8)⟩ (show c.st.length-(j+1)<c.st.length-j by omega) ?_
 show Wk _ _ (ofL []) (ofT 113 [(6,.el ([iv r,iv i,iv kp]) 0),(9,.el (p.rules.flatMap cRu) (r*18)),(12,bv (En.exU c p.rules[r] i (j+1))),(76,Zd c.st),(77,iv c.st.length),(78,iv ((j+1):Nat))])
 rw [En.exU_f hj1 hs11f (by omega)]
 exact Zj [] _ rfl (by kernel_rfl) (by kernel_rfl)
 refine Za (oC (Z5 rfl (dF hs6)) I0 I0 (Ze (Zc (Zb (Zo rfl (Yn (Zy (Zy (t_hit (Zc (Zb (Za (pM (mT 12 (bv (En.exU c p.rules[r] i j))) (pM (aT 112 (bv (En.exU c p.rules[r] i j))) (Ze (Zc (Zk ?_)))))))))))))))))
 refine Zl Try.results48 (.tmp rfl) ?_
 exact congrArg (fun x:Bool=>AV.v (.bool x)) ((En.lo_ex hs3f (by omega) hs0 (by omega) hj0 hnf).symm)
set_option maxRecDepth 100000
set_option maxHeartbeats 6400000
theorem fits_c {c:Cf} {sx:Int} {l:List Int} (ll:l.length≤9223372036854775807) {x:Int} (l8:c.st.length≤8) (hx:x<((c.st.length:Nat):Int)):Ctr Try.prog J 68 [.agg (En.cfV sx c),iv x,Zd l] (bv (En.fitB c x l)):=by
 refine ZJ Try.func68 rfl (by intro X hX;simp only [List.mem_cons,List.not_mem_nil,or_false] at hX;rcases hX with rfl | rfl | rfl;exact Zt (En.plain_cfV _ c);exact .v _;exact Yc _) (n:=22) rfl (by simp) (fun w0 => ?_)
 refine kW 22 [] [(0,.agg (En.cfV sx c)),(1,iv x),(2,Zd l)] (Zb (Za (oA (Yi (X := .agg (En.cfV sx c)) (.tmp 0) rfl rfl rfl) I0 (pM (aC (.bool false)) (Ze (Zc (Zb ?_)))))))
 by_cases hs1:((l.length:Nat):Int)=0
 refine Za (pM (mT 2 (Zd l)) (oA (nS 7 U24) I0 (oC (Zp rfl (dT hs1)) I0 I0 (pM (mT 9 bT) (qK (qK (qK (qK (qK (qK (qK (qK (qK (qK (pP (pk true bT (.v (.tuple #[])) rfl) (pM (aT 21 bT) (Ze (Zc (Zk ?_)))))))))))))))))))
 refine Zl Try.results68 (.tmp rfl) ?_
 exact congrArg (fun x:Bool=>AV.v (.bool x)) ((by unfold En.fitB;simp only [hs1,decide_true,decide_false,Bool.and_true,Bool.true_and,Bool.false_and,Bool.and_false,Bool.true_or,Bool.false_or,Bool.or_true,Bool.or_false,Bool.not_true,Bool.not_false]))
 by_cases hs2:0≤x
 refine Za (pM (mT 2 (Zd l)) (oA (nS 7 U24) I0 (oC (Zp rfl (dF hs1)) I0 I0 (pM (mT 9 bF) (qM (mT 1 (iv x)) (gC (YL rfl (dT hs2)) I0 I0 (qM (mT 12 bT) (qM (mT 2 (Zd l)) (qM (mT 1 (iv x)) (gA (fe 1 3 U78 8) I0 (gC (Z9 (off':=1+x.toNat*1) (.tmp 16) (.tmp 15) rfl U74 (by kernel_rfl) (by omega) (by omega) rfl) I0 I0 (gA (lE (iv (c.st.getD x.toNat 0)) 17 U3 (En.cfV_st (by omega))) I0 (gD (sc #[.tmp 14,.tmp 18] [] (KS l (c.st.getD x.toNat 0) ll) [Zd l,iv (c.st.getD x.toNat 0)] rfl rfl rfl) I0 I0 I0 (qP (pk true (bv (decide (c.st.getD x.toNat 0∈l))) bF rfl) (pP (pk false bT (bv (decide (c.st.getD x.toNat 0∈l))) rfl) (pM (aT 21 (bv (decide (c.st.getD x.toNat 0∈l)))) (Ze (Zc (Zk ?_)))))))))))))))))))
 refine Zl Try.results68 (.tmp rfl) ?_
 exact congrArg (fun x:Bool=>AV.v (.bool x)) ((by unfold En.fitB;simp only [hs1,hs2,decide_true,decide_false,Bool.and_true,Bool.true_and,Bool.false_and,Bool.and_false,Bool.true_or,Bool.false_or,Bool.or_true,Bool.or_false,Bool.not_true,Bool.not_false]))
 refine Za (pM (mT 2 (Zd l)) (oA (nS 7 U24) I0 (oC (Zp rfl (dF hs1)) I0 I0 (pM (mT 9 bF) (qM (mT 1 (iv x)) (gC (YL rfl (dF hs2)) I0 I0 (qM (mT 12 bF) (qK (qK (qK (qK (qK (qK (qP (pk false (.v (.tuple #[])) bF rfl) (pP (pk false bT bF rfl) (pM (aT 21 bF) (Ze (Zc (Zk ?_)))))))))))))))))))
 refine Zl Try.results68 (.tmp rfl) ?_
 exact congrArg (fun x:Bool=>AV.v (.bool x)) ((by unfold En.fitB;simp only [hs1,hs2,decide_true,decide_false,Bool.and_true,Bool.true_and,Bool.false_and,Bool.and_false,Bool.true_or,Bool.false_or,Bool.or_true,Bool.or_false,Bool.not_true,Bool.not_false]))
theorem neighH_c {p:Fm} {n t f:Int} {c:Cf} (hn:(Ns.cntE p n f).toNat=c.st.length) (l8:c.st.length≤8) {sx:Int} {r:Nat} (hr:r<p.rules.length) {i:Nat} (hi:i<c.st.length) {kp:Int} (hrl:RuLen p.rules[r]) (hx0:0≤sx) (hx1:sx<(((En.shS p.top (Ns.cntE p n f).toNat).length:Nat):Int)) (hx2:(En.shS p.top (Ns.cntE p n f).toNat)[sx.toNat]? = some c.sh) (hlk:Jd.lkF p.top c.sh c.st.length i<((c.st.length:Nat):Int)∧Jd.lkS p.top c.sh c.st.length i<((c.st.length:Nat):Int)∧En.lkP p.top c.sh c.st.length i<((c.st.length:Nat):Int)):Ctr Try.prog J 49 [.el (En.sysP p n t f) 0,.agg (En.cfV sx c),.agg [iv r,iv i,iv kp]] (bv (En.nbB p.top c p.rules[r] i)):=by
 refine ZJ Try.func49 rfl (by intro X hX;simp only [List.mem_cons,List.not_mem_nil,or_false] at hX;rcases hX with rfl | rfl | rfl;exact (show Plain (.el (En.sysP p n t f) 0) from .el (Z6 (En.plain_sysP p n t f)));exact Zt (En.plain_cfV _ c);exact Zt (fun X hX=>by simp only [List.mem_cons,List.not_mem_nil,or_false] at hX;rcases hX with rfl | rfl | rfl<;>exact .v _)) (n:=79) rfl (by simp) (fun w0 => ?_)
 refine kW 79 [] [(0,.el (En.sysP p n t f) 0),(1,.agg (En.cfV sx c)),(2,.agg [iv r,iv i,iv kp])] (Zb (Za (oA (Yi (X := .agg (En.cfV sx c)) (.tmp 1) rfl rfl rfl) I0 (oA (Yi (X := .agg [iv r,iv i,iv kp]) (.tmp 2) rfl rfl rfl) I0 (pM (aC (.bool false)) (Ze (Zc (Zb ?_))))))))
 refine Zu (dM (mT 0 (.el (En.sysP p n t f) 0)) (dA (Zx (off:=0) (.tmp 9) rfl) I0 (dA (fe 0 10 U111 10) I0 (dA (fe 9 11 U27 1) I0 (dA (lE (slA 18 cRu p.rules) 12 U25) I0 (dA (fe 0 5 U35 1) I0 (dA (lE (iv r) 14 U3) I0 (dC (xS (r*18) 13 15 U25) I0 I0 (dM (aT 16 (.el (p.rules.flatMap cRu) (r*18))) (dE ?_)))))))))) (by kernel_rfl)
 show ETri J w0 _ _ _
 refine kW 79 [] [(0,.el (En.sysP p n t f) 0),(4,.el (En.cfV sx c) 0),(5,.el ([iv r,iv i,iv kp]) 0),(6,bF),(7,.el (p.rules.flatMap cRu) (r*18))] (Zc (Zb ?_))
 refine Zu (dM (mT 0 (.el (En.sysP p n t f) 0)) (dA (Zx (off:=0) (.tmp 17) rfl) I0 (dA (fe 32 18 U111 1) I0 (dA (lE (En.lkS p.top (Ns.cntE p n f).toNat) 19 U109) I0 (dA (fe 0 4 U78 1) I0 (dA (lE (iv sx) 21 U3) I0 (dC (xS (sx.toNat*1) 20 22 U109) I0 I0 (dA (lE (Jd.lkA p.top c.sh c.st.length) 23 U99 (En.links_at hx2 hn)) I0 (dA (fe 1 5 U35 1) I0 (dA (lE (iv i) 25 U3) I0 (dC (xS (i*3) 24 26 U99) I0 I0 (dA (ZF (z:=3) (.tmp 27) rfl U96 rfl (by kernel_rfl) (En.lk_el (by omega)) rfl) I0 (dR (Z0 (z := .agg #[.int .i64 0,.int .i64 0,.int .i64 0]) (k:=1) rfl (by kernel_rfl)) T0 T0 rfl (dR (sB 3 8 (.tmp 28) (.agg ([iv (Jd.lkF p.top c.sh c.st.length i),iv (Jd.lkS p.top c.sh c.st.length i),iv (En.lkP p.top c.sh c.st.length i)]))) ⟨I0,I0,T0⟩ ⟨rfl,T0⟩ rfl (dE ?_))))))))))))))) (by kernel_rfl)
 show ETri J w0 _ _ _
 refine kW 79 [(1,.box 96 ([iv (Jd.lkF p.top c.sh c.st.length i),iv (Jd.lkS p.top c.sh c.st.length i),iv (En.lkP p.top c.sh c.st.length i)]))] [(4,.el (En.cfV sx c) 0),(5,.el ([iv r,iv i,iv kp]) 0),(6,bF),(7,.el (p.rules.flatMap cRu) (r*18)),(8,.box 1 0)] (Zc (Zb (ZE (Zb ?_))))
 refine Y6 (True) (ofL [(1,.box 96 ([iv (Jd.lkF p.top c.sh c.st.length i),iv (Jd.lkS p.top c.sh c.st.length i),iv (En.lkP p.top c.sh c.st.length i)]))]) (ofT 79 [(4,.el (En.cfV sx c) 0),(6,bF),(7,.el (p.rules.flatMap cRu) (r*18)),(8,.box 1 0),(29,bv (decide (p.rules[r].pos=1) && !decide (((i:Nat):Int)=0)))]) ?_ (fun _ => ?_)
 by_cases hs1:p.rules[r].pos=1
 by_cases hs2:((i:Nat):Int)=0
 refine Za (pM (mT 7 (.el (p.rules.flatMap cRu) (r*18))) (oA (Zx (off:=r*18) (.tmp 30) rfl) I0 (oA (fe (r*18+13) 31 U65 1) I0 (oA (lE (iv p.rules[r].pos) 32 U3 ((ZA lenRu p.rules r 13 (by omega) (by decide)).trans rfl)) I0 (oC (Zp rfl (dT hs1)) I0 I0 (pM (mT 34 bT) (gA (fe 1 5 U35 1) I0 (gA (lE (iv i) 36 U3) I0 (gC (Zs rfl (dT' hs2)) I0 I0 (pP (pk true bF bF rfl) (pM (aT 39 bF) (kN 79 [(1,.box 96 ([iv (Jd.lkF p.top c.sh c.st.length i),iv (Jd.lkS p.top c.sh c.st.length i),iv (En.lkP p.top c.sh c.st.length i)]))] [(4,.el (En.cfV sx c) 0),(6,bF),(7,.el (p.rules.flatMap cRu) (r*18)),(8,.box 1 0),(29,bF)] ?_))))))))))))
 rw [show ((decide (p.rules[r].pos=1) && !decide (((i:Nat):Int)=0)))=false by simp only [dT hs1,dT hs2,decide_true,decide_false,Bool.and_true,Bool.true_and,Bool.false_and,Bool.and_false,Bool.true_or,Bool.false_or,Bool.or_true,Bool.or_false,Bool.not_true,Bool.not_false]]
 exact Zr T0 (Zj _ _ rfl (by kernel_rfl) (by kernel_rfl))
 refine Za (pM (mT 7 (.el (p.rules.flatMap cRu) (r*18))) (oA (Zx (off:=r*18) (.tmp 30) rfl) I0 (oA (fe (r*18+13) 31 U65 1) I0 (oA (lE (iv p.rules[r].pos) 32 U3 ((ZA lenRu p.rules r 13 (by omega) (by decide)).trans rfl)) I0 (oC (Zp rfl (dT hs1)) I0 I0 (pM (mT 34 bT) (gA (fe 1 5 U35 1) I0 (gA (lE (iv i) 36 U3) I0 (gC (Zs rfl (dF' hs2)) I0 I0 (pP (pk true bT bF rfl) (pM (aT 39 bT) (kN 79 [(1,.box 96 ([iv (Jd.lkF p.top c.sh c.st.length i),iv (Jd.lkS p.top c.sh c.st.length i),iv (En.lkP p.top c.sh c.st.length i)]))] [(4,.el (En.cfV sx c) 0),(6,bF),(7,.el (p.rules.flatMap cRu) (r*18)),(8,.box 1 0),(29,bT)] ?_))))))))))))
 rw [show ((decide (p.rules[r].pos=1) && !decide (((i:Nat):Int)=0)))=true by simp only [dT hs1,dF hs2,decide_true,decide_false,Bool.and_true,Bool.true_and,Bool.false_and,Bool.and_false,Bool.true_or,Bool.false_or,Bool.or_true,Bool.or_false,Bool.not_true,Bool.not_false]]
 exact Zr T0 (Zj _ _ rfl (by kernel_rfl) (by kernel_rfl))
 refine Za (pM (mT 7 (.el (p.rules.flatMap cRu) (r*18))) (oA (Zx (off:=r*18) (.tmp 30) rfl) I0 (oA (fe (r*18+13) 31 U65 1) I0 (oA (lE (iv p.rules[r].pos) 32 U3 ((ZA lenRu p.rules r 13 (by omega) (by decide)).trans rfl)) I0 (oC (Zp rfl (dF hs1)) I0 I0 (pM (mT 34 bF) (qK (qK (qK (pP (pk false (.v (.tuple #[])) bF rfl) (pM (aT 39 bF) (kN 79 [(1,.box 96 ([iv (Jd.lkF p.top c.sh c.st.length i),iv (Jd.lkS p.top c.sh c.st.length i),iv (En.lkP p.top c.sh c.st.length i)]))] [(4,.el (En.cfV sx c) 0),(6,bF),(7,.el (p.rules.flatMap cRu) (r*18)),(8,.box 1 0),(29,bF)] ?_))))))))))))
 rw [show ((decide (p.rules[r].pos=1) && !decide (((i:Nat):Int)=0)))=false by simp only [dF hs1,decide_true,decide_false,Bool.and_true,Bool.true_and,Bool.false_and,Bool.and_false,Bool.true_or,Bool.false_or,Bool.or_true,Bool.or_false,Bool.not_true,Bool.not_false]]
 exact Zr T0 (Zj _ _ rfl (by kernel_rfl) (by kernel_rfl))
 refine Zc ?_
 by_cases hs3:(decide (p.rules[r].pos=1) && !decide (((i:Nat):Int)=0))=true
 rw [hs3]
 refine kW 79 [(1,.box 96 ([iv (Jd.lkF p.top c.sh c.st.length i),iv (Jd.lkS p.top c.sh c.st.length i),iv (En.lkP p.top c.sh c.st.length i)]))] [(4,.el (En.cfV sx c) 0),(6,bF),(7,.el (p.rules.flatMap cRu) (r*18)),(8,.box 1 0),(29,bT)] (Zm rfl (Zb (Za (pM (aC (.bool false)) (Ze (Zc (Zk (Zv (Zh ?_)))))))))
 refine Zl Try.results49 (.tmp rfl) ?_
 exact congrArg (fun x:Bool=>AV.v (.bool x)) ((by unfold En.nbB;simp only [hs3,decide_true,decide_false,Bool.and_true,Bool.true_and,Bool.false_and,Bool.and_false,Bool.true_or,Bool.false_or,Bool.or_true,Bool.or_false,Bool.not_true,Bool.not_false]))
 have hs3f:(decide (p.rules[r].pos=1) && !decide (((i:Nat):Int)=0))=false:=by simpa using hs3
 rw [hs3f]
 refine kW 79 [(1,.box 96 ([iv (Jd.lkF p.top c.sh c.st.length i),iv (Jd.lkS p.top c.sh c.st.length i),iv (En.lkP p.top c.sh c.st.length i)]))] [(4,.el (En.cfV sx c) 0),(6,bF),(7,.el (p.rules.flatMap cRu) (r*18)),(8,.box 1 0),(29,bF)] (Zo rfl (Zb ?_))
 refine Y6 (True) (ofL [(1,.box 96 ([iv (Jd.lkF p.top c.sh c.st.length i),iv (Jd.lkS p.top c.sh c.st.length i),iv (En.lkP p.top c.sh c.st.length i)]))]) (ofT 79 [(4,.el (En.cfV sx c) 0),(6,bF),(7,.el (p.rules.flatMap cRu) (r*18)),(8,.box 1 0),(40,bv (decide (p.rules[r].pos=2)&&decide (0≤(Jd.lkS p.top c.sh c.st.length i))))]) ?_ (fun _ => ?_)
 by_cases hs4:p.rules[r].pos=2
 by_cases hs5:0≤(Jd.lkS p.top c.sh c.st.length i)
 refine Za (pM (mT 7 (.el (p.rules.flatMap cRu) (r*18))) (oA (Zx (off:=r*18) (.tmp 41) rfl) I0 (oA (fe (r*18+13) 42 U65 1) I0 (oA (lE (iv p.rules[r].pos) 43 U3 ((ZA lenRu p.rules r 13 (by omega) (by decide)).trans rfl)) I0 (oC (Zp rfl (dT hs4)) I0 I0 (pM (mT 45 bT) (gA (fb 1 8 U96 1) I0 (gB (lb (iv (Jd.lkS p.top c.sh c.st.length i)) 47 U3) I0 rfl (gC (YL rfl (dT hs5)) I0 I0 (pP (pk true bT bF rfl) (pM (aT 50 bT) (kN 79 [(1,.box 96 ([iv (Jd.lkF p.top c.sh c.st.length i),iv (Jd.lkS p.top c.sh c.st.length i),iv (En.lkP p.top c.sh c.st.length i)]))] [(4,.el (En.cfV sx c) 0),(6,bF),(7,.el (p.rules.flatMap cRu) (r*18)),(8,.box 1 0),(40,bT)] ?_))))))))))))
 rw [show ((decide (p.rules[r].pos=2)&&decide (0≤(Jd.lkS p.top c.sh c.st.length i))))=true by simp only [hs3f,dT hs4,dT hs5,decide_true,decide_false,Bool.and_true,Bool.true_and,Bool.false_and,Bool.and_false,Bool.true_or,Bool.false_or,Bool.or_true,Bool.or_false,Bool.not_true,Bool.not_false]]
 exact Zr T0 (Zj _ _ rfl (by kernel_rfl) (by kernel_rfl))
 refine Za (pM (mT 7 (.el (p.rules.flatMap cRu) (r*18))) (oA (Zx (off:=r*18) (.tmp 41) rfl) I0 (oA (fe (r*18+13) 42 U65 1) I0 (oA (lE (iv p.rules[r].pos) 43 U3 ((ZA lenRu p.rules r 13 (by omega) (by decide)).trans rfl)) I0 (oC (Zp rfl (dT hs4)) I0 I0 (pM (mT 45 bT) (gA (fb 1 8 U96 1) I0 (gB (lb (iv (Jd.lkS p.top c.sh c.st.length i)) 47 U3) I0 rfl (gC (YL rfl (dF hs5)) I0 I0 (pP (pk true bF bF rfl) (pM (aT 50 bF) (kN 79 [(1,.box 96 ([iv (Jd.lkF p.top c.sh c.st.length i),iv (Jd.lkS p.top c.sh c.st.length i),iv (En.lkP p.top c.sh c.st.length i)]))] [(4,.el (En.cfV sx c) 0),(6,bF),(7,.el (p.rules.flatMap cRu) (r*18)),(8,.box 1 0),(40,bF)] ?_))))))))))))
 rw [show ((decide (p.rules[r].pos=2)&&decide (0≤(Jd.lkS p.top c.sh c.st.length i))))=false by simp only [hs3f,dT hs4,dF hs5,decide_true,decide_false,Bool.and_true,Bool.true_and,Bool.false_and,Bool.and_false,Bool.true_or,Bool.false_or,Bool.or_true,Bool.or_false,Bool.not_true,Bool.not_false]]
 exact Zr T0 (Zj _ _ rfl (by kernel_rfl) (by kernel_rfl))
 refine Za (pM (mT 7 (.el (p.rules.flatMap cRu) (r*18))) (oA (Zx (off:=r*18) (.tmp 41) rfl) I0 (oA (fe (r*18+13) 42 U65 1) I0 (oA (lE (iv p.rules[r].pos) 43 U3 ((ZA lenRu p.rules r 13 (by omega) (by decide)).trans rfl)) I0 (oC (Zp rfl (dF hs4)) I0 I0 (pM (mT 45 bF) (qK (qK (qK (pP (pk false (.v (.tuple #[])) bF rfl) (pM (aT 50 bF) (kN 79 [(1,.box 96 ([iv (Jd.lkF p.top c.sh c.st.length i),iv (Jd.lkS p.top c.sh c.st.length i),iv (En.lkP p.top c.sh c.st.length i)]))] [(4,.el (En.cfV sx c) 0),(6,bF),(7,.el (p.rules.flatMap cRu) (r*18)),(8,.box 1 0),(40,bF)] ?_))))))))))))
 rw [show ((decide (p.rules[r].pos=2)&&decide (0≤(Jd.lkS p.top c.sh c.st.length i))))=false by simp only [hs3f,dF hs4,decide_true,decide_false,Bool.and_true,Bool.true_and,Bool.false_and,Bool.and_false,Bool.true_or,Bool.false_or,Bool.or_true,Bool.or_false,Bool.not_true,Bool.not_false]]
 exact Zr T0 (Zj _ _ rfl (by kernel_rfl) (by kernel_rfl))
 refine Zc ?_
 by_cases hs6:(decide (p.rules[r].pos=2)&&decide (0≤(Jd.lkS p.top c.sh c.st.length i)))=true
 rw [hs6]
 refine kW 79 [(1,.box 96 ([iv (Jd.lkF p.top c.sh c.st.length i),iv (Jd.lkS p.top c.sh c.st.length i),iv (En.lkP p.top c.sh c.st.length i)]))] [(4,.el (En.cfV sx c) 0),(6,bF),(7,.el (p.rules.flatMap cRu) (r*18)),(8,.box 1 0),(40,bT)] (Zm rfl (Zb (Za (pM (aC (.bool false)) (Ze (Zc (Zk (Zv (Zh ?_)))))))))
 refine Zl Try.results49 (.tmp rfl) ?_
 exact congrArg (fun x:Bool=>AV.v (.bool x)) ((by unfold En.nbB;simp only [hs3f,hs6,decide_true,decide_false,Bool.and_true,Bool.true_and,Bool.false_and,Bool.and_false,Bool.true_or,Bool.false_or,Bool.or_true,Bool.or_false,Bool.not_true,Bool.not_false]))
 have hs6f:(decide (p.rules[r].pos=2)&&decide (0≤(Jd.lkS p.top c.sh c.st.length i)))=false:=by simpa using hs6
 rw [hs6f]
 refine kW 79 [(1,.box 96 ([iv (Jd.lkF p.top c.sh c.st.length i),iv (Jd.lkS p.top c.sh c.st.length i),iv (En.lkP p.top c.sh c.st.length i)]))] [(4,.el (En.cfV sx c) 0),(6,bF),(7,.el (p.rules.flatMap cRu) (r*18)),(8,.box 1 0),(40,bF)] (Zo rfl (Zn (ZX (Zc (Zb ?_)))))
 by_cases hs7:(En.fitB c (Jd.lkF p.top c.sh c.st.length i) p.rules[r].left)=true
 by_cases hs8:(En.fitB c (Jd.lkS p.top c.sh c.st.length i) p.rules[r].right)=true
 refine Zu (dA (ZF (z:=16) (.tmp 4) rfl U78 rfl (by kernel_rfl) rfl rfl) I0 (dA (fb 0 8 U96 1) I0 (dB (lb (iv (Jd.lkF p.top c.sh c.st.length i)) 52 U3) I0 rfl (dM (mT 7 (.el (p.rules.flatMap cRu) (r*18))) (dA (Zx (off:=r*18) (.tmp 54) rfl) I0 (dA (fe (r*18+14) 55 U65 1) I0 (dA (lE (Zd p.rules[r].left) 56 U24 ((ZA lenRu p.rules r 14 (by omega) (by decide)).trans rfl)) I0 (dR (sc #[.tmp 51,.tmp 53,.tmp 57] [] (ZS (fits_c (Nat.le_trans hrl.left (by decide)) l8 hlk.1) hs7) [.agg (En.cfV sx c),iv (Jd.lkF p.top c.sh c.st.length i),Zd p.rules[r].left] rfl rfl rfl) ⟨I0,I0,I0,I0,T0⟩ T0 T0 (dM (mT 58 bT) (dA (ZF (z:=16) (.tmp 4) rfl U78 rfl (by kernel_rfl) rfl rfl) I0 (dA (fb 1 8 U96 1) I0 (dB (lb (iv (Jd.lkS p.top c.sh c.st.length i)) 61 U3) I0 rfl (dM (mT 7 (.el (p.rules.flatMap cRu) (r*18))) (dA (Zx (off:=r*18) (.tmp 63) rfl) I0 (dA (fe (r*18+15) 64 U65 1) I0 (dA (lE (Zd p.rules[r].right) 65 U24 ((ZA lenRu p.rules r 15 (by omega) (by decide)).trans rfl)) I0 (dR (sc #[.tmp 60,.tmp 62,.tmp 66] [] (ZS (fits_c (Nat.le_trans hrl.right (by decide)) l8 hlk.2.1) hs8) [.agg (En.cfV sx c),iv (Jd.lkS p.top c.sh c.st.length i),Zd p.rules[r].right] rfl rfl rfl) ⟨I0,I0,I0,I0,T0⟩ T0 T0 (dP (pk true bT bF rfl) (dM (mT 68 bT) (dA (ZF (z:=16) (.tmp 4) rfl U78 rfl (by kernel_rfl) rfl rfl) I0 (dA (fb 2 8 U96 1) I0 (dB (lb (iv (En.lkP p.top c.sh c.st.length i)) 71 U3) I0 rfl (dM (mT 7 (.el (p.rules.flatMap cRu) (r*18))) (dA (Zx (off:=r*18) (.tmp 73) rfl) I0 (dA (fe (r*18+16) 74 U65 1) I0 (dA (lE (Zd p.rules[r].parent) 75 U24 ((ZA lenRu p.rules r 16 (by omega) (by decide)).trans rfl)) I0 (dR (sc #[.tmp 70,.tmp 72,.tmp 76] [] (fits_c (Nat.le_trans hrl.parent (by decide)) l8 hlk.2.2) [.agg (En.cfV sx c),iv (En.lkP p.top c.sh c.st.length i),Zd p.rules[r].parent] rfl rfl rfl) ⟨I0,I0,I0,I0,T0⟩ T0 T0 (dP (pk true (bv (En.fitB c (En.lkP p.top c.sh c.st.length i) p.rules[r].parent)) bF rfl) (dM (aT 78 (bv (En.fitB c (En.lkP p.top c.sh c.st.length i) p.rules[r].parent))) (dE ?_)))))))))))))))))))))))))))))) (by kernel_rfl)
 show ETri J w0 _ _ _
 refine Zc (Zk ?_)
 refine Zl Try.results49 (.tmp rfl) ?_
 exact congrArg (fun x:Bool=>AV.v (.bool x)) ((by unfold En.nbB;simp only [hs3f,hs6f,hs7,hs8,decide_true,decide_false,Bool.and_true,Bool.true_and,Bool.false_and,Bool.and_false,Bool.true_or,Bool.false_or,Bool.or_true,Bool.or_false,Bool.not_true,Bool.not_false]))
 have hs8f:(En.fitB c (Jd.lkS p.top c.sh c.st.length i) p.rules[r].right)=false:=by simpa using hs8
 refine Zu (dA (ZF (z:=16) (.tmp 4) rfl U78 rfl (by kernel_rfl) rfl rfl) I0 (dA (fb 0 8 U96 1) I0 (dB (lb (iv (Jd.lkF p.top c.sh c.st.length i)) 52 U3) I0 rfl (dM (mT 7 (.el (p.rules.flatMap cRu) (r*18))) (dA (Zx (off:=r*18) (.tmp 54) rfl) I0 (dA (fe (r*18+14) 55 U65 1) I0 (dA (lE (Zd p.rules[r].left) 56 U24 ((ZA lenRu p.rules r 14 (by omega) (by decide)).trans rfl)) I0 (dR (sc #[.tmp 51,.tmp 53,.tmp 57] [] (ZS (fits_c (Nat.le_trans hrl.left (by decide)) l8 hlk.1) hs7) [.agg (En.cfV sx c),iv (Jd.lkF p.top c.sh c.st.length i),Zd p.rules[r].left] rfl rfl rfl) ⟨I0,I0,I0,I0,T0⟩ T0 T0 (dM (mT 58 bT) (dA (ZF (z:=16) (.tmp 4) rfl U78 rfl (by kernel_rfl) rfl rfl) I0 (dA (fb 1 8 U96 1) I0 (dB (lb (iv (Jd.lkS p.top c.sh c.st.length i)) 61 U3) I0 rfl (dM (mT 7 (.el (p.rules.flatMap cRu) (r*18))) (dA (Zx (off:=r*18) (.tmp 63) rfl) I0 (dA (fe (r*18+15) 64 U65 1) I0 (dA (lE (Zd p.rules[r].right) 65 U24 ((ZA lenRu p.rules r 15 (by omega) (by decide)).trans rfl)) I0 (dR (sc #[.tmp 60,.tmp 62,.tmp 66] [] (ZS (fits_c (Nat.le_trans hrl.right (by decide)) l8 hlk.2.1) hs8f) [.agg (En.cfV sx c),iv (Jd.lkS p.top c.sh c.st.length i),Zd p.rules[r].right] rfl rfl rfl) ⟨I0,I0,I0,I0,T0⟩ T0 T0 (dP (pk true bF bF rfl) (dM (mT 68 bF) (dK (dK (dK (dK (dK (dK (dK (dK (dP (pk false (.v (.tuple #[])) bF rfl) (dM (aT 78 bF) (dE ?_)))))))))))))))))))))))))))))) (by kernel_rfl)
 show ETri J w0 _ _ _
 refine Zc (Zk ?_)
 refine Zl Try.results49 (.tmp rfl) ?_
 exact congrArg (fun x:Bool=>AV.v (.bool x)) ((by unfold En.nbB;simp only [hs3f,hs6f,hs7,hs8f,decide_true,decide_false,Bool.and_true,Bool.true_and,Bool.false_and,Bool.and_false,Bool.true_or,Bool.false_or,Bool.or_true,Bool.or_false,Bool.not_true,Bool.not_false]))
 have hs7f:(En.fitB c (Jd.lkF p.top c.sh c.st.length i) p.rules[r].left)=false:=by simpa using hs7
 refine Zu (dA (ZF (z:=16) (.tmp 4) rfl U78 rfl (by kernel_rfl) rfl rfl) I0 (dA (fb 0 8 U96 1) I0 (dB (lb (iv (Jd.lkF p.top c.sh c.st.length i)) 52 U3) I0 rfl (dM (mT 7 (.el (p.rules.flatMap cRu) (r*18))) (dA (Zx (off:=r*18) (.tmp 54) rfl) I0 (dA (fe (r*18+14) 55 U65 1) I0 (dA (lE (Zd p.rules[r].left) 56 U24 ((ZA lenRu p.rules r 14 (by omega) (by decide)).trans rfl)) I0 (dR (sc #[.tmp 51,.tmp 53,.tmp 57] [] (ZS (fits_c (Nat.le_trans hrl.left (by decide)) l8 hlk.1) hs7f) [.agg (En.cfV sx c),iv (Jd.lkF p.top c.sh c.st.length i),Zd p.rules[r].left] rfl rfl rfl) ⟨I0,I0,I0,I0,T0⟩ T0 T0 (dM (mT 58 bF) (dK (dK (dK (dK (dK (dK (dK (dK (dP (pk false (.v (.tuple #[])) bF rfl) (dM (mT 68 bF) (dK (dK (dK (dK (dK (dK (dK (dK (dP (pk false (.v (.tuple #[])) bF rfl) (dM (aT 78 bF) (dE ?_)))))))))))))))))))))))))))))) (by kernel_rfl)
 show ETri J w0 _ _ _
 refine Zc (Zk ?_)
 refine Zl Try.results49 (.tmp rfl) ?_
 exact congrArg (fun x:Bool=>AV.v (.bool x)) ((by unfold En.nbB;simp only [hs3f,hs6f,hs7f,decide_true,decide_false,Bool.and_true,Bool.true_and,Bool.false_and,Bool.and_false,Bool.true_or,Bool.false_or,Bool.or_true,Bool.or_false,Bool.not_true,Bool.not_false]))
theorem passH_c {p:Fm} {n t f:Int} {c:Cf} (hn:(Ns.cntE p n f).toNat=c.st.length) (l8:c.st.length≤8) {sx:Int} {r:Nat} (hr:r<p.rules.length) {i:Nat} (hi:i<c.st.length) {kp:Int} (hrl:RuLen p.rules[r]) (hx0:0≤sx) (hx1:sx<(((En.shS p.top (Ns.cntE p n f).toNat).length:Nat):Int)) (hx2:(En.shS p.top (Ns.cntE p n f).toNat)[sx.toNat]? = some c.sh) (hlk:Jd.lkF p.top c.sh c.st.length i<((c.st.length:Nat):Int)∧Jd.lkS p.top c.sh c.st.length i<((c.st.length:Nat):Int)∧En.lkP p.top c.sh c.st.length i<((c.st.length:Nat):Int)):Ctr Try.prog J 50 [.el (En.sysP p n t f) 0,.agg (En.cfV sx c),.agg [iv r,iv i,iv kp]] (bv (En.psB p.top c p.rules[r] i kp)):=by
 refine ZJ Try.func50 rfl (by intro X hX;simp only [List.mem_cons,List.not_mem_nil,or_false] at hX;rcases hX with rfl | rfl | rfl;exact (show Plain (.el (En.sysP p n t f) 0) from .el (Z6 (En.plain_sysP p n t f)));exact Zt (En.plain_cfV _ c);exact Zt (fun X hX=>by simp only [List.mem_cons,List.not_mem_nil,or_false] at hX;rcases hX with rfl | rfl | rfl<;>exact .v _)) (n:=63) rfl (by simp) (fun w0 => ?_)
 refine kW 63 [] [(0,.el (En.sysP p n t f) 0),(1,.agg (En.cfV sx c)),(2,.agg [iv r,iv i,iv kp])] (Zb (Za (oA (Yi (X := .agg (En.cfV sx c)) (.tmp 1) rfl rfl rfl) I0 (oA (Yi (X := .agg [iv r,iv i,iv kp]) (.tmp 2) rfl rfl rfl) I0 (pM (aC (.bool false)) (Ze (Zc (Zb ?_))))))))
 refine Zu (dM (mT 0 (.el (En.sysP p n t f) 0)) (dA (Zx (off:=0) (.tmp 8) rfl) I0 (dA (fe 32 9 U111 1) I0 (dA (lE (En.lkS p.top (Ns.cntE p n f).toNat) 10 U109) I0 (dA (fe 0 4 U78 1) I0 (dA (lE (iv sx) 12 U3) I0 (dC (xS (sx.toNat*1) 11 13 U109) I0 I0 (dA (lE (Jd.lkA p.top c.sh c.st.length) 14 U99 (En.links_at hx2 hn)) I0 (dA (fe 1 5 U35 1) I0 (dA (lE (iv i) 16 U3) I0 (dC (xS (i*3) 15 17 U99) I0 I0 (dA (ZF (z:=3) (.tmp 18) rfl U96 rfl (by kernel_rfl) (En.lk_el (by omega)) rfl) I0 (dR (Z0 (z := .agg #[.int .i64 0,.int .i64 0,.int .i64 0]) (k:=1) rfl (by kernel_rfl)) T0 T0 rfl (dR (sB 3 7 (.tmp 19) (.agg ([iv (Jd.lkF p.top c.sh c.st.length i),iv (Jd.lkS p.top c.sh c.st.length i),iv (En.lkP p.top c.sh c.st.length i)]))) ⟨I0,I0,T0⟩ ⟨rfl,T0⟩ rfl (dE ?_))))))))))))))) (by kernel_rfl)
 show ETri J w0 _ _ _
 refine kW 63 [(1,.box 96 ([iv (Jd.lkF p.top c.sh c.st.length i),iv (Jd.lkS p.top c.sh c.st.length i),iv (En.lkP p.top c.sh c.st.length i)]))] [(0,.el (En.sysP p n t f) 0),(5,.el ([iv r,iv i,iv kp]) 0),(6,bF),(7,.box 1 0)] (Zc (Zb (Zb ?_)))
 refine Zu (dM (mT 0 (.el (En.sysP p n t f) 0)) (dA (Zx (off:=0) (.tmp 20) rfl) I0 (dA (fe 0 21 U111 10) I0 (dA (fe 9 22 U27 1) I0 (dA (lE (slA 18 cRu p.rules) 23 U25) I0 (dA (fe 0 5 U35 1) I0 (dA (lE (iv r) 25 U3) I0 (dC (xS (r*18) 24 26 U25) I0 I0 (dA (fe (r*18+17) 27 U65 1) I0 (dA (lE (iv p.rules[r].dir) 28 U3 ((ZA lenRu p.rules r 17 (by omega) (by decide)).trans rfl)) I0 (dE ?_))))))))))) (by kernel_rfl)
 show ETri J w0 _ _ _
 refine kW 63 [(1,.box 96 ([iv (Jd.lkF p.top c.sh c.st.length i),iv (Jd.lkS p.top c.sh c.st.length i),iv (En.lkP p.top c.sh c.st.length i)]))] [(5,.el ([iv r,iv i,iv kp]) 0),(6,bF),(7,.box 1 0),(29,iv p.rules[r].dir)] (Zc (ZE (Zb ?_)))
 by_cases hs1:p.rules[r].dir=1
 refine Za (oC (Zp rfl (dT hs1)) I0 I0 (pM (aT 31 bT) (Ze (Zc (Zm rfl (Zb (Za (oA (fe 2 5 U35 1) I0 (oA (lE (iv kp) 32 U3) I0 (oA (fb 1 7 U96 1) I0 (oB (lb (iv (Jd.lkS p.top c.sh c.st.length i)) 34 U3) I0 rfl (oC (Zp rfl rfl) I0 I0 (pM (aT 36 (bv (decide (kp=(Jd.lkS p.top c.sh c.st.length i))))) (Ze (Zc (Zk (Zv (Zh ?_))))))))))))))))))
 refine Zl Try.results50 (.tmp rfl) ?_
 exact congrArg (fun x:Bool=>AV.v (.bool x)) ((by unfold En.psB;rw [if_pos hs1]))
 refine Za (oC (Zp rfl (dF hs1)) I0 I0 (pM (aT 31 bF) (Ze (Zc (Zo rfl (Zb ?_))))))
 by_cases hs2:p.rules[r].dir=2
 refine Za (oC (Zp rfl (dT hs2)) I0 I0 (pM (aT 38 bT) (Ze (Zc (Zm rfl (Zb (Za (oA (fe 2 5 U35 1) I0 (oA (lE (iv kp) 39 U3) I0 (oA (fb 0 7 U96 1) I0 (oB (lb (iv (Jd.lkF p.top c.sh c.st.length i)) 41 U3) I0 rfl (oC (Zp rfl rfl) I0 I0 (pM (aT 43 (bv (decide (kp=(Jd.lkF p.top c.sh c.st.length i))))) (Ze (Zc (Zk (Zv (Zh ?_))))))))))))))))))
 refine Zl Try.results50 (.tmp rfl) ?_
 exact congrArg (fun x:Bool=>AV.v (.bool x)) ((by unfold En.psB;rw [if_neg hs1,if_pos hs2]))
 refine Za (oC (Zp rfl (dF hs2)) I0 I0 (pM (aT 38 bF) (Ze (Zc (Zo rfl (Zb ?_))))))
 by_cases hs3:p.rules[r].dir=3
 refine Za (oC (Zp rfl (dT hs3)) I0 I0 (pM (aT 45 bT) (Ze (Zc (Zm rfl (Zb ?_))))))
 by_cases hs4:kp=(Jd.lkF p.top c.sh c.st.length i)
 refine Za (oA (fe 2 5 U35 1) I0 (oA (lE (iv kp) 46 U3) I0 (oA (fb 0 7 U96 1) I0 (oB (lb (iv (Jd.lkF p.top c.sh c.st.length i)) 48 U3) I0 rfl (oC (Zp rfl (dT hs4)) I0 I0 (pM (mT 50 bT) (qK (qK (qK (qK (qK (pP (pk true bT (.v (.tuple #[])) rfl) (pM (aT 57 bT) (Ze (Zc (Zk (Zv (Zh ?_))))))))))))))))))
 refine Zl Try.results50 (.tmp rfl) ?_
 exact congrArg (fun x:Bool=>AV.v (.bool x)) ((by unfold En.psB;rw [if_neg hs1,if_neg hs2,if_pos hs3];simp only [dT hs4,decide_true,decide_false,Bool.and_true,Bool.true_and,Bool.false_and,Bool.and_false,Bool.true_or,Bool.false_or,Bool.or_true,Bool.or_false,Bool.not_true,Bool.not_false]))
 refine Za (oA (fe 2 5 U35 1) I0 (oA (lE (iv kp) 46 U3) I0 (oA (fb 0 7 U96 1) I0 (oB (lb (iv (Jd.lkF p.top c.sh c.st.length i)) 48 U3) I0 rfl (oC (Zp rfl (dF hs4)) I0 I0 (pM (mT 50 bF) (gA (fe 2 5 U35 1) I0 (gA (lE (iv kp) 52 U3) I0 (gA (fb 1 7 U96 1) I0 (gB (lb (iv (Jd.lkS p.top c.sh c.st.length i)) 54 U3) I0 rfl (gC (Zp rfl rfl) I0 I0 (pP (pk false bT (bv (decide (kp=(Jd.lkS p.top c.sh c.st.length i)))) rfl) (pM (aT 57 (bv (decide (kp=(Jd.lkS p.top c.sh c.st.length i))))) (Ze (Zc (Zk (Zv (Zh ?_))))))))))))))))))
 refine Zl Try.results50 (.tmp rfl) ?_
 exact congrArg (fun x:Bool=>AV.v (.bool x)) ((by unfold En.psB;rw [if_neg hs1,if_neg hs2,if_pos hs3];simp only [dF hs4,decide_true,decide_false,Bool.and_true,Bool.true_and,Bool.false_and,Bool.and_false,Bool.true_or,Bool.false_or,Bool.or_true,Bool.or_false,Bool.not_true,Bool.not_false]))
 refine Za (oC (Zp rfl (dF hs3)) I0 I0 (pM (aT 45 bF) (Ze (Zc (Zo rfl (Zn (ZX (Zc (Zb (Za (oA (fe 2 5 U35 1) I0 (oA (lE (iv kp) 58 U3) I0 (oA (fb 2 7 U96 1) I0 (oB (lb (iv (En.lkP p.top c.sh c.st.length i)) 60 U3) I0 rfl (oC (Zp rfl rfl) I0 I0 (pM (aT 62 (bv (decide (kp=(En.lkP p.top c.sh c.st.length i))))) (Ze (Zc (Zk ?_)))))))))))))))))))
 refine Zl Try.results50 (.tmp rfl) ?_
 exact congrArg (fun x:Bool=>AV.v (.bool x)) ((by unfold En.psB;rw [if_neg hs1,if_neg hs2,if_neg hs3]))
theorem En.nbr {p:Fm} {n f:Int} {c:Cf} (hc:En.CfV p n f c) (hv:valE p=0) {r:Nat} (hr:r<p.rules.length) (hk:¬ p.rules[r].kind≤3) {i:Nat} (hi:i<c.st.length) :
    (0≤(Rd.shI p.top (Ns.shT p.top (Ns.cntE p n f)) c.sh)∧(Rd.shI p.top (Ns.shT p.top (Ns.cntE p n f)) c.sh)<(((En.shS p.top (Ns.cntE p n f).toNat).length:Nat):Int)∧(En.shS p.top (Ns.cntE p n f).toNat)[((Rd.shI p.top (Ns.shT p.top (Ns.cntE p n f)) c.sh)).toNat]? = some c.sh) ∧
    (Jd.lkF p.top c.sh c.st.length i<((c.st.length:Nat):Int)∧Jd.lkS p.top c.sh c.st.length i<((c.st.length:Nat):Int)∧En.lkP p.top c.sh c.st.length i<((c.st.length:Nat):Int)):=by
  have R:=En.val_in hv (List.getElem_mem hr)
  have h1:¬ p.top=1:=fun e=>hk (R.kt.2 e)
  have ht:=Jd.top_in hv
  have h0:0≤Ns.cntE p n f:=by have:=hc.ln;omega
  exact ⟨En.shI_at hc h1 ht h0,En.lk_ok hc h1 ht hi⟩
theorem En.isP_nat {m i:Nat} (h:i<m):En.isP m ((i:Nat):Int)=true:=by unfold En.isP;rw [decide_eq_true (by omega),decide_eq_true (by omega)];rfl
theorem enabled_in {p:Fm} (HL:FamLen p) {n t f:Int} {c:Cf} (hc:En.CfV p n f c) (hv:valE p=0) (l8:c.st.length≤8) {r:Nat} (hr:r<p.rules.length) {i:Nat} (hi:i<c.st.length) {kp:Int} {g:Nat→Int} (hg:∀ m,0≤g m∧g m≤3000000):Ctr Try.prog J 28 [.el (En.sysP p n t f) 0,.agg (En.cfV (Rd.shI p.top (Ns.shT p.top (Ns.cntE p n f)) c.sh) c),.agg [iv r,iv i,iv kp],.agg (En.msA g)] (bv (En.enR p.top n t f c g p.rules[r] i kp)):=by
 have R:=En.val_in hv (List.getElem_mem hr)
 have hz:=En.val_sizes hv
 have hn:=hc.ln.symm
 have hnN:(Ns.cntE p n f).toNat=c.st.length:=by omega
 have hle:=(HL.rules _ (List.getElem_mem hr)).ex
 have hlf:=(HL.rules _ (List.getElem_mem hr)).fa
 refine ZJ Try.func28 rfl (by intro X hX;simp only [List.mem_cons,List.not_mem_nil,or_false] at hX;rcases hX with rfl | rfl | rfl | rfl;exact (show Plain (.el (En.sysP p n t f) 0) from .el (Z6 (En.plain_sysP p n t f)));exact Zt (En.plain_cfV _ c);exact Zt (fun X hX=>by simp only [List.mem_cons,List.not_mem_nil,or_false] at hX;rcases hX with rfl | rfl | rfl<;>exact .v _);exact Zt (En.plain_msA _)) (n:=94) rfl (by simp) (fun w0 => ?_)
 refine kW 94 [] [(0,.el (En.sysP p n t f) 0),(1,.agg (En.cfV (Rd.shI p.top (Ns.shT p.top (Ns.cntE p n f)) c.sh) c)),(2,.agg [iv r,iv i,iv kp]),(3,.agg (En.msA g))] (Zb (Za (oA (Yi (X := .agg (En.cfV (Rd.shI p.top (Ns.shT p.top (Ns.cntE p n f)) c.sh) c)) (.tmp 1) rfl rfl rfl) I0 (oA (Yi (X := .agg [iv r,iv i,iv kp]) (.tmp 2) rfl rfl rfl) I0 (oA (Yi (X := .agg (En.msA g)) (.tmp 3) rfl rfl rfl) I0 (pM (aC (.bool false)) (Ze (Zc (Zb (Zb ?_))))))))))
 refine Zu (dA (fe 0 6 U35 1) I0 (dA (lE (iv r) 10 U3) I0 (dC (Z5 rfl (dF (by omega))) I0 I0 (dM (mT 12 bF) (dA (fe 0 6 U35 1) I0 (dA (lE (iv r) 14 U3) I0 (dM (mT 0 (.el (En.sysP p n t f) 0)) (dA (Zx (off:=0) (.tmp 16) rfl) I0 (dA (fe 0 17 U111 10) I0 (dA (fe 9 18 U27 1) I0 (dA (lE (slA 18 cRu p.rules) 19 U25) I0 (dA (nS 20 U25) I0 (dC (YL rfl (dF (by omega))) I0 I0 (dP (pk false bT bF rfl) (dM (mT 23 bF) (dM (mT 0 (.el (En.sysP p n t f) 0)) (dA (fe 1 6 U35 1) I0 (dA (lE (iv i) 26 U3) I0 (dD (sc #[.tmp 25,.tmp 27] [] (ZS (isProc_c hn) (En.isP_nat hi)) [.el (En.sysP p n t f) 0,iv i] rfl rfl rfl) I0 I0 I0 (dA (Zq rfl rfl) I0 (dP (pk false bT bF rfl) (dE ?_)))))))))))))))))))))) (by kernel_rfl)
 show ETri J w0 _ _ _
 refine kW 94 [] [(0,.el (En.sysP p n t f) 0),(5,.el (En.cfV (Rd.shI p.top (Ns.shT p.top (Ns.cntE p n f)) c.sh) c) 0),(6,.el ([iv r,iv i,iv kp]) 0),(7,.el (En.msA g) 0),(8,bF),(30,bF)] (Zc (Zo rfl (Zn (Zc (Zb ?_)))))
 refine Zu (dM (mT 0 (.el (En.sysP p n t f) 0)) (dA (Zx (off:=0) (.tmp 31) rfl) I0 (dA (fe 0 32 U111 10) I0 (dA (fe 9 33 U27 1) I0 (dA (lE (slA 18 cRu p.rules) 34 U25) I0 (dA (fe 0 6 U35 1) I0 (dA (lE (iv r) 36 U3) I0 (dC (xS (r*18) 35 37 U25) I0 I0 (dM (aT 38 (.el (p.rules.flatMap cRu) (r*18))) (dE ?_)))))))))) (by kernel_rfl)
 show ETri J w0 _ _ _
 refine kW 94 [] [(0,.el (En.sysP p n t f) 0),(5,.el (En.cfV (Rd.shI p.top (Ns.shT p.top (Ns.cntE p n f)) c.sh) c) 0),(6,.el ([iv r,iv i,iv kp]) 0),(7,.el (En.msA g) 0),(8,bF),(9,.el (p.rules.flatMap cRu) (r*18))] (Zc (Zb (Zb ?_)))
 by_cases hs1:(c.st.getD i 0)=p.rules[r].frm
 by_cases hs2:(En.ptB c p.rules[r] i kp)=true
 refine Zu (dA (fe 1 6 U35 1) I0 (dA (lE (iv i) 39 U3) I0 (dA (fe 1 5 U78 8) I0 (dC (Z9 (off':=1+i*1) (.tmp 41) (.tmp 40) rfl U74 (by kernel_rfl) (by omega) (by omega) rfl) I0 I0 (dA (lE (iv (c.st.getD i 0)) 42 U3 (En.cfV_st (by omega))) I0 (dM (mT 9 (.el (p.rules.flatMap cRu) (r*18))) (dA (Zx (off:=r*18) (.tmp 44) rfl) I0 (dA (fe (r*18+2) 45 U65 1) I0 (dA (lE (iv p.rules[r].frm) 46 U3 ((ZA lenRu p.rules r 2 (by omega) (by decide)).trans rfl)) I0 (dC (Zs rfl (dT' hs1)) I0 I0 (dM (mT 48 bF) (dM (mT 0 (.el (En.sysP p n t f) 0)) (dA (ZF (z:=16) (.tmp 5) rfl U78 rfl (by kernel_rfl) rfl rfl) I0 (dM (mT 9 (.el (p.rules.flatMap cRu) (r*18))) (dA (ZF (z:=3) (.tmp 6) rfl U35 rfl (by kernel_rfl) rfl rfl) I0 (dR (sc #[.tmp 50,.tmp 51,.tmp 52,.tmp 53] [] (ZS (partFits_c hn l8 hr hi) hs2) [.el (En.sysP p n t f) 0,.agg (En.cfV (Rd.shI p.top (Ns.shT p.top (Ns.cntE p n f)) c.sh) c),.el (p.rules.flatMap cRu) (r*18),.agg ([iv r,iv i,iv kp])] rfl rfl rfl) ⟨I0,I0,I0,I0,I0,T0⟩ T0 T0 (dA (Zq rfl rfl) I0 (dP (pk false bT bF rfl) (dE ?_))))))))))))))))))) (by kernel_rfl)
 show ETri J w0 _ _ _
 refine kW 94 [] [(0,.el (En.sysP p n t f) 0),(5,.el (En.cfV (Rd.shI p.top (Ns.shT p.top (Ns.cntE p n f)) c.sh) c) 0),(6,.el ([iv r,iv i,iv kp]) 0),(7,.el (En.msA g) 0),(8,bF),(9,.el (p.rules.flatMap cRu) (r*18)),(56,bF)] (Zc (Zo rfl (Zn (Zc (Zb (Zb (Za (pM (mT 9 (.el (p.rules.flatMap cRu) (r*18))) (oA (Zx (off:=r*18) (.tmp 57) rfl) I0 (oA (fe (r*18+1) 58 U65 1) I0 (oA (lE (iv p.rules[r].kind) 59 U3 ((ZA lenRu p.rules r 1 (by omega) (by decide)).trans rfl)) I0 (Ze (Zc (ZE (Zb ?_)))))))))))))))
 by_cases hs3:p.rules[r].kind=1
 refine Za (oC (Zp rfl (dT hs3)) I0 I0 (pM (aT 62 bT) (Ze (Zc (Zm rfl (Zb (Za (pM (mT 0 (.el (En.sysP p n t f) 0)) (oA (ZF (z:=16) (.tmp 5) rfl U78 rfl (by kernel_rfl) rfl rfl) I0 (oA (ZF (z:=3) (.tmp 6) rfl U35 rfl (by kernel_rfl) rfl rfl) I0 (oA (ZF (z:=3) (.tmp 7) rfl U76 rfl (by kernel_rfl) rfl rfl) I0 (ZQ rfl (sc #[.tmp 63,.tmp 64,.tmp 65,.tmp 66] [] (localH_c hn l8 hr hi hg hz.1 hz.2.2.1 R.gl R.gd (Nat.le_trans hle (by decide)) (Nat.le_trans hlf (by decide))) [.el (En.sysP p n t f) 0,.agg (En.cfV (Rd.shI p.top (Ns.shT p.top (Ns.cntE p n f)) c.sh) c),.agg ([iv r,iv i,iv kp]),.agg (En.msA g)] rfl rfl rfl) ⟨I0,I0,I0,I0,I0,T0⟩ T0 T0 (pM (aT 67 (bv (En.loB n t f c p.rules[r] g i))) (Ze (Zc (Zk (Zv (Zh ?_))))))))))))))))))
 refine Zl Try.results28 (.tmp rfl) ?_
 exact congrArg (fun x:Bool=>AV.v (.bool x)) ((by unfold En.enR;rw [if_pos hs3];simp only [dT hs1,hs2,decide_true,decide_false,Bool.and_true,Bool.true_and,Bool.false_and,Bool.and_false,Bool.true_or,Bool.false_or,Bool.or_true,Bool.or_false,Bool.not_true,Bool.not_false]))
 refine Za (oC (Zp rfl (dF hs3)) I0 I0 (pM (aT 62 bF) (Ze (Zc (Zo rfl (Zb ?_))))))
 by_cases hs4:p.rules[r].kind=4
 refine Za (oC (Zp rfl (dT hs4)) I0 I0 (pM (aT 69 bT) (Ze (Zc (Zm rfl (Zb (Za (pM (mT 0 (.el (En.sysP p n t f) 0)) (oA (ZF (z:=16) (.tmp 5) rfl U78 rfl (by kernel_rfl) rfl rfl) I0 (oA (ZF (z:=3) (.tmp 6) rfl U35 rfl (by kernel_rfl) rfl rfl) I0 (ZQ rfl (sc #[.tmp 70,.tmp 71,.tmp 72] [] (neighH_c hnN l8 hr hi (kp:=kp) (HL.rules _ (List.getElem_mem hr)) (En.nbr hc hv hr (by have:=hs4;omega) hi).1.1 (En.nbr hc hv hr (by have:=hs4;omega) hi).1.2.1 (En.nbr hc hv hr (by have:=hs4;omega) hi).1.2.2 (En.nbr hc hv hr (by have:=hs4;omega) hi).2) [.el (En.sysP p n t f) 0,.agg (En.cfV (Rd.shI p.top (Ns.shT p.top (Ns.cntE p n f)) c.sh) c),.agg ([iv r,iv i,iv kp])] rfl rfl rfl) ⟨I0,I0,I0,I0,T0⟩ T0 T0 (pM (aT 73 (bv (En.nbB p.top c p.rules[r] i))) (Ze (Zc (Zk (Zv (Zh ?_)))))))))))))))))
 refine Zl Try.results28 (.tmp rfl) ?_
 exact congrArg (fun x:Bool=>AV.v (.bool x)) ((by unfold En.enR;rw [if_neg hs3,if_pos hs4];simp only [dT hs1,hs2,decide_true,decide_false,Bool.and_true,Bool.true_and,Bool.false_and,Bool.and_false,Bool.true_or,Bool.false_or,Bool.or_true,Bool.or_false,Bool.not_true,Bool.not_false]))
 refine Za (oC (Zp rfl (dF hs4)) I0 I0 (pM (aT 69 bF) (Ze (Zc (Zo rfl (Zb ?_))))))
 by_cases hs5:p.rules[r].kind=5
 refine Za (oC (Zp rfl (dT hs5)) I0 I0 (pM (aT 75 bT) (Ze (Zc (Zm rfl (Zb (Za (pM (mT 0 (.el (En.sysP p n t f) 0)) (oA (ZF (z:=16) (.tmp 5) rfl U78 rfl (by kernel_rfl) rfl rfl) I0 (oA (ZF (z:=3) (.tmp 6) rfl U35 rfl (by kernel_rfl) rfl rfl) I0 (ZQ rfl (sc #[.tmp 76,.tmp 77,.tmp 78] [] (passH_c hnN l8 hr hi (HL.rules _ (List.getElem_mem hr)) (En.nbr hc hv hr (by have:=hs5;omega) hi).1.1 (En.nbr hc hv hr (by have:=hs5;omega) hi).1.2.1 (En.nbr hc hv hr (by have:=hs5;omega) hi).1.2.2 (En.nbr hc hv hr (by have:=hs5;omega) hi).2) [.el (En.sysP p n t f) 0,.agg (En.cfV (Rd.shI p.top (Ns.shT p.top (Ns.cntE p n f)) c.sh) c),.agg ([iv r,iv i,iv kp])] rfl rfl rfl) ⟨I0,I0,I0,I0,T0⟩ T0 T0 (pM (aT 79 (bv (En.psB p.top c p.rules[r] i kp))) (Ze (Zc (Zk (Zv (Zh ?_)))))))))))))))))
 refine Zl Try.results28 (.tmp rfl) ?_
 exact congrArg (fun x:Bool=>AV.v (.bool x)) ((by unfold En.enR;rw [if_neg hs3,if_neg hs4,if_pos hs5];simp only [dT hs1,hs2,decide_true,decide_false,Bool.and_true,Bool.true_and,Bool.false_and,Bool.and_false,Bool.true_or,Bool.false_or,Bool.or_true,Bool.or_false,Bool.not_true,Bool.not_false]))
 refine Za (oC (Zp rfl (dF hs5)) I0 I0 (pM (aT 75 bF) (Ze (Zc (Zo rfl (Zn (ZX (Zc (Zb ?_)))))))))
 by_cases hs6:p.rules[r].rd<0
 refine Zu (dM (mT 9 (.el (p.rules.flatMap cRu) (r*18))) (dA (Zx (off:=r*18) (.tmp 80) rfl) I0 (dA (fe (r*18+10) 81 U65 1) I0 (dA (lE (iv p.rules[r].rd) 82 U3 ((ZA lenRu p.rules r 10 (by omega) (by decide)).trans rfl)) I0 (dC (Z5 rfl (dT hs6)) I0 I0 (dM (mT 84 bT) (dK (dK (dK (dK (dK (dK (dK (dP (pk true bT (.v (.tuple #[])) rfl) (dM (aT 93 bT) (dE ?_)))))))))))))))) (by kernel_rfl)
 show ETri J w0 _ _ _
 refine Zc (Zk ?_)
 refine Zl Try.results28 (.tmp rfl) ?_
 exact congrArg (fun x:Bool=>AV.v (.bool x)) ((by unfold En.enR;rw [if_neg hs3,if_neg hs4,if_neg hs5];simp only [dT hs1,hs2,dT hs6,decide_true,decide_false,Bool.and_true,Bool.true_and,Bool.false_and,Bool.and_false,Bool.true_or,Bool.false_or,Bool.or_true,Bool.or_false,Bool.not_true,Bool.not_false]))
 refine Zu (dM (mT 9 (.el (p.rules.flatMap cRu) (r*18))) (dA (Zx (off:=r*18) (.tmp 80) rfl) I0 (dA (fe (r*18+10) 81 U65 1) I0 (dA (lE (iv p.rules[r].rd) 82 U3 ((ZA lenRu p.rules r 10 (by omega) (by decide)).trans rfl)) I0 (dC (Z5 rfl (dF hs6)) I0 I0 (dM (mT 84 bF) (dA (fe 15 5 U78 1) I0 (dA (lE (iv c.val) 86 U3) I0 (dM (mT 9 (.el (p.rules.flatMap cRu) (r*18))) (dA (Zx (off:=r*18) (.tmp 88) rfl) I0 (dA (fe (r*18+10) 89 U65 1) I0 (dA (lE (iv p.rules[r].rd) 90 U3 ((ZA lenRu p.rules r 10 (by omega) (by decide)).trans rfl)) I0 (dC (Zp rfl rfl) I0 I0 (dP (pk false bT (bv (decide (c.val=p.rules[r].rd))) rfl) (dM (aT 93 (bv (decide (c.val=p.rules[r].rd)))) (dE ?_)))))))))))))))) (by kernel_rfl)
 show ETri J w0 _ _ _
 refine Zc (Zk ?_)
 refine Zl Try.results28 (.tmp rfl) ?_
 exact congrArg (fun x:Bool=>AV.v (.bool x)) ((by unfold En.enR;rw [if_neg hs3,if_neg hs4,if_neg hs5];simp only [dT hs1,hs2,dF hs6,decide_true,decide_false,Bool.and_true,Bool.true_and,Bool.false_and,Bool.and_false,Bool.true_or,Bool.false_or,Bool.or_true,Bool.or_false,Bool.not_true,Bool.not_false]))
 have hs2f:(En.ptB c p.rules[r] i kp)=false:=by simpa using hs2
 refine Zu (dA (fe 1 6 U35 1) I0 (dA (lE (iv i) 39 U3) I0 (dA (fe 1 5 U78 8) I0 (dC (Z9 (off':=1+i*1) (.tmp 41) (.tmp 40) rfl U74 (by kernel_rfl) (by omega) (by omega) rfl) I0 I0 (dA (lE (iv (c.st.getD i 0)) 42 U3 (En.cfV_st (by omega))) I0 (dM (mT 9 (.el (p.rules.flatMap cRu) (r*18))) (dA (Zx (off:=r*18) (.tmp 44) rfl) I0 (dA (fe (r*18+2) 45 U65 1) I0 (dA (lE (iv p.rules[r].frm) 46 U3 ((ZA lenRu p.rules r 2 (by omega) (by decide)).trans rfl)) I0 (dC (Zs rfl (dT' hs1)) I0 I0 (dM (mT 48 bF) (dM (mT 0 (.el (En.sysP p n t f) 0)) (dA (ZF (z:=16) (.tmp 5) rfl U78 rfl (by kernel_rfl) rfl rfl) I0 (dM (mT 9 (.el (p.rules.flatMap cRu) (r*18))) (dA (ZF (z:=3) (.tmp 6) rfl U35 rfl (by kernel_rfl) rfl rfl) I0 (dR (sc #[.tmp 50,.tmp 51,.tmp 52,.tmp 53] [] (ZS (partFits_c hn l8 hr hi) hs2f) [.el (En.sysP p n t f) 0,.agg (En.cfV (Rd.shI p.top (Ns.shT p.top (Ns.cntE p n f)) c.sh) c),.el (p.rules.flatMap cRu) (r*18),.agg ([iv r,iv i,iv kp])] rfl rfl rfl) ⟨I0,I0,I0,I0,I0,T0⟩ T0 T0 (dA (Zq rfl rfl) I0 (dP (pk false bT bT rfl) (dE ?_))))))))))))))))))) (by kernel_rfl)
 show ETri J w0 _ _ _
 refine kW 94 [] [(0,.el (En.sysP p n t f) 0),(5,.el (En.cfV (Rd.shI p.top (Ns.shT p.top (Ns.cntE p n f)) c.sh) c) 0),(6,.el ([iv r,iv i,iv kp]) 0),(7,.el (En.msA g) 0),(8,bF),(9,.el (p.rules.flatMap cRu) (r*18)),(56,bT)] (Zc (Zm rfl (Zb (Za (pM (aC (.bool false)) (Ze (Zc (Zk (Zh ?_)))))))))
 refine Zl Try.results28 (.tmp rfl) ?_
 exact congrArg (fun x:Bool=>AV.v (.bool x)) ((by unfold En.enR;simp only [dT hs1,hs2f,decide_true,decide_false,Bool.and_true,Bool.true_and,Bool.false_and,Bool.and_false,Bool.true_or,Bool.false_or,Bool.or_true,Bool.or_false,Bool.not_true,Bool.not_false]))
 refine Zu (dA (fe 1 6 U35 1) I0 (dA (lE (iv i) 39 U3) I0 (dA (fe 1 5 U78 8) I0 (dC (Z9 (off':=1+i*1) (.tmp 41) (.tmp 40) rfl U74 (by kernel_rfl) (by omega) (by omega) rfl) I0 I0 (dA (lE (iv (c.st.getD i 0)) 42 U3 (En.cfV_st (by omega))) I0 (dM (mT 9 (.el (p.rules.flatMap cRu) (r*18))) (dA (Zx (off:=r*18) (.tmp 44) rfl) I0 (dA (fe (r*18+2) 45 U65 1) I0 (dA (lE (iv p.rules[r].frm) 46 U3 ((ZA lenRu p.rules r 2 (by omega) (by decide)).trans rfl)) I0 (dC (Zs rfl (dF' hs1)) I0 I0 (dM (mT 48 bT) (dK (dK (dK (dK (dK (dK (dP (pk true bT (.v (.tuple #[])) rfl) (dE ?_))))))))))))))))))) (by kernel_rfl)
 show ETri J w0 _ _ _
 refine kW 94 [] [(0,.el (En.sysP p n t f) 0),(5,.el (En.cfV (Rd.shI p.top (Ns.shT p.top (Ns.cntE p n f)) c.sh) c) 0),(6,.el ([iv r,iv i,iv kp]) 0),(7,.el (En.msA g) 0),(8,bF),(9,.el (p.rules.flatMap cRu) (r*18)),(56,bT)] (Zc (Zm rfl (Zb (Za (pM (aC (.bool false)) (Ze (Zc (Zk (Zh ?_)))))))))
 refine Zl Try.results28 (.tmp rfl) ?_
 exact congrArg (fun x:Bool=>AV.v (.bool x)) ((by unfold En.enR;simp only [dF hs1,decide_true,decide_false,Bool.and_true,Bool.true_and,Bool.false_and,Bool.and_false,Bool.true_or,Bool.false_or,Bool.or_true,Bool.or_false,Bool.not_true,Bool.not_false]))
theorem enabled_no {p:Fm} (HL:FamLen p) {n t f:Int} {c:Cf} (hc:En.CfV p n f c) (hv:valE p=0) (l8:c.st.length≤8) {x y kp:Int} (hno:(0≤x∧x<((p.rules.length:Nat):Int))→En.isP c.st.length y=false) {g:Nat→Int}:Ctr Try.prog J 28 [.el (En.sysP p n t f) 0,.agg (En.cfV (Rd.shI p.top (Ns.shT p.top (Ns.cntE p n f)) c.sh) c),.agg [iv x,iv y,iv kp],.agg (En.msA g)] bF:=by
 have hn:=hc.ln.symm
 have hz:=En.val_sizes hv
 refine ZJ Try.func28 rfl (by intro X hX;simp only [List.mem_cons,List.not_mem_nil,or_false] at hX;rcases hX with rfl | rfl | rfl | rfl;exact (show Plain (.el (En.sysP p n t f) 0) from .el (Z6 (En.plain_sysP p n t f)));exact Zt (En.plain_cfV _ c);exact Zt (fun X hX=>by simp only [List.mem_cons,List.not_mem_nil,or_false] at hX;rcases hX with rfl | rfl | rfl<;>exact .v _);exact Zt (En.plain_msA _)) (n:=94) rfl (by simp) (fun w0 => ?_)
 refine kW 94 [] [(0,.el (En.sysP p n t f) 0),(1,.agg (En.cfV (Rd.shI p.top (Ns.shT p.top (Ns.cntE p n f)) c.sh) c)),(2,.agg [iv x,iv y,iv kp]),(3,.agg (En.msA g))] (Zb (Za (oA (Yi (X := .agg (En.cfV (Rd.shI p.top (Ns.shT p.top (Ns.cntE p n f)) c.sh) c)) (.tmp 1) rfl rfl rfl) I0 (oA (Yi (X := .agg [iv x,iv y,iv kp]) (.tmp 2) rfl rfl rfl) I0 (oA (Yi (X := .agg (En.msA g)) (.tmp 3) rfl rfl rfl) I0 (pM (aC (.bool false)) (Ze (Zc (Zb (Zb ?_))))))))))
 by_cases hs1:x<0
 refine Zu (dA (fe 0 6 U35 1) I0 (dA (lE (iv x) 10 U3) I0 (dC (Z5 rfl (dT hs1)) I0 I0 (dM (mT 12 bT) (dK (dK (dK (dK (dK (dK (dK (dK (dK (dP (pk true bT (.v (.tuple #[])) rfl) (dM (mT 23 bT) (dK (dK (dK (dK (dK (dP (pk true bT (.v (.tuple #[])) rfl) (dE ?_)))))))))))))))))))))) (by kernel_rfl)
 show ETri J w0 _ _ _
 refine kW 94 [] [(0,.el (En.sysP p n t f) 0),(5,.el (En.cfV (Rd.shI p.top (Ns.shT p.top (Ns.cntE p n f)) c.sh) c) 0),(6,.el ([iv x,iv y,iv kp]) 0),(7,.el (En.msA g) 0),(8,bF),(30,bT)] (Zc (Zm rfl (Zb (Za (pM (aC (.bool false)) (Ze (Zc (Zk (Zh ?_)))))))))
 refine Zl Try.results28 (.tmp rfl) ?_
 exact rfl
 by_cases hs2:((p.rules.length:Nat):Int)≤x
 refine Zu (dA (fe 0 6 U35 1) I0 (dA (lE (iv x) 10 U3) I0 (dC (Z5 rfl (dF hs1)) I0 I0 (dM (mT 12 bF) (dA (fe 0 6 U35 1) I0 (dA (lE (iv x) 14 U3) I0 (dM (mT 0 (.el (En.sysP p n t f) 0)) (dA (Zx (off:=0) (.tmp 16) rfl) I0 (dA (fe 0 17 U111 10) I0 (dA (fe 9 18 U27 1) I0 (dA (lE (slA 18 cRu p.rules) 19 U25) I0 (dA (nS 20 U25) I0 (dC (YL rfl (dT hs2)) I0 I0 (dP (pk false bT bT rfl) (dM (mT 23 bT) (dK (dK (dK (dK (dK (dP (pk true bT (.v (.tuple #[])) rfl) (dE ?_)))))))))))))))))))))) (by kernel_rfl)
 show ETri J w0 _ _ _
 refine kW 94 [] [(0,.el (En.sysP p n t f) 0),(5,.el (En.cfV (Rd.shI p.top (Ns.shT p.top (Ns.cntE p n f)) c.sh) c) 0),(6,.el ([iv x,iv y,iv kp]) 0),(7,.el (En.msA g) 0),(8,bF),(30,bT)] (Zc (Zm rfl (Zb (Za (pM (aC (.bool false)) (Ze (Zc (Zk (Zh ?_)))))))))
 refine Zl Try.results28 (.tmp rfl) ?_
 exact rfl
 refine Zu (dA (fe 0 6 U35 1) I0 (dA (lE (iv x) 10 U3) I0 (dC (Z5 rfl (dF hs1)) I0 I0 (dM (mT 12 bF) (dA (fe 0 6 U35 1) I0 (dA (lE (iv x) 14 U3) I0 (dM (mT 0 (.el (En.sysP p n t f) 0)) (dA (Zx (off:=0) (.tmp 16) rfl) I0 (dA (fe 0 17 U111 10) I0 (dA (fe 9 18 U27 1) I0 (dA (lE (slA 18 cRu p.rules) 19 U25) I0 (dA (nS 20 U25) I0 (dC (YL rfl (dF hs2)) I0 I0 (dP (pk false bT bF rfl) (dM (mT 23 bF) (dM (mT 0 (.el (En.sysP p n t f) 0)) (dA (fe 1 6 U35 1) I0 (dA (lE (iv y) 26 U3) I0 (dD (sc #[.tmp 25,.tmp 27] [] (ZS (isProc_c hn) (hno (by have:=hs1;have:=hs2;omega))) [.el (En.sysP p n t f) 0,iv y] rfl rfl rfl) I0 I0 I0 (dA (Zq rfl rfl) I0 (dP (pk false bT bT rfl) (dE ?_)))))))))))))))))))))) (by kernel_rfl)
 show ETri J w0 _ _ _
 refine kW 94 [] [(0,.el (En.sysP p n t f) 0),(5,.el (En.cfV (Rd.shI p.top (Ns.shT p.top (Ns.cntE p n f)) c.sh) c) 0),(6,.el ([iv x,iv y,iv kp]) 0),(7,.el (En.msA g) 0),(8,bF),(30,bT)] (Zc (Zm rfl (Zb (Za (pM (aC (.bool false)) (Ze (Zc (Zk (Zh ?_)))))))))
 refine Zl Try.results28 (.tmp rfl) ?_
 exact rfl
theorem En.isP_no {m:Nat} {x:Int} (h:¬ (0≤x∧x<((m:Nat):Int))):En.isP m x=false:=by
  unfold En.isP
  rw [Bool.and_eq_false_iff,decide_eq_false_iff_not,decide_eq_false_iff_not]
  omega
theorem enabled_c {p:Fm} (HL:FamLen p) {n t f:Int} {c:Cf} (hc:En.CfV p n f c) (hv:valE p=0) (l8:c.st.length≤8) {x y kp:Int} {g:Nat→Int} (hg:∀ m,0≤g m∧g m≤3000000):Ctr Try.prog J 28 [.el (En.sysP p n t f) 0,.agg (En.cfV (Rd.shI p.top (Ns.shT p.top (Ns.cntE p n f)) c.sh) c),.agg [iv x,iv y,iv kp],.agg (En.msA g)] (bv (En.enB p n t f c g x y kp)):=by
  by_cases h1:0≤x∧x<((p.rules.length:Nat):Int)
  · by_cases h2:0≤y∧y<((c.st.length:Nat):Int)
    · obtain ⟨r,rfl⟩:=Int.eq_ofNat_of_zero_le h1.1
      obtain ⟨i,rfl⟩:=Int.eq_ofNat_of_zero_le h2.1
      have hr:r<p.rules.length:=by omega
      have hi:i<c.st.length:=by omega
      have e:En.enB p n t f c g ((r:Nat):Int) ((i:Nat):Int) kp=En.enR p.top n t f c g p.rules[r] i kp:=by
        unfold En.enB
        rw [En.isP_nat hr,En.isP_nat hi,Int.toNat_natCast,Int.toNat_natCast,List.getD_eq_getElem?_getD,List.getElem?_eq_getElem hr]
        rfl
      rw [e]
      exact enabled_in HL hc hv l8 hr hi hg
    have e:En.enB p n t f c g x y kp=false:=by
      unfold En.enB
      rw [En.isP_no h2];simp
    rw [e]
    exact enabled_no HL hc hv l8 fun _=>En.isP_no h2
  have e:En.enB p n t f c g x y kp=false:=by
    unfold En.enB
    rw [En.isP_no h1];rfl
  rw [e]
  exact enabled_no HL hc hv l8 fun h=>absurd h h1
namespace En
theorem vc_ok {p:Fm} {n t f:Int} {c:Cf} (h:Rd.vcE p n t f c=0):Ns.sysE p n t f=0∧Rd.rdX p n f c=true:=by
  unfold Rd.vcE at h
  split at h
  · rename_i hs
    split at h
    · rename_i hx;exact ⟨hs,hx⟩
    cases h
  rename_i hs;exact absurd h hs
theorem cf_len {p:Fm} {n f:Int} {c:Cf} (h:CfV p n f c) (ha:1≤n∧n≤1048576∧0≤f∧f≤n) (h8:¬ 8<n):c.st.length≤8:=by
  have:=h.ln
  unfold Ns.cntE at this
  split at this<;>omega
def eaR (p:Fm) (n t f:Int) (c:Cf) (x y k:Int):Bool:=if Rd.vcE p n t f c=0 then enB p n t f c (hdG p f c false) x y k else false
end En
theorem Enabled_err {p:Fm} (HP:FmOk p) (HL:FamLen p) {n t f:Int} {c:Cf} (HC:Rd.CgOk c) {x y kp:Int} (hz:¬ (Rd.vcE p n t f c)=0):Ctr Try.prog J 12 [.agg (cFm p),.agg (cSz n t f),.agg (Rd.cCg c),.agg [iv x,iv y,iv kp]] (.tup [bv (En.eaR p n t f c x y kp),iv (Rd.vcE p n t f c)]):=by
 refine ZJ Try.func12 rfl (by intro X hX;simp only [List.mem_cons,List.not_mem_nil,or_false] at hX;rcases hX with rfl | rfl | rfl | rfl;exact Zt (YN p);exact Zt (KH n t f);exact Zt (Rd.plain_cg c);exact Zt (fun X hX=>by simp only [List.mem_cons,List.not_mem_nil,or_false] at hX;rcases hX with rfl | rfl | rfl<;>exact .v _)) (n:=31) rfl (by simp) (fun w0 => ?_)
 refine kW 31 [] [(0,.agg (cFm p)),(1,.agg (cSz n t f)),(2,.agg (Rd.cCg c)),(3,.agg [iv x,iv y,iv kp])] (Zb (Za (oA (Yi (X := .agg (cFm p)) (.tmp 0) rfl rfl rfl) I0 (oA (Yi (X := .agg (cSz n t f)) (.tmp 1) rfl rfl rfl) I0 (oA (Yi (X := .agg (Rd.cCg c)) (.tmp 2) rfl rfl rfl) I0 (oA (Yi (X := .agg [iv x,iv y,iv kp]) (.tmp 3) rfl rfl rfl) I0 (pM (aC (.bool false)) (pM (aC (.int .i64 0)) (Ze (Zc (Zb (Za (oA (ZF (z:=10) (.tmp 4) rfl U27 rfl (by kernel_rfl) rfl rfl) I0 (oA (ZF (z:=3) (.tmp 5) rfl U29 rfl (by kernel_rfl) rfl rfl) I0 (oA (ZF (z:=6) (.tmp 6) rfl U31 rfl (by kernel_rfl) rfl rfl) I0 (ZQ rfl (sc #[.tmp 14,.tmp 15,.tmp 16] [] (open_no HP HC hz) [.agg (cFm p),.agg (cSz n t f),.agg (Rd.cCg c)] rfl rfl rfl) ⟨I0,I0,I0,I0,T0⟩ T0 T0 (pM (mT 17 (.tup [.fr (.any),.fr (.agg (Rd.cfZ false (Rd.shI p.top (Ns.shT p.top (Ns.cntE p n f)) c.sh) c)),iv (Rd.vcE p n t f c)])) (oA (ZT (X := .fr (.any)) (.tmp 13) rfl rfl) I0 (oA (ZT (X := .fr (.agg (Rd.cfZ false (Rd.shI p.top (Ns.shT p.top (Ns.cntE p n f)) c.sh) c))) (.tmp 13) rfl rfl) I0 (oA (ZT (X:=iv (Rd.vcE p n t f c)) (.tmp 13) rfl rfl) I0 (ZQ rfl (Z0 (z := .agg #[.int .i64 0,.int .i64 0,.int .i64 0,.int .i64 0,.int .i64 0,.int .i64 0,.int .i64 0,.int .i64 0,.int .i64 0,.int .i64 0,.int .i64 0,.int .i64 0,.int .i64 0,.int .i64 0,.int .i64 0,.int .i64 0]) (k:=1) rfl (by kernel_rfl)) T0 T0 rfl (pM (aT 18 (.fr (.any))) (ZQ rfl (sB 16 11 (.tmp 19) (.agg [iv (Rd.zz false (Rd.shI p.top (Ns.shT p.top (Ns.cntE p n f)) c.sh)),iv (Rd.zz false (c.st.getD 0 0)),iv (Rd.zz false (c.st.getD 1 0)),iv (Rd.zz false (c.st.getD 2 0)),iv (Rd.zz false (c.st.getD 3 0)),iv (Rd.zz false (c.st.getD 4 0)),iv (Rd.zz false (c.st.getD 5 0)),iv (Rd.zz false (c.st.getD 6 0)),iv (Rd.zz false (c.st.getD 7 0)),iv (Rd.zz false (c.se.getD 0 0)),iv (Rd.zz false (c.se.getD 1 0)),iv (Rd.zz false (c.se.getD 2 0)),iv (Rd.zz false (c.fa.getD 0 0)),iv (Rd.zz false (c.fa.getD 1 0)),iv (Rd.zz false (c.fa.getD 2 0)),iv (Rd.zz false c.val)])) ⟨I0,.inr (.inr (.inl ⟨_,rfl,rfl⟩)),T0⟩ ⟨rfl,T0⟩ rfl ?_)))))))))))))))))))))))
 refine pM (aT 20 (iv (Rd.vcE p n t f c))) (Ze (Zc (Zb (Zb (Za (pM (mT 12 (iv (Rd.vcE p n t f c))) (oC (Zs rfl (dF' hz)) I0 I0 (Ze (Zc (Zm rfl (Zb (Za (pM (mT 12 (iv (Rd.vcE p n t f c))) (pM (aC (.bool false)) (pM (aT 23 (iv (Rd.vcE p n t f c))) (Ze (Zc (Zk (Zh ?_)))))))))))))))))))
 refine Yr Try.results12 (.tmp rfl) (.tmp rfl) ?_
 rw [show En.eaR p n t f c x y kp=false from if_neg hz]
 exact rfl
theorem Enabled_ok {p:Fm} (HP:FmOk p) (HL:FamLen p) {n t f:Int} {c:Cf} (HC:Rd.CgOk c) {x y kp:Int} (hz:(Rd.vcE p n t f c)=0):Ctr Try.prog J 12 [.agg (cFm p),.agg (cSz n t f),.agg (Rd.cCg c),.agg [iv x,iv y,iv kp]] (.tup [bv (En.eaR p n t f c x y kp),iv (Rd.vcE p n t f c)]):=by
 obtain ⟨hs,hx⟩:=En.vc_ok hz
 have hc:=En.cf_in hx
 obtain ⟨hv,ha,h8⟩:=Ns.sys_ok hs
 have hai:=Ns.adm_in ha
 have l8:=En.cf_len hc hai h8
 have hsz:=En.val_sizes hv
 refine ZJ Try.func12 rfl (by intro X hX;simp only [List.mem_cons,List.not_mem_nil,or_false] at hX;rcases hX with rfl | rfl | rfl | rfl;exact Zt (YN p);exact Zt (KH n t f);exact Zt (Rd.plain_cg c);exact Zt (fun X hX=>by simp only [List.mem_cons,List.not_mem_nil,or_false] at hX;rcases hX with rfl | rfl | rfl<;>exact .v _)) (n:=31) rfl (by simp) (fun w0 => ?_)
 refine kW 31 [] [(0,.agg (cFm p)),(1,.agg (cSz n t f)),(2,.agg (Rd.cCg c)),(3,.agg [iv x,iv y,iv kp])] (Zb (Za (oA (Yi (X := .agg (cFm p)) (.tmp 0) rfl rfl rfl) I0 (oA (Yi (X := .agg (cSz n t f)) (.tmp 1) rfl rfl rfl) I0 (oA (Yi (X := .agg (Rd.cCg c)) (.tmp 2) rfl rfl rfl) I0 (oA (Yi (X := .agg [iv x,iv y,iv kp]) (.tmp 3) rfl rfl rfl) I0 (pM (aC (.bool false)) (pM (aC (.int .i64 0)) (Ze (Zc (Zb (Za (oA (ZF (z:=10) (.tmp 4) rfl U27 rfl (by kernel_rfl) rfl rfl) I0 (oA (ZF (z:=3) (.tmp 5) rfl U29 rfl (by kernel_rfl) rfl rfl) I0 (oA (ZF (z:=6) (.tmp 6) rfl U31 rfl (by kernel_rfl) rfl rfl) I0 (ZQ rfl (sp_callA (c := .func 23) (xs := #[.tmp 14,.tmp 15,.tmp 16]) (open_V HP HC hs hx) rfl (by kernel_rfl) rfl (Xs:=[.agg (cFm p),.agg (cSz n t f),.agg (Rd.cCg c)]) rfl rfl) ⟨I0,I0,I0,I0,T0⟩ T0 T0 (pM (mT 17 (.tup [.el (En.sysP p n t f) 0,.agg (En.cfV (Rd.shI p.top (Ns.shT p.top (Ns.cntE p n f)) c.sh) c),iv 0])) (oA (ZT (X := .el (En.sysP p n t f) 0) (.tmp 13) rfl rfl) I0 (oA (ZT (X := .agg (En.cfV (Rd.shI p.top (Ns.shT p.top (Ns.cntE p n f)) c.sh) c)) (.tmp 13) rfl rfl) I0 (oA (ZT (X:=iv 0) (.tmp 13) rfl rfl) I0 (ZQ rfl (Z0 (z := .agg #[.int .i64 0,.int .i64 0,.int .i64 0,.int .i64 0,.int .i64 0,.int .i64 0,.int .i64 0,.int .i64 0,.int .i64 0,.int .i64 0,.int .i64 0,.int .i64 0,.int .i64 0,.int .i64 0,.int .i64 0,.int .i64 0]) (k:=1) rfl (by kernel_rfl)) T0 T0 rfl (pM (aT 18 (.el (En.sysP p n t f) 0)) (ZQ rfl (sB 16 11 (.tmp 19) (.agg (En.cfV (Rd.shI p.top (Ns.shT p.top (Ns.cntE p n f)) c.sh) c))) ⟨I0,I0,T0⟩ ⟨rfl,T0⟩ rfl ?_)))))))))))))))))))))))
 refine pM (aT 20 (iv 0)) (Ze (Zc (Zb (Zb (Za (pM (mT 12 (iv 0)) (oC (Zs (r:=false) rfl (by decide)) I0 I0 (Ze (Zc (Zo rfl (Zn (Zc (Zb ?_)))))))))))))
 refine Zu (dM (mT 10 (.el (En.sysP p n t f) 0)) (dB (lS (En.cfV (Rd.shI p.top (Ns.shT p.top (Ns.cntE p n f)) c.sh) c) 16 11 U78) I0 rfl (dA (ZF (z:=3) (.tmp 7) rfl U35 rfl (by kernel_rfl) rfl rfl) I0 (dM (mT 10 (.el (En.sysP p n t f) 0)) (dB (lS (En.cfV (Rd.shI p.top (Ns.shT p.top (Ns.cntE p n f)) c.sh) c) 16 11 U78) I0 rfl (dD (sc #[.tmp 27,.tmp 28] [] (heard_c hc ⟨by omega,by omega⟩ hsz.2.2.1) [.el (En.sysP p n t f) 0,.agg (En.cfV (Rd.shI p.top (Ns.shT p.top (Ns.cntE p n f)) c.sh) c)] rfl rfl rfl) I0 I0 I0 (dR (sc #[.tmp 24,.tmp 25,.tmp 26,.tmp 29] [] (enabled_c HL hc hv l8 (fun m=>En.hdJ_in hc ⟨by omega,by omega⟩ _ m)) [.el (En.sysP p n t f) 0,.agg (En.cfV (Rd.shI p.top (Ns.shT p.top (Ns.cntE p n f)) c.sh) c),.agg ([iv x,iv y,iv kp]),.agg (En.msA (En.hdJ p f c p.msgs.length))] rfl rfl rfl) ⟨I0,I0,I0,I0,.inr (.inl rfl),T0⟩ T0 T0 (dM (aT 30 (bv (En.enB p n t f c (En.hdJ p f c p.msgs.length) x y kp))) (dM (aC (.int .i64 0)) (dE ?_)))))))))) (by kernel_rfl)
 show ETri J w0 _ _ _
 refine Zc (Zk ?_)
 refine Yr Try.results12 (.tmp rfl) (.tmp rfl) ?_
 rw [show En.eaR p n t f c x y kp=_ from if_pos hz,hz]
 exact rfl
theorem Enabled_c {p:Fm} (HP:FmOk p) (HL:FamLen p) {n t f:Int} {c:Cf} (HC:Rd.CgOk c) {x y kp:Int}:Ctr Try.prog J 12 [.agg (cFm p),.agg (cSz n t f),.agg (Rd.cCg c),.agg [iv x,iv y,iv kp]] (.tup [bv (En.eaR p n t f c x y kp),iv (Rd.vcE p n t f c)]):=by
  by_cases hz:(Rd.vcE p n t f c)=0
  · exact Enabled_ok HP HL HC hz
  exact Enabled_err HP HL HC hz
end Go.Proofs.Ytengacodacejiaa
namespace Go.Proofs.Ytengacodacejiaa
open Go.RowKit Go.Deep Go.ChangeShapes Go.WideShapes Go.ChangeAt Go.Joins
theorem Kr:Try.prog.cellsOf 3=1:=by kernel_rfl
theorem zcells_ints:Try.prog.cellsOf 24=1:=by kernel_rfl
set_option maxRecDepth 100000 in
theorem zint_of_trod {H:Type} {enc:TypeId × Value→H} {w:World} {base:Nat} {sp:Nat→Bool} {held:Bool} {n:Nat} {v:Value} {x:DataW H × List MemPlace} (h:DataW.trod enc Try.prog w base sp held n 3 [v]=some x):∃ c,v = .int .i64 c∧I64 c:=by
  obtain ⟨c,e1,_,e3⟩:=DataW.trod_int Try.underlying3 h
  simp at e1
  exact ⟨c,e1,I64.of_wf e3⟩
theorem cells_cfg:Try.prog.cellsOf 31=6:=by kernel_rfl
set_option maxRecDepth 100000 in
theorem cfg_of_trod {H:Type} {enc:TypeId × Value→H} {w:World} {base:Nat} {sp:Nat→Bool} {held:Bool} {n:Nat} {cs:List Value} {x:DataW H × List MemPlace} (h:DataW.trod enc Try.prog w base sp held n 31 cs=some x) :
    ∃ u0 xs0 u1 xs1 c2 u3 xs3 u4 xs4 c5,cs=[u0,u1,.int .i64 c2,u3,u4,.int .i64 c5]∧IsInts 0 w u0 xs0∧IsInts 0 w u1 xs1∧I64 c2∧IsInts 0 w u3 xs3∧IsInts 0 w u4 xs4∧I64 c5:=by
  obtain ⟨ys,m,_,_,hlen,_,hf⟩:=DataW.trod_struct Try.underlying31 h
  rw [cells_cfg] at hlen
  match cs,hlen with
  | [v0,v1,v2,v3,v4,v5],_ =>
    have h0:DataW.trod enc Try.prog w base sp held m 24 (([v0,v1,v2,v3,v4,v5].drop 0).take (Try.prog.cellsOf 24))=ys[0]? := hf 0 _ rfl
    rw [zcells_ints] at h0
    simp only [List.drop_zero,List.take_succ_cons,List.take_zero] at h0
    have h1:DataW.trod enc Try.prog w base sp held m 24 (([v0,v1,v2,v3,v4,v5].drop 1).take (Try.prog.cellsOf 24))=ys[1]? := hf 1 _ rfl
    rw [zcells_ints] at h1
    simp only [List.drop_succ_cons,List.drop_zero,List.take_succ_cons,List.take_zero] at h1
    have h2:DataW.trod enc Try.prog w base sp held m 3 (([v0,v1,v2,v3,v4,v5].drop 2).take (Try.prog.cellsOf 3))=ys[2]? := hf 2 _ rfl
    rw [Kr] at h2
    simp only [List.drop_succ_cons,List.drop_zero,List.take_succ_cons,List.take_zero] at h2
    have h3:DataW.trod enc Try.prog w base sp held m 24 (([v0,v1,v2,v3,v4,v5].drop 3).take (Try.prog.cellsOf 24))=ys[3]? := hf 3 _ rfl
    rw [zcells_ints] at h3
    simp only [List.drop_succ_cons,List.drop_zero,List.take_succ_cons,List.take_zero] at h3
    have h4:DataW.trod enc Try.prog w base sp held m 24 (([v0,v1,v2,v3,v4,v5].drop 4).take (Try.prog.cellsOf 24))=ys[4]? := hf 4 _ rfl
    rw [zcells_ints] at h4
    simp only [List.drop_succ_cons,List.drop_zero,List.take_succ_cons,List.take_zero] at h4
    have h5:DataW.trod enc Try.prog w base sp held m 3 (([v0,v1,v2,v3,v4,v5].drop 5).take (Try.prog.cellsOf 3))=ys[5]? := hf 5 _ rfl
    rw [Kr] at h5
    simp only [List.drop_succ_cons,List.drop_zero,List.take_succ_cons,List.take_zero] at h5
    have hx:∀ i,i<6→∃ y,ys[i]? = some y:=fun i hi=>⟨ys[i]'(by simp at *;omega),List.getElem?_eq_getElem _⟩
    obtain ⟨y0,e0⟩:=hx 0 (by omega)
    rw [e0] at h0
    obtain ⟨xs0,q0⟩:=Yd Try.underlying24 Try.underlying3 Kr h0
    obtain ⟨y1,e1⟩:=hx 1 (by omega)
    rw [e1] at h1
    obtain ⟨xs1,q1⟩:=Yd Try.underlying24 Try.underlying3 Kr h1
    obtain ⟨y2,e2⟩:=hx 2 (by omega)
    rw [e2] at h2
    obtain ⟨c2,rfl,q2⟩:=zint_of_trod h2
    obtain ⟨y3,e3⟩:=hx 3 (by omega)
    rw [e3] at h3
    obtain ⟨xs3,q3⟩:=Yd Try.underlying24 Try.underlying3 Kr h3
    obtain ⟨y4,e4⟩:=hx 4 (by omega)
    rw [e4] at h4
    obtain ⟨xs4,q4⟩:=Yd Try.underlying24 Try.underlying3 Kr h4
    obtain ⟨y5,e5⟩:=hx 5 (by omega)
    rw [e5] at h5
    obtain ⟨c5,rfl,q5⟩:=zint_of_trod h5
    exact ⟨v0,xs0,v1,xs1,c2,v3,xs3,v4,xs4,c5,rfl,q0,q1,q2,q3,q4,q5⟩
theorem cells_at:Try.prog.cellsOf 33=19:=by kernel_rfl
def IsAt (w:World) (v:Value) (q:Fm) (n t f:Int) (c:Cf):Prop :=
  ∃ fs cs:List Value,v = .agg (fs++([Value.int .i64 n,Value.int .i64 t,Value.int .i64 f]++cs)).toArray∧IsFam 0 w (.agg fs.toArray) q∧IsCf 0 w (.agg cs.toArray) c
set_option maxRecDepth 100000 in
theorem at_of_trod {H:Type} {enc:TypeId × Value→H} {w:World} {base:Nat} {sp:Nat→Bool} {n:Nat} {cs:List Value} {x:DataW H × List MemPlace} (h:DataW.trod enc Try.prog w base sp true n 33 cs=some x) :
    ∃ q a b d c,IsAt w (.agg cs.toArray) q a b d c:=by
  obtain ⟨ys,m,_,_,hlen,_,hf⟩:=DataW.trod_struct Try.underlying33 h
  rw [cells_at] at hlen
  have h0:DataW.trod enc Try.prog w base sp true m 27 ((cs.drop 0).take (Try.prog.cellsOf 27))=ys[0]? := hf 0 _ rfl
  rw [cells_famE] at h0
  have h1:DataW.trod enc Try.prog w base sp true m 29 ((cs.drop 10).take (Try.prog.cellsOf 29))=ys[1]? := hf 1 _ rfl
  rw [cells_size] at h1
  have h2:DataW.trod enc Try.prog w base sp true m 31 ((cs.drop 13).take (Try.prog.cellsOf 31))=ys[2]? := hf 2 _ rfl
  rw [cells_cfg] at h2
  have hx:∀ i,i<3→∃ y,ys[i]? = some y:=fun i hi=>⟨ys[i]'(by simp at *;omega),List.getElem?_eq_getElem _⟩
  obtain ⟨y0,e0⟩:=hx 0 (by omega)
  rw [e0] at h0
  obtain ⟨v,q,rfl,hq⟩:=fam_of_trod h0
  obtain ⟨y1,e1⟩:=hx 1 (by omega)
  rw [e1] at h1
  obtain ⟨c0,c1,c2,s1,_,_,_⟩:=size_of_trod h1
  obtain ⟨y2,e2⟩:=hx 2 (by omega)
  rw [e2] at h2
  obtain ⟨u0,xs0,u1,xs1,g2,u3,xs3,u4,xs4,g5,s2,q0,q1,q2,q3,q4,q5⟩:=cfg_of_trod h2
  refine ⟨q,c0,c1,c2,⟨xs0,xs1,g2,xs3,xs4,g5⟩,cs.take 10,(cs.drop 13).take 6,?_,?_,?_⟩
  · rw [← s1]
    have d:(cs.drop 13).take 6=cs.drop 13:=List.take_of_length_le (by rw [List.length_drop,hlen];decide)
    rw [d,show cs.drop 13=(cs.drop 10).drop 3 by rw [List.drop_drop],List.take_append_drop,List.take_append_drop]
  · simpa using hq
  exact ⟨u0,u1,u3,u4,by rw [s2],q0,q1,q2,q3,q4,q5⟩
set_option maxRecDepth 100000 in
theorem arg_at {H:Type} {enc:TypeId × Value→H} {w:World} {r:Reach} {b0:Nat} {v:Value} {d:DataW H} {p:List MemPlace} (hv:Value.okWide Try.prog w r b0 33 v) (h:DataW.Trod enc Try.prog w 0 (fun _=>true) true 33 v d p) :
    ∃ q a b d c,IsAt w v q a b d c:=by
  obtain ⟨cs,rfl,_⟩:=okWide_struct Try.underlying33 hv
  obtain ⟨fuel,hf⟩:=h
  obtain ⟨q,a,b,d,c,hq⟩:=at_of_trod hf
  exact ⟨q,a,b,d,c,by simpa [Value.cells] using hq⟩
end Go.Proofs.Ytengacodacejiaa
namespace Go.Proofs.Ytengacodacejiaa
open Go.RowKit Go.Deep
set_option maxHeartbeats 12800000
def wideCf (q:Cf):Bool:=decide (100<q.sh.length)||decide (100<q.st.length)||decide (100<q.se.length)||decide (100<q.fa.length)
theorem Wide_any {lo:Nat} {w:World} {v:Value} {q:Cf} (h:IsCf lo w v q) :
    Calls Try.prog 7 #[v] w fun e w'=>e = .returned (.bool (wideCf q))∧Below w.heap.size w w':=by
  obtain ⟨u0,u1,u3,u4,rfl,h0,h1,_,h3,h4,_⟩:=h
  have E:Hid (wideCf q=(decide (100<q.sh.length)||decide (100<q.st.length)||decide (100<q.se.length)||decide (100<q.fa.length))):=(rfl:wideCf q=_)
  have l0:q.sh.length≤9223372036854775807:=by obtain ⟨_,_,_,hh,hm,_⟩:=h0;unfold maxLen at hm;omega
  obtain ⟨a0,c0,rfl⟩:=h0.shape
  have l1:q.st.length≤9223372036854775807:=by obtain ⟨_,_,_,hh,hm,_⟩:=h1;unfold maxLen at hm;omega
  obtain ⟨a1,c1,rfl⟩:=h1.shape
  have l3:q.se.length≤9223372036854775807:=by obtain ⟨_,_,_,hh,hm,_⟩:=h3;unfold maxLen at hm;omega
  obtain ⟨a3,c3,rfl⟩:=h3.shape
  have l4:q.fa.length≤9223372036854775807:=by obtain ⟨_,_,_,hh,hm,_⟩:=h4;unfold maxLen at hm;omega
  obtain ⟨a4,c4,rfl⟩:=h4.shape
  clear h0 h1 h3 h4
  by_cases t0:100<q.sh.length
  · have i0:(100:Int)<((q.sh.length:Nat):Int):=by omega
    go_enter Try.func7,Try.ntmps7
    go_wp2_with fail
    go_ret
    exact ⟨Zi (by rw [E.out,decide_eq_true t0];simp),Zf _ _⟩
  have i0:¬ (100:Int)<((q.sh.length:Nat):Int):=by omega
  by_cases t1:100<q.st.length
  · have i1:(100:Int)<((q.st.length:Nat):Int):=by omega
    go_enter Try.func7,Try.ntmps7
    go_wp2_with fail
    go_ret
    exact ⟨Zi (by rw [E.out,decide_eq_true t1];simp),Zf _ _⟩
  have i1:¬ (100:Int)<((q.st.length:Nat):Int):=by omega
  by_cases t3:100<q.se.length
  · have i3:(100:Int)<((q.se.length:Nat):Int):=by omega
    go_enter Try.func7,Try.ntmps7
    go_wp2_with fail
    go_ret
    exact ⟨Zi (by rw [E.out,decide_eq_true t3];simp),Zf _ _⟩
  have i3:¬ (100:Int)<((q.se.length:Nat):Int):=by omega
  by_cases t4:100<q.fa.length
  · have i4:(100:Int)<((q.fa.length:Nat):Int):=by omega
    go_enter Try.func7,Try.ntmps7
    go_wp2_with fail
    go_ret
    exact ⟨Zi (by rw [E.out,decide_eq_true t4];simp),Zf _ _⟩
  have i4:¬ (100:Int)<((q.fa.length:Nat):Int):=by omega
  go_enter Try.func7,Try.ntmps7
  go_wp2_with fail
  go_ret
  exact ⟨Zi (by rw [E.out,decide_eq_false t0,decide_eq_false t1,decide_eq_false t3,decide_eq_false t4];simp),Zf _ _⟩
end Go.Proofs.Ytengacodacejiaa
namespace Go.Proofs.Ytengacodacejiaa
end Go.Proofs.Ytengacodacejiaa
namespace Go.Proofs.Ytengacodacejiaa
open Go.RowKit Go.Deep
namespace Rd
section
variable {J:World→Prop} {F ok:Nat→Prop} {w:World} {lo:Nat}
structure CgIn (c:Cf):Prop where
  sh:InOk c.sh
  st:InOk c.st
  se:InOk c.se
  fa:InOk c.fa
  cor:I64 c.cor
  val:I64 c.val
theorem cf_in {v:Value} {c:Cf} (h:IsCf lo w v c):CgIn c:=by
  obtain ⟨_,_,_,_,_,h0,h1,h2,h3,h4,h5⟩:=h
  exact ⟨h0.ok,h1.ok,h3.ok,h4.ok,h2,h5⟩
theorem cf_pu (hok:∀ b,lo≤b→b<w.heap.size→ok b) {v:Value} {c:Cf} (h:IsCf lo w v c):Pu F w ok (.agg (cCg c)) v:=by
  obtain ⟨u0,u1,u3,u4,rfl,h0,h1,_,h3,h4,_⟩:=h
  refine .agg rfl fun j hj => ?_
  match j,hj with
  | 0,_=>exact Yz hok h0
  | 1,_=>exact Yz hok h1
  | 2,_=>exact .v _
  | 3,_=>exact Yz hok h3
  | 4,_=>exact Yz hok h4
  | 5,_=>exact .v _
theorem cf_of {v:Value} {c:Cf} (H:CgIn c) (h:Pu F w ok (.agg (cCg c)) v):IsCf 0 w v c:=by
  obtain ⟨vs,rfl,hl,hv⟩:=Ka h
  match vs,hl,hv with
  | [v0,v1,v2,v3,v4,v5],_,hv =>
    have e2:=(hv 2 (by simp [cCg])).v_inv
    have e5:=(hv 5 (by simp [cCg])).v_inv
    simp only [List.getD_cons_succ,List.getD_cons_zero] at e2 e5
    subst e2 e5
    exact ⟨v0,v1,v3,v4,rfl,YW H.sh (fun _ _=>Nat.zero_le _) (hv 0 (by simp [cCg])),YW H.st (fun _ _=>Nat.zero_le _) (hv 1 (by simp [cCg])),H.cor,YW H.se (fun _ _=>Nat.zero_le _) (hv 3 (by simp [cCg])),YW H.fa (fun _ _=>Nat.zero_le _) (hv 4 (by simp [cCg])),H.val⟩
theorem agg_app {cs ds:List AV} {us vs:List Value} (h1:Pu F w ok (.agg cs) (.agg us.toArray)) (h2:Pu F w ok (.agg ds) (.agg vs.toArray)):Pu F w ok (.agg (cs++ds)) (.agg (us++vs).toArray):=by
  obtain ⟨us',e1,l1,p1⟩:=Ka h1
  obtain ⟨vs',e2,l2,p2⟩:=Ka h2
  obtain rfl:us=us':=by simpa using e1
  obtain rfl:vs=vs':=by simpa using e2
  refine .agg (by simp [l1,l2]) fun j hj => ?_
  by_cases hj':j<cs.length
  · rw [List.getElem_append_left hj']
    have:=p1 j hj'
    simpa [Array.getD_eq_getD_getElem?,List.getD_eq_getElem?_getD,List.getElem?_append_left (show j<us.length by omega)] using this
  rw [List.getElem_append_right (by omega)]
  have:=p2 (j-cs.length) (by simp at hj;omega)
  simpa [Array.getD_eq_getD_getElem?,List.getD_eq_getElem?_getD,List.getElem?_append_right (show us.length≤j by omega),l1] using this
theorem at_pu {v:Value} {q:Fm} {n t f:Int} {c:Cf} (h:IsAt w v q n t f c):Pu (fun _=>True) w (fun b=>b<w.heap.size) (.agg (cFm q++(cSz n t f++cCg c))) v:=by
  obtain ⟨fs,cs,rfl,hF,hC⟩:=h
  refine agg_app (famw hF) (agg_app (.agg rfl fun j hj => ?_) (cf_pu (fun _ _ h=>h) hC))
  match j,hj with
  | 0,_=>exact .v _
  | 1,_=>exact .v _
  | 2,_=>exact .v _
theorem Wide_c {c:Cf} (H:CgIn c):Ctr Try.prog J 7 [.agg (cCg c)] (bv (wideCf c)):=ctr1 fun w v _ h=>(Wide_any (cf_of H h)).mono fun _ _=>ret_sc
theorem cg_ok {c:Cf} (H:CgIn c) (h:wideCf c=false):CgOk c:=by
  unfold wideCf at h
  simp only [Bool.or_eq_false_iff,decide_eq_false_iff_not] at h
  exact ⟨H.sh,H.st,H.se,H.fa,by omega,by omega,by omega,by omega⟩
end
end Rd
end Go.Proofs.Ytengacodacejiaa
