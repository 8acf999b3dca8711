import Derived.Test.YtabgfofjgkibmaaProg
import Derived.ChangeArms
import Derived.Test.YtabgfofjgkibmaaGrplmbciild
import Derived.Test.YtabgfofjgkibmaaGrpodgfjebp
import Derived.Test.YtabgfofjgkibmaaGrpeoaaomih
import Derived.Test.YtabgfofjgkibmaaGrpldllmcan
import Derived.Test.YtabgfofjgkibmaaGrpihbhnjka
import Derived.Test.YtabgfofjgkibmaaGrppnbblghi
import Derived.Test.YtabgfofjgkibmaaGrpajaamfjl
import Derived.Test.YtabgfofjgkibmaaGrpfiakmkfi
set_option linter.all false
namespace Go.Proofs.Ytabgfofjgkibmaa
open Go.RowKit Go.Deep
set_option maxRecDepth 100000
set_option maxHeartbeats 6400000
variable {J:World→Prop}
theorem isProc_c {p:Fm} {n t f:Int} {m:Nat} (hn:(Ns.cntE p n f)=((m:Nat):Int)) {x:Int}:Ctr Try.prog J 61 [.el (En.sysP p n t f) 0,iv x] (bv (En.isP m x)):=by
 refine Zx Try.func61 rfl (by intro X hX;simp only [List.mem_cons,List.not_mem_nil,or_false] at hX;rcases hX with rfl | rfl;exact (show Plain (.el (En.sysP p n t f) 0) from .el (ZQ (En.plain_sysP p n t f)));exact .v _) (n:=15) rfl (by simp) (fun w0 => ?_)
 refine kW 15 [] [(0,.el (En.sysP p n t f) 0),(1,iv x)] (Zb (Za (pM (aC (.bool false)) (Ze (Zd (Zb ?_))))))
 by_cases hs1:0≤x
 refine Za (pM (mT 1 (iv x)) (oC (YZ rfl (dT hs1)) I0 I0 (pM (mT 6 bT) (qM (mT 1 (iv x)) (qM (mT 0 (.el (En.sysP p n t f) 0)) (gA (Zm (off:=0) (.tmp 9) rfl) I0 (gA (fe 13 10 U94 1) I0 (gA (lE (iv (Ns.cntE p n f)) 11 U3) I0 (gC (ZZ rfl rfl) I0 I0 (pP (pk true (bv (decide (x<(Ns.cntE p n f)))) bF rfl) (pM (aT 14 (bv (decide (x<(Ns.cntE p n f))))) (Ze (Zd (Zn ?_))))))))))))))
 refine Zv Try.results61 (.tmp rfl) ?_
 exact congrArg (fun x:Bool=>AV.v (.bool x)) ((by unfold En.isP;rw [← hn];simp only [hs1,decide_true,decide_false,Bool.and_true,Bool.true_and,Bool.false_and,Bool.and_false,Bool.true_or,Bool.false_or,Bool.or_true,Bool.or_false,Bool.not_true,Bool.not_false]))
 refine Za (pM (mT 1 (iv x)) (oC (YZ rfl (dF hs1)) I0 I0 (pM (mT 6 bF) (qK (qK (qK (qK (qK (qK (pP (pk false (.v (.tuple #[])) bF rfl) (pM (aT 14 bF) (Ze (Zd (Zn ?_))))))))))))))
 refine Zv Try.results61 (.tmp rfl) ?_
 exact congrArg (fun x:Bool=>AV.v (.bool x)) ((by unfold En.isP;rw [← hn];simp only [hs1,decide_true,decide_false,Bool.and_true,Bool.true_and,Bool.false_and,Bool.and_false,Bool.true_or,Bool.false_or,Bool.or_true,Bool.or_false,Bool.not_true,Bool.not_false]))
theorem hasPart_c {p:Fm} {r:Nat} (hr:r<p.rules.length):Ctr Try.prog J 66 [.el (p.rules.flatMap cRu) (r*18)] (bv (decide (p.rules[r].kind=2)||decide (p.rules[r].kind=5))):=by
 refine Zx Try.func66 rfl (by intro X hX;simp only [List.mem_cons,List.not_mem_nil,or_false] at hX;rcases hX with rfl;exact (.el (ZQ fun X hX=>by obtain ⟨x,_,hx⟩:=List.mem_flatMap.1 hX;exact Y3 x X hx))) (n:=15) rfl (by simp) (fun w0 => ?_)
 refine kW 15 [] [(0,.el (p.rules.flatMap cRu) (r*18))] (Zb (Za (pM (aC (.bool false)) (Ze (Zd (Zb ?_))))))
 by_cases hs1:p.rules[r].kind=2
 refine Za (pM (mT 0 (.el (p.rules.flatMap cRu) (r*18))) (oA (Zm (off:=r*18) (.tmp 3) rfl) I0 (oA (fe (r*18+1) 4 U55 1) I0 (oA (lE (iv p.rules[r].kind) 5 U3 ((Zu lenRu p.rules r 1 (by omega) (by decide)).trans rfl)) I0 (oC (ZD rfl (dT hs1)) I0 I0 (pM (mT 7 bT) (qK (qK (qK (qK (qK (pP (pk true bT (.v (.tuple #[])) rfl) (pM (aT 14 bT) (Ze (Zd (Zn ?_))))))))))))))))
 refine Zv Try.results66 (.tmp rfl) ?_
 exact congrArg (fun x:Bool=>AV.v (.bool x)) ((by simp only [hs1,decide_true,decide_false,Bool.and_true,Bool.true_and,Bool.false_and,Bool.and_false,Bool.true_or,Bool.false_or,Bool.or_true,Bool.or_false,Bool.not_true,Bool.not_false]))
 refine Za (pM (mT 0 (.el (p.rules.flatMap cRu) (r*18))) (oA (Zm (off:=r*18) (.tmp 3) rfl) I0 (oA (fe (r*18+1) 4 U55 1) I0 (oA (lE (iv p.rules[r].kind) 5 U3 ((Zu lenRu p.rules r 1 (by omega) (by decide)).trans rfl)) I0 (oC (ZD rfl (dF hs1)) I0 I0 (pM (mT 7 bF) (qM (mT 0 (.el (p.rules.flatMap cRu) (r*18))) (gA (Zm (off:=r*18) (.tmp 9) rfl) I0 (gA (fe (r*18+1) 10 U55 1) I0 (gA (lE (iv p.rules[r].kind) 11 U3 ((Zu lenRu p.rules r 1 (by omega) (by decide)).trans rfl)) I0 (gC (ZD rfl rfl) I0 I0 (pP (pk false bT (bv (decide (p.rules[r].kind=5))) rfl) (pM (aT 14 (bv (decide (p.rules[r].kind=5)))) (Ze (Zd (Zn ?_))))))))))))))))
 refine Zv Try.results66 (.tmp rfl) ?_
 exact congrArg (fun x:Bool=>AV.v (.bool x)) ((by simp only [hs1,decide_true,decide_false,Bool.and_true,Bool.true_and,Bool.false_and,Bool.and_false,Bool.true_or,Bool.false_or,Bool.or_true,Bool.or_false,Bool.not_true,Bool.not_false]))
theorem heard_c {p:Fm} {n t f:Int} {c:Cf} (hc:En.CfV p n f c) (hf:0≤f∧f≤1048576) (h3:p.msgs.length≤3) {sx:Int}:Ctr Try.prog J 37 [.el (En.sysP p n t f) 0,.agg (En.cfV sx c)] (.agg (En.msA (En.hdJ p f c p.msgs.length))):=by
 refine Zx Try.func37 rfl (by intro X hX;simp only [List.mem_cons,List.not_mem_nil,or_false] at hX;rcases hX with rfl | rfl;exact (show Plain (.el (En.sysP p n t f) 0) from .el (ZQ (En.plain_sysP p n t f)));exact Zk (En.plain_cfV _ c)) (n:=49) rfl (by simp) (fun w0 => ?_)
 refine kW 49 [] [(0,.el (En.sysP p n t f) 0),(1,.agg (En.cfV sx c))] (Zb (Za (oA (ZK (X := .agg (En.cfV sx c)) (.tmp 1) rfl rfl rfl) I0 (ZM rfl (ZT (z := .agg #[.int .i64 0,.int .i64 0,.int .i64 0]) (k:=1) rfl (by kernel_rfl)) T0 T0 rfl (Ze (Zd (Zb (Za (oA (fe 9 3 U70 3) I0 (oA (Zl (z:=3) (ds:=[iv (c.se.getD 0 0),iv (c.se.getD 1 0),iv (c.se.getD 2 0)]) (.tmp 7) rfl U68 rfl (by kernel_rfl) (by kernel_rfl) rfl) I0 (ZM rfl (ZT (z := .agg #[.int .i64 0,.int .i64 0,.int .i64 0]) (k:=2) rfl (by kernel_rfl)) T0 T0 rfl (ZM rfl (sB 3 5 (.tmp 8) (.agg [iv (c.se.getD 0 0),iv (c.se.getD 1 0),iv (c.se.getD 2 0)])) ⟨I0,I0,T0⟩ ⟨rfl,T0⟩ rfl (Ze (Zd (Zb (Zb (Za (pM (mT 0 (.el (En.sysP p n t f) 0)) (oA (Zm (off:=0) (.tmp 9) rfl) I0 (oA (fe 0 10 U94 10) I0 (oA (fe 3 11 U27 1) I0 (oA (lE (ZH p.msgs) 12 U22) I0 (oA (nS 13 U22) I0 ?_)))))))))))))))))))))))
 refine pM (YX (.const (.int .i64 0)) (iv 0) rfl) (kN 49 [(1,.box 68 [iv 0,iv 0,iv 0]),(2,.box 68 [iv (c.se.getD 0 0),iv (c.se.getD 1 0),iv (c.se.getD 2 0)])] [(0,.el (En.sysP p n t f) 0),(3,.el (En.cfV sx c) 0),(4,.box 1 0),(5,.box 2 0),(14,iv p.msgs.length),(15,iv 0)] (Zd (ZA ?_)))
 refine Yx (σ:={j:Nat // j≤p.msgs.length}) (fun s=>(ofL [(1,.box 68 [iv 0,iv 0,iv 0]),(2,.box 68 (En.msA (En.hdJ p f c s.1)))],ofT 49 [(0,.el (En.sysP p n t f) 0),(3,.el (En.cfV sx c) 0),(4,.box 1 0),(5,.box 2 0),(14,iv p.msgs.length),(15,iv s.1)])) (fun s=>p.msgs.length-s.1) ⟨0,Nat.zero_le _⟩ (ZC _ _ rfl (by kernel_rfl) (by kernel_rfl)) (fun s => ?_)
 obtain ⟨j,hj0⟩:=s
 show ETri J w0 (ofL [(1,.box 68 [iv 0,iv 0,iv 0]),(2,.box 68 (En.msA (En.hdJ p f c j)))]) (ofT 49 [(0,.el (En.sysP p n t f) 0),(3,.el (En.cfV sx c) 0),(4,.box 1 0),(5,.box 2 0),(14,iv p.msgs.length),(15,iv j)]) _
 refine Zb ?_
 by_cases hs1:((j:Nat):Int)<((p.msgs.length:Nat):Int)
 have hj1:j<3:=by omega
 have hb1:=En.hdJ_in hc hf j j
 have hb2:=hc.fa_at j
 refine Za (oC (ZZ rfl (dT hs1)) I0 I0 (Ze (Zd (Zb (Zq rfl (Zp (Zd (Zb (ZA (Zb (Za (pM (mT 15 (iv j)) (pM (aT 17 (iv j)) (Ze (Zd (Zb (Za (pM (mT 0 (.el (En.sysP p n t f) 0)) (oA (Zm (off:=0) (.tmp 18) rfl) I0 (oA (fe 0 19 U94 10) I0 (oA (fe 5 20 U27 1) I0 (oA (lE (iv p.fault) 21 U3) I0 (Ze ?_)))))))))))))))))))))))
 refine Zd (ZA (Zb (Zb ?_)))
 by_cases hs2:p.fault=1
 refine Za (oC (ZD rfl (dT hs2)) I0 I0 (pM (aT 24 bT) (Ze (Zd (Zq rfl (Zp (Zd (Zq rfl ?_))))))))
 refine Zr (dM (mT 6 (iv j)) (dC (Z7 (off':=0+j*1) (.tmp 5) (.tmp 26) rfl U68 (by kernel_rfl) (by omega) (by omega) rfl) I0 I0 (dB (lB (.box 68 (En.msA (En.hdJ p f c j))) (iv (En.hdJ p f c j j)) (.tmp 27) rfl U3 rfl (En.msA_get (by omega))) I0 rfl (dM (mT 6 (iv j)) (dA (fe 12 3 U70 3) I0 (dC (Z0 (off':=12+j*1) (.tmp 30) (.tmp 29) rfl U68 (by kernel_rfl) (by omega) (by omega) rfl) I0 I0 (dA (lE (iv (c.fa.getD j 0)) 31 U3 (En.cfV_fa (by omega))) I0 (dC (Yg (c:=(En.hdJ p f c j j)+(c.fa.getD j 0)) rfl (w64 (by omega) (by omega) (by omega))) I0 I0 (dC (Z7 (off':=0+j*1) (.tmp 5) (.tmp 26) rfl U68 (by kernel_rfl) (by omega) (by omega) rfl) I0 I0 (dR (Zw (T0:=68) (X:=iv ((En.hdJ p f c j j)+(c.fa.getD j 0))) (off:=0+j*1) (cs:=En.msA (En.hdJ p f c j)) (ds:=En.msA (En.hdJ p f c (j+1))) (z:=1) (.tmp 34) (.tmp 33) rfl (by kernel_rfl) (by kernel_rfl) (by kernel_rfl) (by show _≤3;omega) (En.msA_step (by omega) (En.hd_12 (.inl hs2)))) ⟨I0,I0,T0⟩ ⟨rfl,T0⟩ rfl (dE ?_))))))))))) (by kernel_rfl)
 show ETri J w0 _ _ _
 refine kW 49 [(1,.box 68 [iv 0,iv 0,iv 0]),(2,.box 68 (En.msA (En.hdJ p f c (j+1))))] [(0,.el (En.sysP p n t f) 0),(3,.el (En.cfV sx c) 0),(4,.box 1 0),(5,.box 2 0),(6,iv j),(14,iv p.msgs.length),(15,iv j),(16,bT),(22,iv p.fault),(23,bT)] (ZU (ZU (Zd (Za (oC (Yg (c:=((j+1:Nat):Int)) rfl (w64 (by omega) (by omega) (by omega))) I0 I0 (pM (mT 47 (iv (j+1:Nat))) (kN 49 [(1,.box 68 [iv 0,iv 0,iv 0]),(2,.box 68 (En.msA (En.hdJ p f c (j+1))))] [(0,.el (En.sysP p n t f) 0),(3,.el (En.cfV sx c) 0),(4,.box 1 0),(5,.box 2 0),(6,iv j),(14,iv p.msgs.length),(15,iv (j+1:Nat)),(16,bT),(22,iv p.fault),(23,bT)] (Zd ?_))))))))
 refine ZW ⟨j+1,by omega⟩ (show p.msgs.length-(j+1)<p.msgs.length-j by omega) ?_
 show Wk _ _ (ofL [(1,.box 68 [iv 0,iv 0,iv 0]),(2,.box 68 (En.msA (En.hdJ p f c (j+1))))]) (ofT 49 [(0,.el (En.sysP p n t f) 0),(3,.el (En.cfV sx c) 0),(4,.box 1 0),(5,.box 2 0),(14,iv p.msgs.length),(15,iv ((j+1):Nat))])
 exact ZC _ _ rfl (by kernel_rfl) (by kernel_rfl)
 refine Za (oC (ZD rfl (dF hs2)) I0 I0 (pM (aT 24 bF) (Ze (Zd (Zs rfl ?_)))))
 by_cases hs3:p.fault=2
 refine Za (oC (ZD rfl (dT hs3)) I0 I0 (pM (aT 25 bT) (Ze (Zd (Zq rfl ?_)))))
 refine Zr (dM (mT 6 (iv j)) (dC (Z7 (off':=0+j*1) (.tmp 5) (.tmp 26) rfl U68 (by kernel_rfl) (by omega) (by omega) rfl) I0 I0 (dB (lB (.box 68 (En.msA (En.hdJ p f c j))) (iv (En.hdJ p f c j j)) (.tmp 27) rfl U3 rfl (En.msA_get (by omega))) I0 rfl (dM (mT 6 (iv j)) (dA (fe 12 3 U70 3) I0 (dC (Z0 (off':=12+j*1) (.tmp 30) (.tmp 29) rfl U68 (by kernel_rfl) (by omega) (by omega) rfl) I0 I0 (dA (lE (iv (c.fa.getD j 0)) 31 U3 (En.cfV_fa (by omega))) I0 (dC (Yg (c:=(En.hdJ p f c j j)+(c.fa.getD j 0)) rfl (w64 (by omega) (by omega) (by omega))) I0 I0 (dC (Z7 (off':=0+j*1) (.tmp 5) (.tmp 26) rfl U68 (by kernel_rfl) (by omega) (by omega) rfl) I0 I0 (dR (Zw (T0:=68) (X:=iv ((En.hdJ p f c j j)+(c.fa.getD j 0))) (off:=0+j*1) (cs:=En.msA (En.hdJ p f c j)) (ds:=En.msA (En.hdJ p f c (j+1))) (z:=1) (.tmp 34) (.tmp 33) rfl (by kernel_rfl) (by kernel_rfl) (by kernel_rfl) (by show _≤3;omega) (En.msA_step (by omega) (En.hd_12 (.inr hs3)))) ⟨I0,I0,T0⟩ ⟨rfl,T0⟩ rfl (dE ?_))))))))))) (by kernel_rfl)
 show ETri J w0 _ _ _
 refine kW 49 [(1,.box 68 [iv 0,iv 0,iv 0]),(2,.box 68 (En.msA (En.hdJ p f c (j+1))))] [(0,.el (En.sysP p n t f) 0),(3,.el (En.cfV sx c) 0),(4,.box 1 0),(5,.box 2 0),(6,iv j),(14,iv p.msgs.length),(15,iv j),(16,bT),(22,iv p.fault),(23,bT)] (ZU (ZU (Zd (Za (oC (Yg (c:=((j+1:Nat):Int)) rfl (w64 (by omega) (by omega) (by omega))) I0 I0 (pM (mT 47 (iv (j+1:Nat))) (kN 49 [(1,.box 68 [iv 0,iv 0,iv 0]),(2,.box 68 (En.msA (En.hdJ p f c (j+1))))] [(0,.el (En.sysP p n t f) 0),(3,.el (En.cfV sx c) 0),(4,.box 1 0),(5,.box 2 0),(6,iv j),(14,iv p.msgs.length),(15,iv (j+1:Nat)),(16,bT),(22,iv p.fault),(23,bT)] (Zd ?_))))))))
 refine ZW ⟨j+1,by omega⟩ (show p.msgs.length-(j+1)<p.msgs.length-j by omega) ?_
 show Wk _ _ (ofL [(1,.box 68 [iv 0,iv 0,iv 0]),(2,.box 68 (En.msA (En.hdJ p f c (j+1))))]) (ofT 49 [(0,.el (En.sysP p n t f) 0),(3,.el (En.cfV sx c) 0),(4,.box 1 0),(5,.box 2 0),(14,iv p.msgs.length),(15,iv ((j+1):Nat))])
 exact ZC _ _ rfl (by kernel_rfl) (by kernel_rfl)
 refine Za (oC (ZD rfl (dF hs3)) I0 I0 (pM (aT 25 bF) (Ze (Zd (Zs rfl (Zb ?_))))))
 by_cases hs4:p.fault=3
 refine Za (oC (ZD rfl (dT hs4)) I0 I0 (pM (aT 36 bT) (Ze (Zd (Zq rfl ?_)))))
 refine Zr (dM (mT 6 (iv j)) (dC (Z7 (off':=0+j*1) (.tmp 5) (.tmp 37) rfl U68 (by kernel_rfl) (by omega) (by omega) rfl) I0 I0 (dB (lB (.box 68 (En.msA (En.hdJ p f c j))) (iv (En.hdJ p f c j j)) (.tmp 38) rfl U3 rfl (En.msA_get (by omega))) I0 rfl (dM (mT 0 (.el (En.sysP p n t f) 0)) (dA (Zm (off:=0) (.tmp 40) rfl) I0 (dA (fe 10 41 U94 3) I0 (dA (fe 12 42 U29 1) I0 (dA (lE (iv f) 43 U3) I0 (dC (Yg (c:=(En.hdJ p f c j j)+f) rfl (w64 (by omega) (by omega) (by omega))) I0 I0 (dC (Z7 (off':=0+j*1) (.tmp 5) (.tmp 37) rfl U68 (by kernel_rfl) (by omega) (by omega) rfl) I0 I0 (dR (Zw (T0:=68) (X:=iv ((En.hdJ p f c j j)+f)) (off:=0+j*1) (cs:=En.msA (En.hdJ p f c j)) (ds:=En.msA (En.hdJ p f c (j+1))) (z:=1) (.tmp 46) (.tmp 45) rfl (by kernel_rfl) (by kernel_rfl) (by kernel_rfl) (by show _≤3;omega) (En.msA_step (by omega) (En.hd_3 hs2 hs3 hs4))) ⟨I0,I0,T0⟩ ⟨rfl,T0⟩ rfl (dE ?_)))))))))))) (by kernel_rfl)
 show ETri J w0 _ _ _
 refine kW 49 [(1,.box 68 [iv 0,iv 0,iv 0]),(2,.box 68 (En.msA (En.hdJ p f c (j+1))))] [(0,.el (En.sysP p n t f) 0),(3,.el (En.cfV sx c) 0),(4,.box 1 0),(5,.box 2 0),(6,iv j),(14,iv p.msgs.length),(15,iv j),(16,bT),(22,iv p.fault),(23,bF),(35,bT)] (ZU (ZU (Zd (Za (oC (Yg (c:=((j+1:Nat):Int)) rfl (w64 (by omega) (by omega) (by omega))) I0 I0 (pM (mT 47 (iv (j+1:Nat))) (kN 49 [(1,.box 68 [iv 0,iv 0,iv 0]),(2,.box 68 (En.msA (En.hdJ p f c (j+1))))] [(0,.el (En.sysP p n t f) 0),(3,.el (En.cfV sx c) 0),(4,.box 1 0),(5,.box 2 0),(6,iv j),(14,iv p.msgs.length),(15,iv (j+1:Nat)),(16,bT),(22,iv p.fault),(23,bF),(35,bT)] (Zd ?_))))))))
 refine ZW ⟨j+1,by omega⟩ (show p.msgs.length-(j+1)<p.msgs.length-j by omega) ?_
 show Wk _ _ (ofL [(1,.box 68 [iv 0,iv 0,iv 0]),(2,.box 68 (En.msA (En.hdJ p f c (j+1))))]) (ofT 49 [(0,.el (En.sysP p n t f) 0),(3,.el (En.cfV sx c) 0),(4,.box 1 0),(5,.box 2 0),(14,iv p.msgs.length),(15,iv ((j+1):Nat))])
 exact ZC _ _ rfl (by kernel_rfl) (by kernel_rfl)
 refine Za (oC (ZD rfl (dF hs4)) I0 I0 (pM (aT 36 bF) (Ze (Zd (Zs rfl (Zp (ZU (ZU (Zd (Za (oC (Yg (c:=((j+1:Nat):Int)) rfl (w64 (by omega) (by omega) (by omega))) I0 I0 (pM (mT 47 (iv (j+1:Nat))) (kN 49 [(1,.box 68 [iv 0,iv 0,iv 0]),(2,.box 68 (En.msA (En.hdJ p f c j)))] [(0,.el (En.sysP p n t f) 0),(3,.el (En.cfV sx c) 0),(4,.box 1 0),(5,.box 2 0),(6,iv j),(14,iv p.msgs.length),(15,iv (j+1:Nat)),(16,bT),(22,iv p.fault),(23,bF),(35,bF)] (Zd ?_))))))))))))))
 refine ZW ⟨j+1,by omega⟩ (show p.msgs.length-(j+1)<p.msgs.length-j by omega) ?_
 show Wk _ _ (ofL [(1,.box 68 [iv 0,iv 0,iv 0]),(2,.box 68 (En.msA (En.hdJ p f c (j+1))))]) (ofT 49 [(0,.el (En.sysP p n t f) 0),(3,.el (En.cfV sx c) 0),(4,.box 1 0),(5,.box 2 0),(14,iv p.msgs.length),(15,iv ((j+1):Nat))])
 rw [En.hdJ_skip hs2 hs3 hs4]
 exact ZC _ _ rfl (by kernel_rfl) (by kernel_rfl)
 refine Za (oC (ZZ rfl (dF hs1)) I0 I0 (Ze (Zd (Zb (Zs rfl (Yp (Zy (Zy (t_hit (Zd (Zb (Za (oB (lS (En.msA (En.hdJ p f c j)) 3 5 U68) I0 rfl (ZM rfl (sB 3 4 (.tmp 48) (.agg (En.msA (En.hdJ p f c j)))) ⟨I0,I0,T0⟩ ⟨rfl,T0⟩ rfl (Ze (Zd (Zn ?_)))))))))))))))))
 refine Zv Try.results37 (.cellS rfl rfl U68 rfl (z:=3) (by kernel_rfl) rfl (by decide)) ?_
 obtain hje:j=p.msgs.length:=by omega
 rw [hje]
 exact rfl
theorem index_c (xs:List Int) (x:Int) (hx:xs.length≤9223372036854775807):Ctr Try.prog J 92 [Zc xs,iv x] (iv (idxI xs x)):=by
 refine Zx Try.func92 rfl (by intro X hX;simp only [List.mem_cons,List.not_mem_nil,or_false] at hX;rcases hX with rfl | rfl;exact Ye _;exact .v _) (n:=19) rfl (by simp) (fun w0 => ?_)
 refine kW 19 [] [(0,Zc xs),(1,iv x)] (Zb (Za (pM (aC (.int .i64 0)) (kN 19 [] [(0,Zc xs),(1,iv x),(4,iv 0)] (Zd (Zb (Zb (Za (pM (mT 0 (Zc xs)) (oA (nS 6 U24) I0 (pM (YX (.const (.int .i64 0)) (iv 0) rfl) (kN 19 [] [(0,Zc xs),(1,iv x),(4,iv 0),(7,iv xs.length),(8,iv 0)] (Zd (ZA ?_))))))))))))))
 refine Yx (σ:={k:Nat // k≤xs.length∧noI xs x k}) (fun s=>(ofL [],ofT 19 [(0,Zc xs),(1,iv x),(7,iv xs.length),(8,iv s.1)])) (fun s=>xs.length-s.1) ⟨0,Nat.zero_le _,noI_zero _ _⟩ (ZC [] _ rfl (by kernel_rfl) (by kernel_rfl)) (fun s => ?_)
 obtain ⟨k,hk0,hs0⟩:=s
 show ETri J w0 (ofL []) (ofT 19 [(0,Zc xs),(1,iv x),(7,iv xs.length),(8,iv k)]) _
 refine Zb ?_
 by_cases hs1:((k:Nat):Int)<((xs.length:Nat):Int)
 refine Za (oC (ZZ rfl (dT hs1)) I0 I0 (Ze (Zd (Zb (Zq rfl (Zp (Zd (Zb (ZA (Zb (Za (pM (mT 8 (iv k)) (pM (aT 10 (iv k)) (Ze (Zd (Zb ?_))))))))))))))))
 by_cases hs2:x=xs[k]
 refine Za (pM (mT 1 (iv x)) (pM (mT 0 (Zc xs)) (pM (mT 5 (iv k)) (oC (xS (k*1) 12 13 U24) I0 I0 (oA (lE (iv xs[k]) 14 U3 (map_at1 xs (by omega))) I0 (oC (ZD rfl (dT hs2)) I0 I0 (Ze (Zd (Zq rfl (Zb (Za (pM (mT 5 (iv k)) (pM (aT 17 (iv k)) (Ze (Zd (Zn (ZJ (Zj (Zj (ZJ (Zj ?_)))))))))))))))))))))
 refine Zv Try.results92 (.tmp rfl) ?_
 exact congrArg (fun x:Int=>AV.v (.int .i64 x)) (idx_yes (by omega) hs0 hs2)
 refine Za (pM (mT 1 (iv x)) (pM (mT 0 (Zc xs)) (pM (mT 5 (iv k)) (oC (xS (k*1) 12 13 U24) I0 I0 (oA (lE (iv xs[k]) 14 U3 (map_at1 xs (by omega))) I0 (oC (ZD rfl (dF hs2)) I0 I0 (Ze (Zd (Zs rfl (Zp (ZU (Zd (Za (oC (Yg (c:=((k+1:Nat):Int)) rfl (w64 (by omega) (by omega) (by omega))) I0 I0 (pM (mT 18 (iv (k+1:Nat))) (kN 19 [] [(0,Zc xs),(1,iv x),(5,iv k),(7,iv xs.length),(8,iv (k+1:Nat)),(9,bT),(16,bF)] (Zd ?_)))))))))))))))))
 refine ZW ⟨k+1,by omega,noI_succ (by omega) hs0 hs2⟩ (show xs.length-(k+1)<xs.length-k by omega) ?_
 exact ZC [] _ rfl (by kernel_rfl) (by kernel_rfl)
 refine Za (oC (ZZ rfl (dF hs1)) I0 I0 (Ze (Zd (Zb (Zs rfl (Yp (Zy (Zy (t_hit (Zd (Zb (Za (pM (aC (.int .i64 (-1))) (Ze (Zd (Zn ?_))))))))))))))))
 refine Zv Try.results92 (.tmp rfl) ?_
 exact congrArg (fun x:Int=>AV.v (.int .i64 x)) (idx_no (k:=k) (by omega) hs0)
theorem KJ (xs:List Int) (x:Int) (hx:xs.length≤9223372036854775807):Ctr Try.prog J 80 [Zc xs,iv x] (bv (decide (x∈xs))):=by
 refine Zx Try.func80 rfl (by intro X hX;simp only [List.mem_cons,List.not_mem_nil,or_false] at hX;rcases hX with rfl | rfl;exact Ye _;exact .v _) (n:=9) rfl (by simp) (fun w0 => ?_)
 refine kW 9 [] [(0,Zc xs),(1,iv x)] (Zb (Za (pM (aC (.bool false)) (Ze (Zd (Zb (Za (pM (mT 0 (Zc xs)) (pM (mT 1 (iv x)) (oD (sc #[.tmp 5,.tmp 6] [] (index_c xs x hx) [Zc xs,iv x] rfl rfl rfl) I0 I0 I0 (oC (YZ rfl rfl) I0 I0 (pM (aT 8 (bv (decide (0≤idxI xs x)))) (Ze (Zd (Zn ?_)))))))))))))))
 refine Zv Try.results80 (.tmp rfl) ?_
 exact congrArg (fun b:Bool=>AV.v (.bool b)) (idx_has xs x)
theorem En.or_t {a b:Prop} [Decidable a] [Decidable b] (h:(decide a||decide b)=true):a∨b:=by simpa using h
theorem En.or_f {a b:Prop} [Decidable a] [Decidable b] (h:(decide a||decide b)=false):¬ (a∨b):=by simpa using h
theorem En.isP_in {m:Nat} {x:Int} (h:En.isP m x=true):0≤x∧x<((m:Nat):Int):=by
  unfold En.isP at h
  simpa using h
set_option maxRecDepth 100000 in
set_option maxHeartbeats 6400000 in
theorem partFits_c {p:Fm} {n t f:Int} {c:Cf} (hn:(Ns.cntE p n f)=((c.st.length:Nat):Int)) (l8:c.st.length≤8) {sx:Int} {r:Nat} (hr:r<p.rules.length) {i:Nat} (hi:i<c.st.length) {kp:Int}:Ctr Try.prog J 62 [.el (En.sysP p n t f) 0,.agg (En.cfV sx c),.el (p.rules.flatMap cRu) (r*18),.agg [iv r,iv i,iv kp]] (bv (En.ptB c p.rules[r] i kp)):=by
 refine Zx Try.func62 rfl (by intro X hX;simp only [List.mem_cons,List.not_mem_nil,or_false] at hX;rcases hX with rfl | rfl | rfl | rfl;exact (show Plain (.el (En.sysP p n t f) 0) from .el (ZQ (En.plain_sysP p n t f)));exact Zk (En.plain_cfV _ c);exact (.el (ZQ fun X hX=>by obtain ⟨x,_,hx⟩:=List.mem_flatMap.1 hX;exact Y3 x X hx));exact Zk (fun X hX=>by simp only [List.mem_cons,List.not_mem_nil,or_false] at hX;rcases hX with rfl | rfl | rfl<;>exact .v _)) (n:=38) rfl (by simp) (fun w0 => ?_)
 refine kW 38 [] [(0,.el (En.sysP p n t f) 0),(1,.agg (En.cfV sx c)),(2,.el (p.rules.flatMap cRu) (r*18)),(3,.agg [iv r,iv i,iv kp])] (Zb (Za (oA (ZK (X := .agg (En.cfV sx c)) (.tmp 1) rfl rfl rfl) I0 (oA (ZK (X := .agg [iv r,iv i,iv kp]) (.tmp 3) rfl rfl rfl) I0 (pM (aC (.bool false)) (Ze (Zd (Zb (Zb ?_)))))))))
 by_cases hs1:(decide (p.rules[r].kind=2)||decide (p.rules[r].kind=5))=true
 refine Za (pM (mT 2 (.el (p.rules.flatMap cRu) (r*18))) (oC (sc #[.tmp 9] [] (Yf (hasPart_c hr) hs1) [.el (p.rules.flatMap cRu) (r*18)] rfl rfl rfl) I0 I0 (oA (Ya rfl rfl) I0 (Ze (Zd (Zs rfl (Zp (Zd (Zb ?_)))))))))
 by_cases hs2:(En.isP c.st.length kp)=true
 have hk0:=En.isP_in hs2
 by_cases hs3:kp=((i:Nat):Int)
 refine Zr (dM (mT 0 (.el (En.sysP p n t f) 0)) (dA (fe 2 7 U49 1) I0 (dA (lE (iv kp) 16 U3) I0 (dD (sc #[.tmp 15,.tmp 17] [] (Yf (isProc_c hn) hs2) [.el (En.sysP p n t f) 0,iv kp] rfl rfl rfl) I0 I0 I0 (dM (mT 18 bT) (dA (fe 2 7 U49 1) I0 (dA (lE (iv kp) 20 U3) I0 (dA (fe 1 7 U49 1) I0 (dA (lE (iv i) 22 U3) I0 (dC (ZX rfl (dT' hs3)) I0 I0 (dP (pk true bF bF rfl) (dM (mT 25 bF) (dK (dK (dK (dK (dK (dK (dK (dK (dK (dK (dP (pk false (.v (.tuple #[])) bF rfl) (dM (aT 37 bF) (dE ?_))))))))))))))))))))))))) (by kernel_rfl)
 show ETri J w0 _ _ _
 refine Zd (Zn ?_)
 refine Zv Try.results62 (.tmp rfl) ?_
 rw [show En.ptB c p.rules[r] i kp=_ from if_pos (En.or_t hs1)]
 exact congrArg (fun x:Bool=>AV.v (.bool x)) ((by simp only [hs2,hs3,decide_true,decide_false,Bool.and_true,Bool.true_and,Bool.false_and,Bool.and_false,Bool.true_or,Bool.false_or,Bool.or_true,Bool.or_false,Bool.not_true,Bool.not_false]))
 refine Zr (dM (mT 0 (.el (En.sysP p n t f) 0)) (dA (fe 2 7 U49 1) I0 (dA (lE (iv kp) 16 U3) I0 (dD (sc #[.tmp 15,.tmp 17] [] (Yf (isProc_c hn) hs2) [.el (En.sysP p n t f) 0,iv kp] rfl rfl rfl) I0 I0 I0 (dM (mT 18 bT) (dA (fe 2 7 U49 1) I0 (dA (lE (iv kp) 20 U3) I0 (dA (fe 1 7 U49 1) I0 (dA (lE (iv i) 22 U3) I0 (dC (ZX rfl (dF' hs3)) I0 I0 (dP (pk true bT bF rfl) (dM (mT 25 bT) (dA (fe 2 7 U49 1) I0 (dA (lE (iv kp) 27 U3) I0 (dA (fe 1 5 U70 8) I0 (dC (Z0 (off':=1+kp.toNat*1) (.tmp 29) (.tmp 28) rfl U66 (by kernel_rfl) (by omega) (by omega) rfl) I0 I0 (dA (lE (iv (c.st.getD kp.toNat 0)) 30 U3 (En.cfV_st (by omega))) I0 (dM (mT 2 (.el (p.rules.flatMap cRu) (r*18))) (dA (Zm (off:=r*18) (.tmp 32) rfl) I0 (dA (fe (r*18+4) 33 U55 1) I0 (dA (lE (iv p.rules[r].pf) 34 U3 ((Zu lenRu p.rules r 4 (by omega) (by decide)).trans rfl)) I0 (dC (ZD rfl rfl) I0 I0 (dP (pk true (bv (decide ((c.st.getD kp.toNat 0)=p.rules[r].pf))) bF rfl) (dM (aT 37 (bv (decide ((c.st.getD kp.toNat 0)=p.rules[r].pf)))) (dE ?_))))))))))))))))))))))))) (by kernel_rfl)
 show ETri J w0 _ _ _
 refine Zd (Zn ?_)
 refine Zv Try.results62 (.tmp rfl) ?_
 rw [show En.ptB c p.rules[r] i kp=_ from if_pos (En.or_t hs1)]
 exact congrArg (fun x:Bool=>AV.v (.bool x)) ((by simp only [hs2,hs3,decide_true,decide_false,Bool.and_true,Bool.true_and,Bool.false_and,Bool.and_false,Bool.true_or,Bool.false_or,Bool.or_true,Bool.or_false,Bool.not_true,Bool.not_false]))
 have hs2f:(En.isP c.st.length kp)=false:=by simpa using hs2
 refine Zr (dM (mT 0 (.el (En.sysP p n t f) 0)) (dA (fe 2 7 U49 1) I0 (dA (lE (iv kp) 16 U3) I0 (dD (sc #[.tmp 15,.tmp 17] [] (Yf (isProc_c hn) hs2f) [.el (En.sysP p n t f) 0,iv kp] rfl rfl rfl) I0 I0 I0 (dM (mT 18 bF) (dK (dK (dK (dK (dK (dP (pk false (.v (.tuple #[])) bF rfl) (dM (mT 25 bF) (dK (dK (dK (dK (dK (dK (dK (dK (dK (dK (dP (pk false (.v (.tuple #[])) bF rfl) (dM (aT 37 bF) (dE ?_))))))))))))))))))))))))) (by kernel_rfl)
 show ETri J w0 _ _ _
 refine Zd (Zn ?_)
 refine Zv Try.results62 (.tmp rfl) ?_
 rw [show En.ptB c p.rules[r] i kp=_ from if_pos (En.or_t hs1)]
 exact congrArg (fun x:Bool=>AV.v (.bool x)) ((by simp only [hs2f,decide_true,decide_false,Bool.and_true,Bool.true_and,Bool.false_and,Bool.and_false,Bool.true_or,Bool.false_or,Bool.or_true,Bool.or_false,Bool.not_true,Bool.not_false]))
 have hs1f:(decide (p.rules[r].kind=2)||decide (p.rules[r].kind=5))=false:=by simpa using hs1
 refine Za (pM (mT 2 (.el (p.rules.flatMap cRu) (r*18))) (oC (sc #[.tmp 9] [] (Yf (hasPart_c hr) hs1f) [.el (p.rules.flatMap cRu) (r*18)] rfl rfl rfl) I0 I0 (oA (Ya rfl rfl) I0 (Ze (Zd (Zq rfl (Zb (Za (oA (fe 2 7 U49 1) I0 (oA (lE (iv kp) 12 U3) I0 (oC (ZD rfl rfl) I0 I0 (pM (aT 14 (bv (decide (kp=(-1))))) (Ze (Zd (Zn (Zj ?_))))))))))))))))
 refine Zv Try.results62 (.tmp rfl) ?_
 rw [show En.ptB c p.rules[r] i kp=_ from if_neg (En.or_f hs1f)]
 exact rfl
set_option maxRecDepth 100000 in
set_option maxHeartbeats 6400000 in
theorem localH_c {p:Fm} {n t f:Int} {c:Cf} (hn:(Ns.cntE p n f)=((c.st.length:Nat):Int)) (l8:c.st.length≤8) {sx:Int} {r:Nat} (hr:r<p.rules.length) {i:Nat} (hi:i<c.st.length) {kp:Int} {g:Nat→Int} (hg:∀ m,0≤g m∧g m≤3000000) (h8:p.rules.length≤8) (h3:p.msgs.length≤3) (hg2:p.rules[r].guards.length≤2) (hgd:∀ q∈p.rules[r].guards,0≤q.msg∧q.msg<p.msgs.length∧1≤q.coef∧q.coef≤100) (le:p.rules[r].ex.length≤9223372036854775807) (lf:p.rules[r].fa.length≤9223372036854775807):Ctr Try.prog J 63 [.el (En.sysP p n t f) 0,.agg (En.cfV sx c),.agg [iv r,iv i,iv kp],.agg (En.msA g)] (bv (En.loB n t f c p.rules[r] g i)):=by
 refine Zx Try.func63 rfl (by intro X hX;simp only [List.mem_cons,List.not_mem_nil,or_false] at hX;rcases hX with rfl | rfl | rfl | rfl;exact (show Plain (.el (En.sysP p n t f) 0) from .el (ZQ (En.plain_sysP p n t f)));exact Zk (En.plain_cfV _ c);exact Zk (fun X hX=>by simp only [List.mem_cons,List.not_mem_nil,or_false] at hX;rcases hX with rfl | rfl | rfl<;>exact .v _);exact Zk (En.plain_msA _)) (n:=113) rfl (by simp) (fun w0 => ?_)
 refine kW 113 [] [(0,.el (En.sysP p n t f) 0),(1,.agg (En.cfV sx c)),(2,.agg [iv r,iv i,iv kp]),(3,.agg (En.msA g))] (Zb (Za (oA (ZK (X := .agg (En.cfV sx c)) (.tmp 1) rfl rfl rfl) I0 (oA (ZK (X := .agg [iv r,iv i,iv kp]) (.tmp 2) rfl rfl rfl) I0 (oA (ZK (X := .agg (En.msA g)) (.tmp 3) rfl rfl rfl) I0 (pM (aC (.bool false)) (Ze (Zd (Zb ?_)))))))))
 refine Zr (dM (mT 0 (.el (En.sysP p n t f) 0)) (dA (Zm (off:=0) (.tmp 15) rfl) I0 (dA (fe 0 16 U94 10) I0 (dA (fe 9 17 U27 1) I0 (dA (lE (slA 18 cRu p.rules) 18 U25) I0 (dA (fe 0 6 U49 1) I0 (dA (lE (iv r) 20 U3) I0 (dC (xS (r*18) 19 21 U25) I0 I0 (dM (aT 22 (.el (p.rules.flatMap cRu) (r*18))) (dE ?_)))))))))) (by kernel_rfl)
 show ETri J w0 _ _ _
 refine kW 113 [] [(0,.el (En.sysP p n t f) 0),(5,.el (En.cfV sx c) 0),(6,.el ([iv r,iv i,iv kp]) 0),(7,.el (En.msA g) 0),(8,bF),(9,.el (p.rules.flatMap cRu) (r*18))] (Zd (Zb (Zb ?_)))
 refine t_cut (True) (ofL []) (ofT 113 [(0,.el (En.sysP p n t f) 0),(5,.el (En.cfV sx c) 0),(6,.el ([iv r,iv i,iv kp]) 0),(7,.el (En.msA g) 0),(8,bF),(9,.el (p.rules.flatMap cRu) (r*18)),(36,bv (En.rdN c p.rules[r]))]) ?_ (fun _ => ?_)
 by_cases hs1:0≤p.rules[r].rd
 by_cases hs2:c.val=p.rules[r].rd
 refine Zr (dM (mT 9 (.el (p.rules.flatMap cRu) (r*18))) (dA (Zm (off:=r*18) (.tmp 23) rfl) I0 (dA (fe (r*18+10) 24 U55 1) I0 (dA (lE (iv p.rules[r].rd) 25 U3 ((Zu lenRu p.rules r 10 (by omega) (by decide)).trans rfl)) I0 (dC (YZ rfl (dT hs1)) I0 I0 (dM (mT 27 bT) (dA (fe 15 5 U70 1) I0 (dA (lE (iv c.val) 29 U3) I0 (dM (mT 9 (.el (p.rules.flatMap cRu) (r*18))) (dA (Zm (off:=r*18) (.tmp 31) rfl) I0 (dA (fe (r*18+10) 32 U55 1) I0 (dA (lE (iv p.rules[r].rd) 33 U3 ((Zu lenRu p.rules r 10 (by omega) (by decide)).trans rfl)) I0 (dC (ZX rfl (dT' hs2)) I0 I0 (dP (pk true bF bF rfl) (dE ?_))))))))))))))) (by kernel_rfl)
 show ETri J w0 _ _ _
 refine kW 113 [] [(0,.el (En.sysP p n t f) 0),(5,.el (En.cfV sx c) 0),(6,.el ([iv r,iv i,iv kp]) 0),(7,.el (En.msA g) 0),(8,bF),(9,.el (p.rules.flatMap cRu) (r*18)),(36,bF)] ?_
 rw [show (En.rdN c p.rules[r])=false by unfold En.rdN;simp only [dT hs1,dT hs2,decide_true,decide_false,Bool.and_true,Bool.true_and,Bool.false_and,Bool.and_false,Bool.true_or,Bool.false_or,Bool.or_true,Bool.or_false,Bool.not_true,Bool.not_false]]
 exact Y1 T0 (ZC [] _ rfl (by kernel_rfl) (by kernel_rfl))
 refine Zr (dM (mT 9 (.el (p.rules.flatMap cRu) (r*18))) (dA (Zm (off:=r*18) (.tmp 23) rfl) I0 (dA (fe (r*18+10) 24 U55 1) I0 (dA (lE (iv p.rules[r].rd) 25 U3 ((Zu lenRu p.rules r 10 (by omega) (by decide)).trans rfl)) I0 (dC (YZ rfl (dT hs1)) I0 I0 (dM (mT 27 bT) (dA (fe 15 5 U70 1) I0 (dA (lE (iv c.val) 29 U3) I0 (dM (mT 9 (.el (p.rules.flatMap cRu) (r*18))) (dA (Zm (off:=r*18) (.tmp 31) rfl) I0 (dA (fe (r*18+10) 32 U55 1) I0 (dA (lE (iv p.rules[r].rd) 33 U3 ((Zu lenRu p.rules r 10 (by omega) (by decide)).trans rfl)) I0 (dC (ZX rfl (dF' hs2)) I0 I0 (dP (pk true bT bF rfl) (dE ?_))))))))))))))) (by kernel_rfl)
 show ETri J w0 _ _ _
 refine kW 113 [] [(0,.el (En.sysP p n t f) 0),(5,.el (En.cfV sx c) 0),(6,.el ([iv r,iv i,iv kp]) 0),(7,.el (En.msA g) 0),(8,bF),(9,.el (p.rules.flatMap cRu) (r*18)),(36,bT)] ?_
 rw [show (En.rdN c p.rules[r])=true by unfold En.rdN;simp only [dT hs1,dF hs2,decide_true,decide_false,Bool.and_true,Bool.true_and,Bool.false_and,Bool.and_false,Bool.true_or,Bool.false_or,Bool.or_true,Bool.or_false,Bool.not_true,Bool.not_false]]
 exact Y1 T0 (ZC [] _ rfl (by kernel_rfl) (by kernel_rfl))
 refine Zr (dM (mT 9 (.el (p.rules.flatMap cRu) (r*18))) (dA (Zm (off:=r*18) (.tmp 23) rfl) I0 (dA (fe (r*18+10) 24 U55 1) I0 (dA (lE (iv p.rules[r].rd) 25 U3 ((Zu lenRu p.rules r 10 (by omega) (by decide)).trans rfl)) I0 (dC (YZ rfl (dF hs1)) I0 I0 (dM (mT 27 bF) (dK (dK (dK (dK (dK (dK (dK (dP (pk false (.v (.tuple #[])) bF rfl) (dE ?_))))))))))))))) (by kernel_rfl)
 show ETri J w0 _ _ _
 refine kW 113 [] [(0,.el (En.sysP p n t f) 0),(5,.el (En.cfV sx c) 0),(6,.el ([iv r,iv i,iv kp]) 0),(7,.el (En.msA g) 0),(8,bF),(9,.el (p.rules.flatMap cRu) (r*18)),(36,bF)] ?_
 rw [show (En.rdN c p.rules[r])=false by unfold En.rdN;simp only [dF hs1,decide_true,decide_false,Bool.and_true,Bool.true_and,Bool.false_and,Bool.and_false,Bool.true_or,Bool.false_or,Bool.or_true,Bool.or_false,Bool.not_true,Bool.not_false]]
 exact Y1 T0 (ZC [] _ rfl (by kernel_rfl) (by kernel_rfl))
 refine Zd ?_
 by_cases hs3:(En.rdN c p.rules[r])=true
 rw [hs3]
 refine kW 113 [] [(0,.el (En.sysP p n t f) 0),(5,.el (En.cfV sx c) 0),(6,.el ([iv r,iv i,iv kp]) 0),(7,.el (En.msA g) 0),(8,bF),(9,.el (p.rules.flatMap cRu) (r*18)),(36,bT)] (Zq rfl (Zb (Za (pM (aC (.bool false)) (Ze (Zd (Zn (Zj ?_))))))))
 refine Zv Try.results63 (.tmp rfl) ?_
 exact congrArg (fun x:Bool=>AV.v (.bool x)) ((En.lo_rd hs3).symm)
 have hs3f:(En.rdN c p.rules[r])=false:=by simpa using hs3
 rw [hs3f]
 refine kW 113 [] [(0,.el (En.sysP p n t f) 0),(5,.el (En.cfV sx c) 0),(6,.el ([iv r,iv i,iv kp]) 0),(7,.el (En.msA g) 0),(8,bF),(9,.el (p.rules.flatMap cRu) (r*18)),(36,bF)] (Zs rfl (Zp (Zd (Zb (Zb (Za (pM (mT 9 (.el (p.rules.flatMap cRu) (r*18))) (oA (Zm (off:=r*18) (.tmp 37) rfl) I0 (oA (fe (r*18+7) 38 U55 1) I0 (oA (lE (slA 6 cTh p.rules[r].guards) 39 U53 ((Zu lenRu p.rules r 7 (by omega) (by decide)).trans rfl)) I0 (oA (nS 40 U53) I0 (pM (YX (.const (.int .i64 0)) (iv 0) rfl) (kN 113 [] [(0,.el (En.sysP p n t f) 0),(5,.el (En.cfV sx c) 0),(6,.el ([iv r,iv i,iv kp]) 0),(7,.el (En.msA g) 0),(8,bF),(9,.el (p.rules.flatMap cRu) (r*18)),(40,slA 6 cTh p.rules[r].guards),(41,iv (p.rules[r].guards.length:Nat)),(42,iv 0)] (Zd (ZA ?_)))))))))))))))
 refine Yx (σ:={k:Nat // k≤p.rules[r].guards.length∧Rd.noP p.rules[r].guards (En.gdN n t f g) k}) (fun s=>(ofL [],ofT 113 [(0,.el (En.sysP p n t f) 0),(5,.el (En.cfV sx c) 0),(6,.el ([iv r,iv i,iv kp]) 0),(7,.el (En.msA g) 0),(9,.el (p.rules.flatMap cRu) (r*18)),(40,slA 6 cTh p.rules[r].guards),(41,iv (p.rules[r].guards.length:Nat)),(42,iv s.1)])) (fun s=>p.rules[r].guards.length-s.1) ⟨0,Nat.zero_le _,Rd.noP_zero _ _⟩ (ZC [] _ rfl (by kernel_rfl) (by kernel_rfl)) (fun s => ?_)
 obtain ⟨k,hk0,hs0⟩:=s
 show ETri J w0 (ofL []) (ofT 113 [(0,.el (En.sysP p n t f) 0),(5,.el (En.cfV sx c) 0),(6,.el ([iv r,iv i,iv kp]) 0),(7,.el (En.msA g) 0),(9,.el (p.rules.flatMap cRu) (r*18)),(40,slA 6 cTh p.rules[r].guards),(41,iv (p.rules[r].guards.length:Nat)),(42,iv k)]) _
 refine Zb ?_
 by_cases hs4:((k:Nat):Int)<((p.rules[r].guards.length:Nat):Int)
 have hk1:k<p.rules[r].guards.length:=by omega
 have hgk:=hgd _ (List.getElem_mem hk1)
 have hgb:=hg p.rules[r].guards[k].msg.toNat
 refine Za (oC (ZZ rfl (dT hs4)) I0 I0 (Ze (Zd (Zb (Zq rfl (Zp (Zd (Zb (ZA (Zb (Za (pM (mT 42 (iv k)) (oC (xS (k*6) 40 42 U53) I0 I0 (oA (Zl (z:=6) (.tmp 45) rfl U98 rfl (by kernel_rfl) (Y6 lenTh p.rules[r].guards k (by omega)) rfl) I0 (ZM rfl (ZT (z := .agg #[.int .i64 0,.int .i64 0,.int .i64 0,.int .i64 0,.int .i64 0,.int .i64 0]) (k:=1) rfl (by kernel_rfl)) T0 T0 rfl (pM (aT 44 (iv k)) (ZM rfl (sB 6 11 (.tmp 46) (.agg (cTh p.rules[r].guards[k]))) ⟨I0,I0,T0⟩ ⟨rfl,T0⟩ rfl (Ze (Zd (Zb ?_))))))))))))))))))))
 by_cases hs5:p.rules[r].guards[k].coef*(g p.rules[r].guards[k].msg.toNat)<(En.gbV p.rules[r] n t f k)
 refine Zr (dA (fb 1 11 U98 1) I0 (dB (lb (iv p.rules[r].guards[k].coef) 47 U3) I0 rfl (dA (fb 0 11 U98 1) I0 (dB (lb (iv p.rules[r].guards[k].msg) 49 U3) I0 rfl (dC (Z0 (off':=0+p.rules[r].guards[k].msg.toNat*1) (.tmp 7) (.tmp 50) rfl U68 (by kernel_rfl) (by omega) (by omega) rfl) I0 I0 (dA (lE (iv (g p.rules[r].guards[k].msg.toNat)) 51 U3 (En.msA_get (by omega))) I0 (dC (sp_mul (c:=p.rules[r].guards[k].coef*(g p.rules[r].guards[k].msg.toNat)) rfl (En.mulW hgk.2.2.1 hgk.2.2.2 hgb.1 hgb.2)) I0 I0 (dM (mT 0 (.el (En.sysP p n t f) 0)) (dA (fe 0 6 U49 1) I0 (dA (lE (iv r) 55 U3) I0 (dM (mT 10 (iv k)) (dA (Zm (off:=0) (.tmp 54) rfl) I0 (dA (fe 15 58 U94 16) I0 (dC (Z0 (off':=15+r*2) (.tmp 59) (.tmp 56) rfl U91 (by kernel_rfl) (by omega) (by omega) rfl) I0 I0 (dC (Z0 (off':=15+r*2+k*1) (.tmp 60) (.tmp 57) rfl U90 (by kernel_rfl) (by omega) (by omega) rfl) I0 I0 (dA (lE (iv (En.gbV p.rules[r] n t f k)) 61 U3 (En.sysP_bd hr h8 hk1 hg2)) I0 (dC (ZZ rfl (dT hs5)) I0 I0 (dE ?_)))))))))))))))))) (by kernel_rfl)
 show ETri J w0 _ _ _
 refine kW 113 [(1,.box 98 (cTh p.rules[r].guards[k]))] [(0,.el (En.sysP p n t f) 0),(5,.el (En.cfV sx c) 0),(6,.el ([iv r,iv i,iv kp]) 0),(7,.el (En.msA g) 0),(9,.el (p.rules.flatMap cRu) (r*18)),(10,iv k),(11,.box 1 0),(40,slA 6 cTh p.rules[r].guards),(41,iv (p.rules[r].guards.length:Nat)),(42,iv k),(43,bT),(63,bT)] (Zd (Zq rfl (Zb (Za (pM (aC (.bool false)) (Ze (Zd (Zn (ZJ (Zj (Zj (ZJ (Zj ?_)))))))))))))
 refine Zv Try.results63 (.tmp rfl) ?_
 exact congrArg (fun x:Bool=>AV.v (.bool x)) ((En.lo_gd hk1 hs5).symm)
 refine Zr (dA (fb 1 11 U98 1) I0 (dB (lb (iv p.rules[r].guards[k].coef) 47 U3) I0 rfl (dA (fb 0 11 U98 1) I0 (dB (lb (iv p.rules[r].guards[k].msg) 49 U3) I0 rfl (dC (Z0 (off':=0+p.rules[r].guards[k].msg.toNat*1) (.tmp 7) (.tmp 50) rfl U68 (by kernel_rfl) (by omega) (by omega) rfl) I0 I0 (dA (lE (iv (g p.rules[r].guards[k].msg.toNat)) 51 U3 (En.msA_get (by omega))) I0 (dC (sp_mul (c:=p.rules[r].guards[k].coef*(g p.rules[r].guards[k].msg.toNat)) rfl (En.mulW hgk.2.2.1 hgk.2.2.2 hgb.1 hgb.2)) I0 I0 (dM (mT 0 (.el (En.sysP p n t f) 0)) (dA (fe 0 6 U49 1) I0 (dA (lE (iv r) 55 U3) I0 (dM (mT 10 (iv k)) (dA (Zm (off:=0) (.tmp 54) rfl) I0 (dA (fe 15 58 U94 16) I0 (dC (Z0 (off':=15+r*2) (.tmp 59) (.tmp 56) rfl U91 (by kernel_rfl) (by omega) (by omega) rfl) I0 I0 (dC (Z0 (off':=15+r*2+k*1) (.tmp 60) (.tmp 57) rfl U90 (by kernel_rfl) (by omega) (by omega) rfl) I0 I0 (dA (lE (iv (En.gbV p.rules[r] n t f k)) 61 U3 (En.sysP_bd hr h8 hk1 hg2)) I0 (dC (ZZ rfl (dF hs5)) I0 I0 (dE ?_)))))))))))))))))) (by kernel_rfl)
 show ETri J w0 _ _ _
 refine kW 113 [(1,.box 98 (cTh p.rules[r].guards[k]))] [(0,.el (En.sysP p n t f) 0),(5,.el (En.cfV sx c) 0),(6,.el ([iv r,iv i,iv kp]) 0),(7,.el (En.msA g) 0),(9,.el (p.rules.flatMap cRu) (r*18)),(10,iv k),(11,.box 1 0),(40,slA 6 cTh p.rules[r].guards),(41,iv (p.rules[r].guards.length:Nat)),(42,iv k),(43,bT),(63,bF)] (Zd (Zs rfl (Zp (ZU (Zd (Za (oC (Yg (c:=((k+1:Nat):Int)) rfl (w64 (by omega) (by omega) (by omega))) I0 I0 (pM (mT 64 (iv (k+1:Nat))) (kN 113 [(1,.box 98 (cTh p.rules[r].guards[k]))] [(0,.el (En.sysP p n t f) 0),(5,.el (En.cfV sx c) 0),(6,.el ([iv r,iv i,iv kp]) 0),(7,.el (En.msA g) 0),(9,.el (p.rules.flatMap cRu) (r*18)),(10,iv k),(11,.box 1 0),(40,slA 6 cTh p.rules[r].guards),(41,iv (p.rules[r].guards.length:Nat)),(42,iv (k+1:Nat)),(43,bT),(63,bF)] (Zd ?_))))))))))
 refine ZW ⟨k+1,by omega,Rd.noP_succ hk1 hs0 (En.gd_no hk1 hs5)⟩ (show p.rules[r].guards.length-(k+1)<p.rules[r].guards.length-k by omega) ?_
 exact ZC [] _ rfl (by kernel_rfl) (by kernel_rfl)
 refine Za (oC (ZZ rfl (dF hs4)) I0 I0 (Ze (Zd (Zb (Zs rfl (Yp (Zy (Zy (t_hit (Zd (Zb (Za (pM (mT 9 (.el (p.rules.flatMap cRu) (r*18))) (oA (Zm (off:=r*18) (.tmp 65) rfl) I0 (oA (fe (r*18+8) 66 U55 1) I0 (oA (lE (Zc p.rules[r].ex) 67 U24 ((Zu lenRu p.rules r 8 (by omega) (by decide)).trans rfl)) I0 (oA (nS 68 U24) I0 (oC (ZD rfl rfl) I0 I0 (pM (aT 70 (bv (decide (((p.rules[r].ex.length:Nat):Int)=0)))) (Ze (Zd (Zb (Zb ?_)))))))))))))))))))))))
 refine Za (oA (fe 1 5 U70 8) I0 (pM (mT 0 (.el (En.sysP p n t f) 0)) (oA (Zm (off:=0) (.tmp 72) rfl) I0 (oA (fe 13 73 U94 1) I0 (oA (lE (iv (Ns.cntE p n f)) 74 U3) I0 (oC (Kj (n:=c.st.length) (off:=1) (ds:=(c.st.map iv)) (.tmp 71) (.tmp 75) rfl U66 (by kernel_rfl) (by omega) (by kernel_rfl) (by unfold maxLen;omega) (by show _≤16;omega) (En.cfV_row l8) hn) I0 I0 (oA (nS 76 U24) I0 (pM (YX (.const (.int .i64 0)) (iv 0) rfl) (kN 113 [] [(6,.el ([iv r,iv i,iv kp]) 0),(9,.el (p.rules.flatMap cRu) (r*18)),(12,bv (decide (((p.rules[r].ex.length:Nat):Int)=0))),(76,Zc c.st),(77,iv c.st.length),(78,iv 0)] (Zd (ZA ?_)))))))))))
 rw [← En.exU_zero (c:=c) (i:=i)]
 refine Yx (σ:={j:Nat // j≤c.st.length∧En.noF c p.rules[r] i j}) (fun s=>(ofL [],ofT 113 [(6,.el ([iv r,iv i,iv kp]) 0),(9,.el (p.rules.flatMap cRu) (r*18)),(12,bv (En.exU c p.rules[r] i s.1)),(76,Zc c.st),(77,iv c.st.length),(78,iv s.1)])) (fun s=>c.st.length-s.1) ⟨0,Nat.zero_le _,En.noF_zero⟩ (ZC [] _ rfl (by kernel_rfl) (by kernel_rfl)) (fun s => ?_)
 obtain ⟨j,hj0,hnf⟩:=s
 show ETri J w0 (ofL []) (ofT 113 [(6,.el ([iv r,iv i,iv kp]) 0),(9,.el (p.rules.flatMap cRu) (r*18)),(12,bv (En.exU c p.rules[r] i j)),(76,Zc c.st),(77,iv c.st.length),(78,iv j)]) _
 refine Zb ?_
 by_cases hs6:((j:Nat):Int)<((c.st.length:Nat):Int)
 have hj1:j<c.st.length:=by omega
 refine Za (oC (ZZ rfl (dT hs6)) I0 I0 (Ze (Zd (Zb (Zq rfl (Zp (Zd (Zb (ZA (Zb (Za (pM (mT 78 (iv j)) (oC (xS (j*1) 76 78 U24) I0 I0 (oA (lE (iv c.st[j]) 81 U3 (map_at1 c.st (by omega))) I0 (pM (aT 80 (iv j)) (pM (aT 82 (iv c.st[j])) (Ze (Zd (Zb (Zb ?_))))))))))))))))))))
 by_cases hs7:((j:Nat):Int)=((i:Nat):Int)
 refine Za (pM (mT 13 (iv j)) (oA (fe 1 6 U49 1) I0 (oA (lE (iv i) 84 U3) I0 (oC (ZD rfl (dT hs7)) I0 I0 (Ze (Zd (Zq rfl (Yp (Zy (t_hit (Zd (Za (oC (Yg (c:=((j+1:Nat):Int)) rfl (w64 (by omega) (by omega) (by omega))) I0 I0 (pM (mT 111 (iv (j+1:Nat))) (kN 113 [] [(6,.el ([iv r,iv i,iv kp]) 0),(9,.el (p.rules.flatMap cRu) (r*18)),(12,bv (En.exU c p.rules[r] i j)),(13,iv j),(14,iv c.st[j]),(76,Zc c.st),(77,iv c.st.length),(78,iv (j+1:Nat)),(79,bT),(86,bT)] (Zd ?_))))))))))))))))
 refine ZW ⟨j+1,by omega,En.noF_succ hnf (En.fa_same (by omega))⟩ (show c.st.length-(j+1)<c.st.length-j by omega) ?_
 show Wk _ _ (ofL []) (ofT 113 [(6,.el ([iv r,iv i,iv kp]) 0),(9,.el (p.rules.flatMap cRu) (r*18)),(12,bv (En.exU c p.rules[r] i (j+1))),(76,Zc c.st),(77,iv c.st.length),(78,iv ((j+1):Nat))])
 rw [En.exU_same (by omega)]
 exact ZC [] _ rfl (by kernel_rfl) (by kernel_rfl)
 refine Za (pM (mT 13 (iv j)) (oA (fe 1 6 U49 1) I0 (oA (lE (iv i) 84 U3) I0 (oC (ZD rfl (dF hs7)) I0 I0 (Ze (Zd (Zs rfl (Zp (Zd (Zb (Zb ?_)))))))))))
 by_cases hs8:0<((p.rules[r].fa.length:Nat):Int)
 by_cases hs9:(decide (c.st[j]∈p.rules[r].fa))=true
 refine Za (pM (mT 9 (.el (p.rules.flatMap cRu) (r*18))) (oA (Zm (off:=r*18) (.tmp 87) rfl) I0 (oA (fe (r*18+9) 88 U55 1) I0 (oA (lE (Zc p.rules[r].fa) 89 U24 ((Zu lenRu p.rules r 9 (by omega) (by decide)).trans rfl)) I0 (oA (nS 90 U24) I0 (oC (sp_gtr rfl (dT hs8)) I0 I0 (pM (mT 92 bT) (qM (mT 9 (.el (p.rules.flatMap cRu) (r*18))) (gA (Zm (off:=r*18) (.tmp 94) rfl) I0 (gA (fe (r*18+9) 95 U55 1) I0 (gA (lE (Zc p.rules[r].fa) 96 U24 ((Zu lenRu p.rules r 9 (by omega) (by decide)).trans rfl)) I0 (qM (mT 14 (iv c.st[j])) (gD (sc #[.tmp 97,.tmp 98] [] (Yf (KJ p.rules[r].fa c.st[j] lf) hs9) [Zc p.rules[r].fa,iv c.st[j]] rfl rfl rfl) I0 I0 I0 (gA (Ya rfl rfl) I0 (pP (pk true bF bF rfl) (Ze (Zd (Zs rfl (Zp (Zd ?_))))))))))))))))))))
 by_cases hs10:(En.exU c p.rules[r] i j)=true
 rw [hs10]
 refine kW 113 [] [(6,.el ([iv r,iv i,iv kp]) 0),(9,.el (p.rules.flatMap cRu) (r*18)),(12,bT),(13,iv j),(14,iv c.st[j]),(76,Zc c.st),(77,iv c.st.length),(78,iv j),(79,bT),(86,bF),(101,bF)] (Za (pM (mT 12 bT) (pM (mT 102 bT) (qK (qK (qK (qK (qK (qK (pP (pk true bT (.v (.tuple #[])) rfl) (pM (aT 110 bT) (Ze (ZU (Zd (Za (oC (Yg (c:=((j+1:Nat):Int)) rfl (w64 (by omega) (by omega) (by omega))) I0 I0 (pM (mT 111 (iv (j+1:Nat))) (kN 113 [] [(6,.el ([iv r,iv i,iv kp]) 0),(9,.el (p.rules.flatMap cRu) (r*18)),(12,bT),(13,iv j),(14,iv c.st[j]),(76,Zc c.st),(77,iv c.st.length),(78,iv (j+1:Nat)),(79,bT),(86,bF),(101,bF)] (Zd ?_)))))))))))))))))))
 refine ZW ⟨j+1,by omega,En.noF_succ hnf (En.fa_in hj1 hs9)⟩ (show c.st.length-(j+1)<c.st.length-j by omega) ?_
 show Wk _ _ (ofL []) (ofT 113 [(6,.el ([iv r,iv i,iv kp]) 0),(9,.el (p.rules.flatMap cRu) (r*18)),(12,bv (En.exU c p.rules[r] i (j+1))),(76,Zc c.st),(77,iv c.st.length),(78,iv ((j+1):Nat))])
 rw [En.exU_t hs10]
 exact ZC [] _ rfl (by kernel_rfl) (by kernel_rfl)
 have hs10f:(En.exU c p.rules[r] i j)=false:=by simpa using hs10
 rw [hs10f]
 refine kW 113 [] [(6,.el ([iv r,iv i,iv kp]) 0),(9,.el (p.rules.flatMap cRu) (r*18)),(12,bF),(13,iv j),(14,iv c.st[j]),(76,Zc c.st),(77,iv c.st.length),(78,iv j),(79,bT),(86,bF),(101,bF)] (Za (pM (mT 12 bF) (pM (mT 102 bF) (qM (mT 9 (.el (p.rules.flatMap cRu) (r*18))) (gA (Zm (off:=r*18) (.tmp 104) rfl) I0 (gA (fe (r*18+8) 105 U55 1) I0 (gA (lE (Zc p.rules[r].ex) 106 U24 ((Zu lenRu p.rules r 8 (by omega) (by decide)).trans rfl)) I0 (qM (mT 14 (iv c.st[j])) (gD (sc #[.tmp 107,.tmp 108] [] (KJ p.rules[r].ex c.st[j] le) [Zc p.rules[r].ex,iv c.st[j]] rfl rfl rfl) I0 I0 I0 (pP (pk false bT (bv (decide (c.st[j]∈p.rules[r].ex))) rfl) (pM (aT 110 (bv (decide (c.st[j]∈p.rules[r].ex)))) (Ze (ZU (Zd (Za (oC (Yg (c:=((j+1:Nat):Int)) rfl (w64 (by omega) (by omega) (by omega))) I0 I0 (pM (mT 111 (iv (j+1:Nat))) (kN 113 [] [(6,.el ([iv r,iv i,iv kp]) 0),(9,.el (p.rules.flatMap cRu) (r*18)),(12,bv (decide (c.st[j]∈p.rules[r].ex))),(13,iv j),(14,iv c.st[j]),(76,Zc c.st),(77,iv c.st.length),(78,iv (j+1:Nat)),(79,bT),(86,bF),(101,bF)] (Zd ?_)))))))))))))))))))
 refine ZW ⟨j+1,by omega,En.noF_succ hnf (En.fa_in hj1 hs9)⟩ (show c.st.length-(j+1)<c.st.length-j by omega) ?_
 show Wk _ _ (ofL []) (ofT 113 [(6,.el ([iv r,iv i,iv kp]) 0),(9,.el (p.rules.flatMap cRu) (r*18)),(12,bv (En.exU c p.rules[r] i (j+1))),(76,Zc c.st),(77,iv c.st.length),(78,iv ((j+1):Nat))])
 rw [En.exU_f hj1 hs10f (by omega)]
 exact ZC [] _ rfl (by kernel_rfl) (by kernel_rfl)
 have hs9f:(decide (c.st[j]∈p.rules[r].fa))=false:=by simpa using hs9
 refine Za (pM (mT 9 (.el (p.rules.flatMap cRu) (r*18))) (oA (Zm (off:=r*18) (.tmp 87) rfl) I0 (oA (fe (r*18+9) 88 U55 1) I0 (oA (lE (Zc p.rules[r].fa) 89 U24 ((Zu lenRu p.rules r 9 (by omega) (by decide)).trans rfl)) I0 (oA (nS 90 U24) I0 (oC (sp_gtr rfl (dT hs8)) I0 I0 (pM (mT 92 bT) (qM (mT 9 (.el (p.rules.flatMap cRu) (r*18))) (gA (Zm (off:=r*18) (.tmp 94) rfl) I0 (gA (fe (r*18+9) 95 U55 1) I0 (gA (lE (Zc p.rules[r].fa) 96 U24 ((Zu lenRu p.rules r 9 (by omega) (by decide)).trans rfl)) I0 (qM (mT 14 (iv c.st[j])) (gD (sc #[.tmp 97,.tmp 98] [] (Yf (KJ p.rules[r].fa c.st[j] lf) hs9f) [Zc p.rules[r].fa,iv c.st[j]] rfl rfl rfl) I0 I0 I0 (gA (Ya rfl rfl) I0 (pP (pk true bT bF rfl) (Ze (Zd (Zq rfl (Zb (Za (pM (aC (.bool false)) (Ze (Zd ?_)))))))))))))))))))))))
 refine Zn (Zj (ZJ (Zj (Zj (ZJ (Zj ?_))))))
 refine Zv Try.results63 (.tmp rfl) ?_
 exact congrArg (fun x:Bool=>AV.v (.bool x)) ((En.lo_fa hj1 (En.fa_out hj1 (by omega) hs8 hs9f)).symm)
 refine Za (pM (mT 9 (.el (p.rules.flatMap cRu) (r*18))) (oA (Zm (off:=r*18) (.tmp 87) rfl) I0 (oA (fe (r*18+9) 88 U55 1) I0 (oA (lE (Zc p.rules[r].fa) 89 U24 ((Zu lenRu p.rules r 9 (by omega) (by decide)).trans rfl)) I0 (oA (nS 90 U24) I0 (oC (sp_gtr rfl (dF hs8)) I0 I0 (pM (mT 92 bF) (qK (qK (qK (qK (qK (qK (qK (pP (pk false (.v (.tuple #[])) bF rfl) (Ze (Zd (Zs rfl (Zp (Zd ?_))))))))))))))))))))
 by_cases hs11:(En.exU c p.rules[r] i j)=true
 rw [hs11]
 refine kW 113 [] [(6,.el ([iv r,iv i,iv kp]) 0),(9,.el (p.rules.flatMap cRu) (r*18)),(12,bT),(13,iv j),(14,iv c.st[j]),(76,Zc c.st),(77,iv c.st.length),(78,iv j),(79,bT),(86,bF),(101,bF)] (Za (pM (mT 12 bT) (pM (mT 102 bT) (qK (qK (qK (qK (qK (qK (pP (pk true bT (.v (.tuple #[])) rfl) (pM (aT 110 bT) (Ze (ZU (Zd (Za (oC (Yg (c:=((j+1:Nat):Int)) rfl (w64 (by omega) (by omega) (by omega))) I0 I0 (pM (mT 111 (iv (j+1:Nat))) (kN 113 [] [(6,.el ([iv r,iv i,iv kp]) 0),(9,.el (p.rules.flatMap cRu) (r*18)),(12,bT),(13,iv j),(14,iv c.st[j]),(76,Zc c.st),(77,iv c.st.length),(78,iv (j+1:Nat)),(79,bT),(86,bF),(101,bF)] (Zd ?_)))))))))))))))))))
 refine ZW ⟨j+1,by omega,En.noF_succ hnf (En.fa_none hs8)⟩ (show c.st.length-(j+1)<c.st.length-j by omega) ?_
 show Wk _ _ (ofL []) (ofT 113 [(6,.el ([iv r,iv i,iv kp]) 0),(9,.el (p.rules.flatMap cRu) (r*18)),(12,bv (En.exU c p.rules[r] i (j+1))),(76,Zc c.st),(77,iv c.st.length),(78,iv ((j+1):Nat))])
 rw [En.exU_t hs11]
 exact ZC [] _ rfl (by kernel_rfl) (by kernel_rfl)
 have hs11f:(En.exU c p.rules[r] i j)=false:=by simpa using hs11
 rw [hs11f]
 refine kW 113 [] [(6,.el ([iv r,iv i,iv kp]) 0),(9,.el (p.rules.flatMap cRu) (r*18)),(12,bF),(13,iv j),(14,iv c.st[j]),(76,Zc c.st),(77,iv c.st.length),(78,iv j),(79,bT),(86,bF),(101,bF)] (Za (pM (mT 12 bF) (pM (mT 102 bF) (qM (mT 9 (.el (p.rules.flatMap cRu) (r*18))) (gA (Zm (off:=r*18) (.tmp 104) rfl) I0 (gA (fe (r*18+8) 105 U55 1) I0 (gA (lE (Zc p.rules[r].ex) 106 U24 ((Zu lenRu p.rules r 8 (by omega) (by decide)).trans rfl)) I0 (qM (mT 14 (iv c.st[j])) (gD (sc #[.tmp 107,.tmp 108] [] (KJ p.rules[r].ex c.st[j] le) [Zc p.rules[r].ex,iv c.st[j]] rfl rfl rfl) I0 I0 I0 (pP (pk false bT (bv (decide (c.st[j]∈p.rules[r].ex))) rfl) (pM (aT 110 (bv (decide (c.st[j]∈p.rules[r].ex)))) (Ze (ZU (Zd (Za (oC (Yg (c:=((j+1:Nat):Int)) rfl (w64 (by omega) (by omega) (by omega))) I0 I0 (pM (mT 111 (iv (j+1:Nat))) (kN 113 [] [(6,.el ([iv r,iv i,iv kp]) 0),(9,.el (p.rules.flatMap cRu) (r*18)),(12,bv (decide (c.st[j]∈p.rules[r].ex))),(13,iv j),(14,iv c.st[j]),(76,Zc c.st),(77,iv c.st.length),(78,iv (j+1:Nat)),(79,bT),(86,bF),(101,bF)] (Zd ?_)))))))))))))))))))
 refine ZW ⟨j+1,by omega,En.noF_succ hnf (En.fa_none hs8)⟩ (show c.st.length-(j+1)<c.st.length-j by omega) ?_
 show Wk _ _ (ofL []) (ofT 113 [(6,.el ([iv r,iv i,iv kp]) 0),(9,.el (p.rules.flatMap cRu) (r*18)),(12,bv (En.exU c p.rules[r] i (j+1))),(76,Zc c.st),(77,iv c.st.length),(78,iv ((j+1):Nat))])
 rw [En.exU_f hj1 hs11f (by omega)]
 exact ZC [] _ rfl (by kernel_rfl) (by kernel_rfl)
 refine Za (oC (ZZ rfl (dF hs6)) I0 I0 (Ze (Zd (Zb (Zs rfl (Yp (Zy (Zy (t_hit (Zd (Zb (Za (pM (mT 12 (bv (En.exU c p.rules[r] i j))) (pM (aT 112 (bv (En.exU c p.rules[r] i j))) (Ze (Zd (Zn ?_)))))))))))))))))
 refine Zv Try.results63 (.tmp rfl) ?_
 exact congrArg (fun x:Bool=>AV.v (.bool x)) ((En.lo_ex hs3f (by omega) hs0 (by omega) hj0 hnf).symm)
theorem fits_c {c:Cf} {sx:Int} {l:List Int} (ll:l.length≤9223372036854775807) {x:Int} (l8:c.st.length≤8) (hx:x<((c.st.length:Nat):Int)):Ctr Try.prog J 81 [.agg (En.cfV sx c),iv x,Zc l] (bv (En.fitB c x l)):=by
 refine Zx Try.func81 rfl (by intro X hX;simp only [List.mem_cons,List.not_mem_nil,or_false] at hX;rcases hX with rfl | rfl | rfl;exact Zk (En.plain_cfV _ c);exact .v _;exact Ye _) (n:=22) rfl (by simp) (fun w0 => ?_)
 refine kW 22 [] [(0,.agg (En.cfV sx c)),(1,iv x),(2,Zc l)] (Zb (Za (oA (ZK (X := .agg (En.cfV sx c)) (.tmp 0) rfl rfl rfl) I0 (pM (aC (.bool false)) (Ze (Zd (Zb ?_)))))))
 by_cases hs1:((l.length:Nat):Int)=0
 refine Za (pM (mT 2 (Zc l)) (oA (nS 7 U24) I0 (oC (ZD rfl (dT hs1)) I0 I0 (pM (mT 9 bT) (qK (qK (qK (qK (qK (qK (qK (qK (qK (qK (pP (pk true bT (.v (.tuple #[])) rfl) (pM (aT 21 bT) (Ze (Zd (Zn ?_)))))))))))))))))))
 refine Zv Try.results81 (.tmp rfl) ?_
 exact congrArg (fun x:Bool=>AV.v (.bool x)) ((by unfold En.fitB;simp only [hs1,decide_true,decide_false,Bool.and_true,Bool.true_and,Bool.false_and,Bool.and_false,Bool.true_or,Bool.false_or,Bool.or_true,Bool.or_false,Bool.not_true,Bool.not_false]))
 by_cases hs2:0≤x
 refine Za (pM (mT 2 (Zc l)) (oA (nS 7 U24) I0 (oC (ZD rfl (dF hs1)) I0 I0 (pM (mT 9 bF) (qM (mT 1 (iv x)) (gC (YZ rfl (dT hs2)) I0 I0 (qM (mT 12 bT) (qM (mT 2 (Zc l)) (qM (mT 1 (iv x)) (gA (fe 1 3 U70 8) I0 (gC (Z0 (off':=1+x.toNat*1) (.tmp 16) (.tmp 15) rfl U66 (by kernel_rfl) (by omega) (by omega) rfl) I0 I0 (gA (lE (iv (c.st.getD x.toNat 0)) 17 U3 (En.cfV_st (by omega))) I0 (gD (sc #[.tmp 14,.tmp 18] [] (KJ l (c.st.getD x.toNat 0) ll) [Zc l,iv (c.st.getD x.toNat 0)] rfl rfl rfl) I0 I0 I0 (qP (pk true (bv (decide (c.st.getD x.toNat 0∈l))) bF rfl) (pP (pk false bT (bv (decide (c.st.getD x.toNat 0∈l))) rfl) (pM (aT 21 (bv (decide (c.st.getD x.toNat 0∈l)))) (Ze (Zd (Zn ?_)))))))))))))))))))
 refine Zv Try.results81 (.tmp rfl) ?_
 exact congrArg (fun x:Bool=>AV.v (.bool x)) ((by unfold En.fitB;simp only [hs1,hs2,decide_true,decide_false,Bool.and_true,Bool.true_and,Bool.false_and,Bool.and_false,Bool.true_or,Bool.false_or,Bool.or_true,Bool.or_false,Bool.not_true,Bool.not_false]))
 refine Za (pM (mT 2 (Zc l)) (oA (nS 7 U24) I0 (oC (ZD rfl (dF hs1)) I0 I0 (pM (mT 9 bF) (qM (mT 1 (iv x)) (gC (YZ rfl (dF hs2)) I0 I0 (qM (mT 12 bF) (qK (qK (qK (qK (qK (qK (qP (pk false (.v (.tuple #[])) bF rfl) (pP (pk false bT bF rfl) (pM (aT 21 bF) (Ze (Zd (Zn ?_)))))))))))))))))))
 refine Zv Try.results81 (.tmp rfl) ?_
 exact congrArg (fun x:Bool=>AV.v (.bool x)) ((by unfold En.fitB;simp only [hs1,hs2,decide_true,decide_false,Bool.and_true,Bool.true_and,Bool.false_and,Bool.and_false,Bool.true_or,Bool.false_or,Bool.or_true,Bool.or_false,Bool.not_true,Bool.not_false]))
theorem neighH_c {p:Fm} {n t f:Int} {c:Cf} (hn:(Ns.cntE p n f).toNat=c.st.length) (l8:c.st.length≤8) {sx:Int} {r:Nat} (hr:r<p.rules.length) {i:Nat} (hi:i<c.st.length) {kp:Int} (hrl:RuLen p.rules[r]) (hx0:0≤sx) (hx1:sx<(((En.shS p.top (Ns.cntE p n f).toNat).length:Nat):Int)) (hx2:(En.shS p.top (Ns.cntE p n f).toNat)[sx.toNat]? = some c.sh) (hlk:Jd.lkF p.top c.sh c.st.length i<((c.st.length:Nat):Int)∧Jd.lkS p.top c.sh c.st.length i<((c.st.length:Nat):Int)∧En.lkP p.top c.sh c.st.length i<((c.st.length:Nat):Int)):Ctr Try.prog J 64 [.el (En.sysP p n t f) 0,.agg (En.cfV sx c),.agg [iv r,iv i,iv kp]] (bv (En.nbB p.top c p.rules[r] i)):=by
 refine Zx Try.func64 rfl (by intro X hX;simp only [List.mem_cons,List.not_mem_nil,or_false] at hX;rcases hX with rfl | rfl | rfl;exact (show Plain (.el (En.sysP p n t f) 0) from .el (ZQ (En.plain_sysP p n t f)));exact Zk (En.plain_cfV _ c);exact Zk (fun X hX=>by simp only [List.mem_cons,List.not_mem_nil,or_false] at hX;rcases hX with rfl | rfl | rfl<;>exact .v _)) (n:=79) rfl (by simp) (fun w0 => ?_)
 refine kW 79 [] [(0,.el (En.sysP p n t f) 0),(1,.agg (En.cfV sx c)),(2,.agg [iv r,iv i,iv kp])] (Zb (Za (oA (ZK (X := .agg (En.cfV sx c)) (.tmp 1) rfl rfl rfl) I0 (oA (ZK (X := .agg [iv r,iv i,iv kp]) (.tmp 2) rfl rfl rfl) I0 (pM (aC (.bool false)) (Ze (Zd (Zb ?_))))))))
 refine Zr (dM (mT 0 (.el (En.sysP p n t f) 0)) (dA (Zm (off:=0) (.tmp 9) rfl) I0 (dA (fe 0 10 U94 10) I0 (dA (fe 9 11 U27 1) I0 (dA (lE (slA 18 cRu p.rules) 12 U25) I0 (dA (fe 0 5 U49 1) I0 (dA (lE (iv r) 14 U3) I0 (dC (xS (r*18) 13 15 U25) I0 I0 (dM (aT 16 (.el (p.rules.flatMap cRu) (r*18))) (dE ?_)))))))))) (by kernel_rfl)
 show ETri J w0 _ _ _
 refine kW 79 [] [(0,.el (En.sysP p n t f) 0),(4,.el (En.cfV sx c) 0),(5,.el ([iv r,iv i,iv kp]) 0),(6,bF),(7,.el (p.rules.flatMap cRu) (r*18))] (Zd (Zb ?_))
 refine Zr (dM (mT 0 (.el (En.sysP p n t f) 0)) (dA (Zm (off:=0) (.tmp 17) rfl) I0 (dA (fe 32 18 U94 1) I0 (dA (lE (En.lkS p.top (Ns.cntE p n f).toNat) 19 U92) I0 (dA (fe 0 4 U70 1) I0 (dA (lE (iv sx) 21 U3) I0 (dC (xS (sx.toNat*1) 20 22 U92) I0 I0 (dA (lE (Jd.lkA p.top c.sh c.st.length) 23 U85 (En.links_at hx2 hn)) I0 (dA (fe 1 5 U49 1) I0 (dA (lE (iv i) 25 U3) I0 (dC (xS (i*3) 24 26 U85) I0 I0 (dA (Zl (z:=3) (.tmp 27) rfl U82 rfl (by kernel_rfl) (En.lk_el (by omega)) rfl) I0 (dR (ZT (z := .agg #[.int .i64 0,.int .i64 0,.int .i64 0]) (k:=1) rfl (by kernel_rfl)) T0 T0 rfl (dR (sB 3 8 (.tmp 28) (.agg ([iv (Jd.lkF p.top c.sh c.st.length i),iv (Jd.lkS p.top c.sh c.st.length i),iv (En.lkP p.top c.sh c.st.length i)]))) ⟨I0,I0,T0⟩ ⟨rfl,T0⟩ rfl (dE ?_))))))))))))))) (by kernel_rfl)
 show ETri J w0 _ _ _
 refine kW 79 [(1,.box 82 ([iv (Jd.lkF p.top c.sh c.st.length i),iv (Jd.lkS p.top c.sh c.st.length i),iv (En.lkP p.top c.sh c.st.length i)]))] [(4,.el (En.cfV sx c) 0),(5,.el ([iv r,iv i,iv kp]) 0),(6,bF),(7,.el (p.rules.flatMap cRu) (r*18)),(8,.box 1 0)] (Zd (Zb (ZA (Zb ?_))))
 refine t_cut (True) (ofL [(1,.box 82 ([iv (Jd.lkF p.top c.sh c.st.length i),iv (Jd.lkS p.top c.sh c.st.length i),iv (En.lkP p.top c.sh c.st.length i)]))]) (ofT 79 [(4,.el (En.cfV sx c) 0),(6,bF),(7,.el (p.rules.flatMap cRu) (r*18)),(8,.box 1 0),(29,bv (decide (p.rules[r].pos=1) && !decide (((i:Nat):Int)=0)))]) ?_ (fun _ => ?_)
 by_cases hs1:p.rules[r].pos=1
 by_cases hs2:((i:Nat):Int)=0
 refine Za (pM (mT 7 (.el (p.rules.flatMap cRu) (r*18))) (oA (Zm (off:=r*18) (.tmp 30) rfl) I0 (oA (fe (r*18+13) 31 U55 1) I0 (oA (lE (iv p.rules[r].pos) 32 U3 ((Zu lenRu p.rules r 13 (by omega) (by decide)).trans rfl)) I0 (oC (ZD rfl (dT hs1)) I0 I0 (pM (mT 34 bT) (gA (fe 1 5 U49 1) I0 (gA (lE (iv i) 36 U3) I0 (gC (ZX rfl (dT' hs2)) I0 I0 (pP (pk true bF bF rfl) (pM (aT 39 bF) (kN 79 [(1,.box 82 ([iv (Jd.lkF p.top c.sh c.st.length i),iv (Jd.lkS p.top c.sh c.st.length i),iv (En.lkP p.top c.sh c.st.length i)]))] [(4,.el (En.cfV sx c) 0),(6,bF),(7,.el (p.rules.flatMap cRu) (r*18)),(8,.box 1 0),(29,bF)] ?_))))))))))))
 rw [show ((decide (p.rules[r].pos=1) && !decide (((i:Nat):Int)=0)))=false by simp only [dT hs1,dT hs2,decide_true,decide_false,Bool.and_true,Bool.true_and,Bool.false_and,Bool.and_false,Bool.true_or,Bool.false_or,Bool.or_true,Bool.or_false,Bool.not_true,Bool.not_false]]
 exact Y1 T0 (ZC _ _ rfl (by kernel_rfl) (by kernel_rfl))
 refine Za (pM (mT 7 (.el (p.rules.flatMap cRu) (r*18))) (oA (Zm (off:=r*18) (.tmp 30) rfl) I0 (oA (fe (r*18+13) 31 U55 1) I0 (oA (lE (iv p.rules[r].pos) 32 U3 ((Zu lenRu p.rules r 13 (by omega) (by decide)).trans rfl)) I0 (oC (ZD rfl (dT hs1)) I0 I0 (pM (mT 34 bT) (gA (fe 1 5 U49 1) I0 (gA (lE (iv i) 36 U3) I0 (gC (ZX rfl (dF' hs2)) I0 I0 (pP (pk true bT bF rfl) (pM (aT 39 bT) (kN 79 [(1,.box 82 ([iv (Jd.lkF p.top c.sh c.st.length i),iv (Jd.lkS p.top c.sh c.st.length i),iv (En.lkP p.top c.sh c.st.length i)]))] [(4,.el (En.cfV sx c) 0),(6,bF),(7,.el (p.rules.flatMap cRu) (r*18)),(8,.box 1 0),(29,bT)] ?_))))))))))))
 rw [show ((decide (p.rules[r].pos=1) && !decide (((i:Nat):Int)=0)))=true by simp only [dT hs1,dF hs2,decide_true,decide_false,Bool.and_true,Bool.true_and,Bool.false_and,Bool.and_false,Bool.true_or,Bool.false_or,Bool.or_true,Bool.or_false,Bool.not_true,Bool.not_false]]
 exact Y1 T0 (ZC _ _ rfl (by kernel_rfl) (by kernel_rfl))
 refine Za (pM (mT 7 (.el (p.rules.flatMap cRu) (r*18))) (oA (Zm (off:=r*18) (.tmp 30) rfl) I0 (oA (fe (r*18+13) 31 U55 1) I0 (oA (lE (iv p.rules[r].pos) 32 U3 ((Zu lenRu p.rules r 13 (by omega) (by decide)).trans rfl)) I0 (oC (ZD rfl (dF hs1)) I0 I0 (pM (mT 34 bF) (qK (qK (qK (pP (pk false (.v (.tuple #[])) bF rfl) (pM (aT 39 bF) (kN 79 [(1,.box 82 ([iv (Jd.lkF p.top c.sh c.st.length i),iv (Jd.lkS p.top c.sh c.st.length i),iv (En.lkP p.top c.sh c.st.length i)]))] [(4,.el (En.cfV sx c) 0),(6,bF),(7,.el (p.rules.flatMap cRu) (r*18)),(8,.box 1 0),(29,bF)] ?_))))))))))))
 rw [show ((decide (p.rules[r].pos=1) && !decide (((i:Nat):Int)=0)))=false by simp only [dF hs1,decide_true,decide_false,Bool.and_true,Bool.true_and,Bool.false_and,Bool.and_false,Bool.true_or,Bool.false_or,Bool.or_true,Bool.or_false,Bool.not_true,Bool.not_false]]
 exact Y1 T0 (ZC _ _ rfl (by kernel_rfl) (by kernel_rfl))
 refine Zd ?_
 by_cases hs3:(decide (p.rules[r].pos=1) && !decide (((i:Nat):Int)=0))=true
 rw [hs3]
 refine kW 79 [(1,.box 82 ([iv (Jd.lkF p.top c.sh c.st.length i),iv (Jd.lkS p.top c.sh c.st.length i),iv (En.lkP p.top c.sh c.st.length i)]))] [(4,.el (En.cfV sx c) 0),(6,bF),(7,.el (p.rules.flatMap cRu) (r*18)),(8,.box 1 0),(29,bT)] (Zq rfl (Zb (Za (pM (aC (.bool false)) (Ze (Zd (Zn (ZJ (Zj ?_)))))))))
 refine Zv Try.results64 (.tmp rfl) ?_
 exact congrArg (fun x:Bool=>AV.v (.bool x)) ((by unfold En.nbB;simp only [hs3,decide_true,decide_false,Bool.and_true,Bool.true_and,Bool.false_and,Bool.and_false,Bool.true_or,Bool.false_or,Bool.or_true,Bool.or_false,Bool.not_true,Bool.not_false]))
 have hs3f:(decide (p.rules[r].pos=1) && !decide (((i:Nat):Int)=0))=false:=by simpa using hs3
 rw [hs3f]
 refine kW 79 [(1,.box 82 ([iv (Jd.lkF p.top c.sh c.st.length i),iv (Jd.lkS p.top c.sh c.st.length i),iv (En.lkP p.top c.sh c.st.length i)]))] [(4,.el (En.cfV sx c) 0),(6,bF),(7,.el (p.rules.flatMap cRu) (r*18)),(8,.box 1 0),(29,bF)] (Zs rfl (Zb ?_))
 refine t_cut (True) (ofL [(1,.box 82 ([iv (Jd.lkF p.top c.sh c.st.length i),iv (Jd.lkS p.top c.sh c.st.length i),iv (En.lkP p.top c.sh c.st.length i)]))]) (ofT 79 [(4,.el (En.cfV sx c) 0),(6,bF),(7,.el (p.rules.flatMap cRu) (r*18)),(8,.box 1 0),(40,bv (decide (p.rules[r].pos=2)&&decide (0≤(Jd.lkS p.top c.sh c.st.length i))))]) ?_ (fun _ => ?_)
 by_cases hs4:p.rules[r].pos=2
 by_cases hs5:0≤(Jd.lkS p.top c.sh c.st.length i)
 refine Za (pM (mT 7 (.el (p.rules.flatMap cRu) (r*18))) (oA (Zm (off:=r*18) (.tmp 41) rfl) I0 (oA (fe (r*18+13) 42 U55 1) I0 (oA (lE (iv p.rules[r].pos) 43 U3 ((Zu lenRu p.rules r 13 (by omega) (by decide)).trans rfl)) I0 (oC (ZD rfl (dT hs4)) I0 I0 (pM (mT 45 bT) (gA (fb 1 8 U82 1) I0 (gB (lb (iv (Jd.lkS p.top c.sh c.st.length i)) 47 U3) I0 rfl (gC (YZ rfl (dT hs5)) I0 I0 (pP (pk true bT bF rfl) (pM (aT 50 bT) (kN 79 [(1,.box 82 ([iv (Jd.lkF p.top c.sh c.st.length i),iv (Jd.lkS p.top c.sh c.st.length i),iv (En.lkP p.top c.sh c.st.length i)]))] [(4,.el (En.cfV sx c) 0),(6,bF),(7,.el (p.rules.flatMap cRu) (r*18)),(8,.box 1 0),(40,bT)] ?_))))))))))))
 rw [show ((decide (p.rules[r].pos=2)&&decide (0≤(Jd.lkS p.top c.sh c.st.length i))))=true by simp only [hs3f,dT hs4,dT hs5,decide_true,decide_false,Bool.and_true,Bool.true_and,Bool.false_and,Bool.and_false,Bool.true_or,Bool.false_or,Bool.or_true,Bool.or_false,Bool.not_true,Bool.not_false]]
 exact Y1 T0 (ZC _ _ rfl (by kernel_rfl) (by kernel_rfl))
 refine Za (pM (mT 7 (.el (p.rules.flatMap cRu) (r*18))) (oA (Zm (off:=r*18) (.tmp 41) rfl) I0 (oA (fe (r*18+13) 42 U55 1) I0 (oA (lE (iv p.rules[r].pos) 43 U3 ((Zu lenRu p.rules r 13 (by omega) (by decide)).trans rfl)) I0 (oC (ZD rfl (dT hs4)) I0 I0 (pM (mT 45 bT) (gA (fb 1 8 U82 1) I0 (gB (lb (iv (Jd.lkS p.top c.sh c.st.length i)) 47 U3) I0 rfl (gC (YZ rfl (dF hs5)) I0 I0 (pP (pk true bF bF rfl) (pM (aT 50 bF) (kN 79 [(1,.box 82 ([iv (Jd.lkF p.top c.sh c.st.length i),iv (Jd.lkS p.top c.sh c.st.length i),iv (En.lkP p.top c.sh c.st.length i)]))] [(4,.el (En.cfV sx c) 0),(6,bF),(7,.el (p.rules.flatMap cRu) (r*18)),(8,.box 1 0),(40,bF)] ?_))))))))))))
 rw [show ((decide (p.rules[r].pos=2)&&decide (0≤(Jd.lkS p.top c.sh c.st.length i))))=false by simp only [hs3f,dT hs4,dF hs5,decide_true,decide_false,Bool.and_true,Bool.true_and,Bool.false_and,Bool.and_false,Bool.true_or,Bool.false_or,Bool.or_true,Bool.or_false,Bool.not_true,Bool.not_false]]
 exact Y1 T0 (ZC _ _ rfl (by kernel_rfl) (by kernel_rfl))
 refine Za (pM (mT 7 (.el (p.rules.flatMap cRu) (r*18))) (oA (Zm (off:=r*18) (.tmp 41) rfl) I0 (oA (fe (r*18+13) 42 U55 1) I0 (oA (lE (iv p.rules[r].pos) 43 U3 ((Zu lenRu p.rules r 13 (by omega) (by decide)).trans rfl)) I0 (oC (ZD rfl (dF hs4)) I0 I0 (pM (mT 45 bF) (qK (qK (qK (pP (pk false (.v (.tuple #[])) bF rfl) (pM (aT 50 bF) (kN 79 [(1,.box 82 ([iv (Jd.lkF p.top c.sh c.st.length i),iv (Jd.lkS p.top c.sh c.st.length i),iv (En.lkP p.top c.sh c.st.length i)]))] [(4,.el (En.cfV sx c) 0),(6,bF),(7,.el (p.rules.flatMap cRu) (r*18)),(8,.box 1 0),(40,bF)] ?_))))))))))))
 rw [show ((decide (p.rules[r].pos=2)&&decide (0≤(Jd.lkS p.top c.sh c.st.length i))))=false by simp only [hs3f,dF hs4,decide_true,decide_false,Bool.and_true,Bool.true_and,Bool.false_and,Bool.and_false,Bool.true_or,Bool.false_or,Bool.or_true,Bool.or_false,Bool.not_true,Bool.not_false]]
 exact Y1 T0 (ZC _ _ rfl (by kernel_rfl) (by kernel_rfl))
 refine Zd ?_
 by_cases hs6:(decide (p.rules[r].pos=2)&&decide (0≤(Jd.lkS p.top c.sh c.st.length i)))=true
 rw [hs6]
 refine kW 79 [(1,.box 82 ([iv (Jd.lkF p.top c.sh c.st.length i),iv (Jd.lkS p.top c.sh c.st.length i),iv (En.lkP p.top c.sh c.st.length i)]))] [(4,.el (En.cfV sx c) 0),(6,bF),(7,.el (p.rules.flatMap cRu) (r*18)),(8,.box 1 0),(40,bT)] (Zq rfl (Zb (Za (pM (aC (.bool false)) (Ze (Zd (Zn (ZJ (Zj ?_)))))))))
 refine Zv Try.results64 (.tmp rfl) ?_
 exact congrArg (fun x:Bool=>AV.v (.bool x)) ((by unfold En.nbB;simp only [hs3f,hs6,decide_true,decide_false,Bool.and_true,Bool.true_and,Bool.false_and,Bool.and_false,Bool.true_or,Bool.false_or,Bool.or_true,Bool.or_false,Bool.not_true,Bool.not_false]))
 have hs6f:(decide (p.rules[r].pos=2)&&decide (0≤(Jd.lkS p.top c.sh c.st.length i)))=false:=by simpa using hs6
 rw [hs6f]
 refine kW 79 [(1,.box 82 ([iv (Jd.lkF p.top c.sh c.st.length i),iv (Jd.lkS p.top c.sh c.st.length i),iv (En.lkP p.top c.sh c.st.length i)]))] [(4,.el (En.cfV sx c) 0),(6,bF),(7,.el (p.rules.flatMap cRu) (r*18)),(8,.box 1 0),(40,bF)] (Zs rfl (Zp (ZU (Zd (Zb ?_)))))
 by_cases hs7:(En.fitB c (Jd.lkF p.top c.sh c.st.length i) p.rules[r].left)=true
 by_cases hs8:(En.fitB c (Jd.lkS p.top c.sh c.st.length i) p.rules[r].right)=true
 refine Zr (dA (Zl (z:=16) (.tmp 4) rfl U70 rfl (by kernel_rfl) rfl rfl) I0 (dA (fb 0 8 U82 1) I0 (dB (lb (iv (Jd.lkF p.top c.sh c.st.length i)) 52 U3) I0 rfl (dM (mT 7 (.el (p.rules.flatMap cRu) (r*18))) (dA (Zm (off:=r*18) (.tmp 54) rfl) I0 (dA (fe (r*18+14) 55 U55 1) I0 (dA (lE (Zc p.rules[r].left) 56 U24 ((Zu lenRu p.rules r 14 (by omega) (by decide)).trans rfl)) I0 (dR (sc #[.tmp 51,.tmp 53,.tmp 57] [] (Yf (fits_c (Nat.le_trans hrl.left (by decide)) l8 hlk.1) hs7) [.agg (En.cfV sx c),iv (Jd.lkF p.top c.sh c.st.length i),Zc p.rules[r].left] rfl rfl rfl) ⟨I0,I0,I0,I0,T0⟩ T0 T0 (dM (mT 58 bT) (dA (Zl (z:=16) (.tmp 4) rfl U70 rfl (by kernel_rfl) rfl rfl) I0 (dA (fb 1 8 U82 1) I0 (dB (lb (iv (Jd.lkS p.top c.sh c.st.length i)) 61 U3) I0 rfl (dM (mT 7 (.el (p.rules.flatMap cRu) (r*18))) (dA (Zm (off:=r*18) (.tmp 63) rfl) I0 (dA (fe (r*18+15) 64 U55 1) I0 (dA (lE (Zc p.rules[r].right) 65 U24 ((Zu lenRu p.rules r 15 (by omega) (by decide)).trans rfl)) I0 (dR (sc #[.tmp 60,.tmp 62,.tmp 66] [] (Yf (fits_c (Nat.le_trans hrl.right (by decide)) l8 hlk.2.1) hs8) [.agg (En.cfV sx c),iv (Jd.lkS p.top c.sh c.st.length i),Zc p.rules[r].right] rfl rfl rfl) ⟨I0,I0,I0,I0,T0⟩ T0 T0 (dP (pk true bT bF rfl) (dM (mT 68 bT) (dA (Zl (z:=16) (.tmp 4) rfl U70 rfl (by kernel_rfl) rfl rfl) I0 (dA (fb 2 8 U82 1) I0 (dB (lb (iv (En.lkP p.top c.sh c.st.length i)) 71 U3) I0 rfl (dM (mT 7 (.el (p.rules.flatMap cRu) (r*18))) (dA (Zm (off:=r*18) (.tmp 73) rfl) I0 (dA (fe (r*18+16) 74 U55 1) I0 (dA (lE (Zc p.rules[r].parent) 75 U24 ((Zu lenRu p.rules r 16 (by omega) (by decide)).trans rfl)) I0 (dR (sc #[.tmp 70,.tmp 72,.tmp 76] [] (fits_c (Nat.le_trans hrl.parent (by decide)) l8 hlk.2.2) [.agg (En.cfV sx c),iv (En.lkP p.top c.sh c.st.length i),Zc p.rules[r].parent] rfl rfl rfl) ⟨I0,I0,I0,I0,T0⟩ T0 T0 (dP (pk true (bv (En.fitB c (En.lkP p.top c.sh c.st.length i) p.rules[r].parent)) bF rfl) (dM (aT 78 (bv (En.fitB c (En.lkP p.top c.sh c.st.length i) p.rules[r].parent))) (dE ?_)))))))))))))))))))))))))))))) (by kernel_rfl)
 show ETri J w0 _ _ _
 refine Zd (Zn ?_)
 refine Zv Try.results64 (.tmp rfl) ?_
 exact congrArg (fun x:Bool=>AV.v (.bool x)) ((by unfold En.nbB;simp only [hs3f,hs6f,hs7,hs8,decide_true,decide_false,Bool.and_true,Bool.true_and,Bool.false_and,Bool.and_false,Bool.true_or,Bool.false_or,Bool.or_true,Bool.or_false,Bool.not_true,Bool.not_false]))
 have hs8f:(En.fitB c (Jd.lkS p.top c.sh c.st.length i) p.rules[r].right)=false:=by simpa using hs8
 refine Zr (dA (Zl (z:=16) (.tmp 4) rfl U70 rfl (by kernel_rfl) rfl rfl) I0 (dA (fb 0 8 U82 1) I0 (dB (lb (iv (Jd.lkF p.top c.sh c.st.length i)) 52 U3) I0 rfl (dM (mT 7 (.el (p.rules.flatMap cRu) (r*18))) (dA (Zm (off:=r*18) (.tmp 54) rfl) I0 (dA (fe (r*18+14) 55 U55 1) I0 (dA (lE (Zc p.rules[r].left) 56 U24 ((Zu lenRu p.rules r 14 (by omega) (by decide)).trans rfl)) I0 (dR (sc #[.tmp 51,.tmp 53,.tmp 57] [] (Yf (fits_c (Nat.le_trans hrl.left (by decide)) l8 hlk.1) hs7) [.agg (En.cfV sx c),iv (Jd.lkF p.top c.sh c.st.length i),Zc p.rules[r].left] rfl rfl rfl) ⟨I0,I0,I0,I0,T0⟩ T0 T0 (dM (mT 58 bT) (dA (Zl (z:=16) (.tmp 4) rfl U70 rfl (by kernel_rfl) rfl rfl) I0 (dA (fb 1 8 U82 1) I0 (dB (lb (iv (Jd.lkS p.top c.sh c.st.length i)) 61 U3) I0 rfl (dM (mT 7 (.el (p.rules.flatMap cRu) (r*18))) (dA (Zm (off:=r*18) (.tmp 63) rfl) I0 (dA (fe (r*18+15) 64 U55 1) I0 (dA (lE (Zc p.rules[r].right) 65 U24 ((Zu lenRu p.rules r 15 (by omega) (by decide)).trans rfl)) I0 (dR (sc #[.tmp 60,.tmp 62,.tmp 66] [] (Yf (fits_c (Nat.le_trans hrl.right (by decide)) l8 hlk.2.1) hs8f) [.agg (En.cfV sx c),iv (Jd.lkS p.top c.sh c.st.length i),Zc p.rules[r].right] rfl rfl rfl) ⟨I0,I0,I0,I0,T0⟩ T0 T0 (dP (pk true bF bF rfl) (dM (mT 68 bF) (dK (dK (dK (dK (dK (dK (dK (dK (dP (pk false (.v (.tuple #[])) bF rfl) (dM (aT 78 bF) (dE ?_)))))))))))))))))))))))))))))) (by kernel_rfl)
 show ETri J w0 _ _ _
 refine Zd (Zn ?_)
 refine Zv Try.results64 (.tmp rfl) ?_
 exact congrArg (fun x:Bool=>AV.v (.bool x)) ((by unfold En.nbB;simp only [hs3f,hs6f,hs7,hs8f,decide_true,decide_false,Bool.and_true,Bool.true_and,Bool.false_and,Bool.and_false,Bool.true_or,Bool.false_or,Bool.or_true,Bool.or_false,Bool.not_true,Bool.not_false]))
 have hs7f:(En.fitB c (Jd.lkF p.top c.sh c.st.length i) p.rules[r].left)=false:=by simpa using hs7
 refine Zr (dA (Zl (z:=16) (.tmp 4) rfl U70 rfl (by kernel_rfl) rfl rfl) I0 (dA (fb 0 8 U82 1) I0 (dB (lb (iv (Jd.lkF p.top c.sh c.st.length i)) 52 U3) I0 rfl (dM (mT 7 (.el (p.rules.flatMap cRu) (r*18))) (dA (Zm (off:=r*18) (.tmp 54) rfl) I0 (dA (fe (r*18+14) 55 U55 1) I0 (dA (lE (Zc p.rules[r].left) 56 U24 ((Zu lenRu p.rules r 14 (by omega) (by decide)).trans rfl)) I0 (dR (sc #[.tmp 51,.tmp 53,.tmp 57] [] (Yf (fits_c (Nat.le_trans hrl.left (by decide)) l8 hlk.1) hs7f) [.agg (En.cfV sx c),iv (Jd.lkF p.top c.sh c.st.length i),Zc p.rules[r].left] rfl rfl rfl) ⟨I0,I0,I0,I0,T0⟩ T0 T0 (dM (mT 58 bF) (dK (dK (dK (dK (dK (dK (dK (dK (dP (pk false (.v (.tuple #[])) bF rfl) (dM (mT 68 bF) (dK (dK (dK (dK (dK (dK (dK (dK (dP (pk false (.v (.tuple #[])) bF rfl) (dM (aT 78 bF) (dE ?_)))))))))))))))))))))))))))))) (by kernel_rfl)
 show ETri J w0 _ _ _
 refine Zd (Zn ?_)
 refine Zv Try.results64 (.tmp rfl) ?_
 exact congrArg (fun x:Bool=>AV.v (.bool x)) ((by unfold En.nbB;simp only [hs3f,hs6f,hs7f,decide_true,decide_false,Bool.and_true,Bool.true_and,Bool.false_and,Bool.and_false,Bool.true_or,Bool.false_or,Bool.or_true,Bool.or_false,Bool.not_true,Bool.not_false]))
theorem passH_c {p:Fm} {n t f:Int} {c:Cf} (hn:(Ns.cntE p n f).toNat=c.st.length) (l8:c.st.length≤8) {sx:Int} {r:Nat} (hr:r<p.rules.length) {i:Nat} (hi:i<c.st.length) {kp:Int} (hrl:RuLen p.rules[r]) (hx0:0≤sx) (hx1:sx<(((En.shS p.top (Ns.cntE p n f).toNat).length:Nat):Int)) (hx2:(En.shS p.top (Ns.cntE p n f).toNat)[sx.toNat]? = some c.sh) (hlk:Jd.lkF p.top c.sh c.st.length i<((c.st.length:Nat):Int)∧Jd.lkS p.top c.sh c.st.length i<((c.st.length:Nat):Int)∧En.lkP p.top c.sh c.st.length i<((c.st.length:Nat):Int)):Ctr Try.prog J 65 [.el (En.sysP p n t f) 0,.agg (En.cfV sx c),.agg [iv r,iv i,iv kp]] (bv (En.psB p.top c p.rules[r] i kp)):=by
 refine Zx Try.func65 rfl (by intro X hX;simp only [List.mem_cons,List.not_mem_nil,or_false] at hX;rcases hX with rfl | rfl | rfl;exact (show Plain (.el (En.sysP p n t f) 0) from .el (ZQ (En.plain_sysP p n t f)));exact Zk (En.plain_cfV _ c);exact Zk (fun X hX=>by simp only [List.mem_cons,List.not_mem_nil,or_false] at hX;rcases hX with rfl | rfl | rfl<;>exact .v _)) (n:=63) rfl (by simp) (fun w0 => ?_)
 refine kW 63 [] [(0,.el (En.sysP p n t f) 0),(1,.agg (En.cfV sx c)),(2,.agg [iv r,iv i,iv kp])] (Zb (Za (oA (ZK (X := .agg (En.cfV sx c)) (.tmp 1) rfl rfl rfl) I0 (oA (ZK (X := .agg [iv r,iv i,iv kp]) (.tmp 2) rfl rfl rfl) I0 (pM (aC (.bool false)) (Ze (Zd (Zb ?_))))))))
 refine Zr (dM (mT 0 (.el (En.sysP p n t f) 0)) (dA (Zm (off:=0) (.tmp 8) rfl) I0 (dA (fe 32 9 U94 1) I0 (dA (lE (En.lkS p.top (Ns.cntE p n f).toNat) 10 U92) I0 (dA (fe 0 4 U70 1) I0 (dA (lE (iv sx) 12 U3) I0 (dC (xS (sx.toNat*1) 11 13 U92) I0 I0 (dA (lE (Jd.lkA p.top c.sh c.st.length) 14 U85 (En.links_at hx2 hn)) I0 (dA (fe 1 5 U49 1) I0 (dA (lE (iv i) 16 U3) I0 (dC (xS (i*3) 15 17 U85) I0 I0 (dA (Zl (z:=3) (.tmp 18) rfl U82 rfl (by kernel_rfl) (En.lk_el (by omega)) rfl) I0 (dR (ZT (z := .agg #[.int .i64 0,.int .i64 0,.int .i64 0]) (k:=1) rfl (by kernel_rfl)) T0 T0 rfl (dR (sB 3 7 (.tmp 19) (.agg ([iv (Jd.lkF p.top c.sh c.st.length i),iv (Jd.lkS p.top c.sh c.st.length i),iv (En.lkP p.top c.sh c.st.length i)]))) ⟨I0,I0,T0⟩ ⟨rfl,T0⟩ rfl (dE ?_))))))))))))))) (by kernel_rfl)
 show ETri J w0 _ _ _
 refine kW 63 [(1,.box 82 ([iv (Jd.lkF p.top c.sh c.st.length i),iv (Jd.lkS p.top c.sh c.st.length i),iv (En.lkP p.top c.sh c.st.length i)]))] [(0,.el (En.sysP p n t f) 0),(5,.el ([iv r,iv i,iv kp]) 0),(6,bF),(7,.box 1 0)] (Zd (Zb (Zb ?_)))
 refine Zr (dM (mT 0 (.el (En.sysP p n t f) 0)) (dA (Zm (off:=0) (.tmp 20) rfl) I0 (dA (fe 0 21 U94 10) I0 (dA (fe 9 22 U27 1) I0 (dA (lE (slA 18 cRu p.rules) 23 U25) I0 (dA (fe 0 5 U49 1) I0 (dA (lE (iv r) 25 U3) I0 (dC (xS (r*18) 24 26 U25) I0 I0 (dA (fe (r*18+17) 27 U55 1) I0 (dA (lE (iv p.rules[r].dir) 28 U3 ((Zu lenRu p.rules r 17 (by omega) (by decide)).trans rfl)) I0 (dE ?_))))))))))) (by kernel_rfl)
 show ETri J w0 _ _ _
 refine kW 63 [(1,.box 82 ([iv (Jd.lkF p.top c.sh c.st.length i),iv (Jd.lkS p.top c.sh c.st.length i),iv (En.lkP p.top c.sh c.st.length i)]))] [(5,.el ([iv r,iv i,iv kp]) 0),(6,bF),(7,.box 1 0),(29,iv p.rules[r].dir)] (Zd (ZA (Zb ?_)))
 by_cases hs1:p.rules[r].dir=1
 refine Za (oC (ZD rfl (dT hs1)) I0 I0 (pM (aT 31 bT) (Ze (Zd (Zq rfl (Zb (Za (oA (fe 2 5 U49 1) I0 (oA (lE (iv kp) 32 U3) I0 (oA (fb 1 7 U82 1) I0 (oB (lb (iv (Jd.lkS p.top c.sh c.st.length i)) 34 U3) I0 rfl (oC (ZD rfl rfl) I0 I0 (pM (aT 36 (bv (decide (kp=(Jd.lkS p.top c.sh c.st.length i))))) (Ze (Zd (Zn (ZJ (Zj ?_))))))))))))))))))
 refine Zv Try.results65 (.tmp rfl) ?_
 exact congrArg (fun x:Bool=>AV.v (.bool x)) ((by unfold En.psB;rw [if_pos hs1]))
 refine Za (oC (ZD rfl (dF hs1)) I0 I0 (pM (aT 31 bF) (Ze (Zd (Zs rfl (Zb ?_))))))
 by_cases hs2:p.rules[r].dir=2
 refine Za (oC (ZD rfl (dT hs2)) I0 I0 (pM (aT 38 bT) (Ze (Zd (Zq rfl (Zb (Za (oA (fe 2 5 U49 1) I0 (oA (lE (iv kp) 39 U3) I0 (oA (fb 0 7 U82 1) I0 (oB (lb (iv (Jd.lkF p.top c.sh c.st.length i)) 41 U3) I0 rfl (oC (ZD rfl rfl) I0 I0 (pM (aT 43 (bv (decide (kp=(Jd.lkF p.top c.sh c.st.length i))))) (Ze (Zd (Zn (ZJ (Zj ?_))))))))))))))))))
 refine Zv Try.results65 (.tmp rfl) ?_
 exact congrArg (fun x:Bool=>AV.v (.bool x)) ((by unfold En.psB;rw [if_neg hs1,if_pos hs2]))
 refine Za (oC (ZD rfl (dF hs2)) I0 I0 (pM (aT 38 bF) (Ze (Zd (Zs rfl (Zb ?_))))))
 by_cases hs3:p.rules[r].dir=3
 refine Za (oC (ZD rfl (dT hs3)) I0 I0 (pM (aT 45 bT) (Ze (Zd (Zq rfl (Zb ?_))))))
 by_cases hs4:kp=(Jd.lkF p.top c.sh c.st.length i)
 refine Za (oA (fe 2 5 U49 1) I0 (oA (lE (iv kp) 46 U3) I0 (oA (fb 0 7 U82 1) I0 (oB (lb (iv (Jd.lkF p.top c.sh c.st.length i)) 48 U3) I0 rfl (oC (ZD rfl (dT hs4)) I0 I0 (pM (mT 50 bT) (qK (qK (qK (qK (qK (pP (pk true bT (.v (.tuple #[])) rfl) (pM (aT 57 bT) (Ze (Zd (Zn (ZJ (Zj ?_))))))))))))))))))
 refine Zv Try.results65 (.tmp rfl) ?_
 exact congrArg (fun x:Bool=>AV.v (.bool x)) ((by unfold En.psB;rw [if_neg hs1,if_neg hs2,if_pos hs3];simp only [dT hs4,decide_true,decide_false,Bool.and_true,Bool.true_and,Bool.false_and,Bool.and_false,Bool.true_or,Bool.false_or,Bool.or_true,Bool.or_false,Bool.not_true,Bool.not_false]))
 refine Za (oA (fe 2 5 U49 1) I0 (oA (lE (iv kp) 46 U3) I0 (oA (fb 0 7 U82 1) I0 (oB (lb (iv (Jd.lkF p.top c.sh c.st.length i)) 48 U3) I0 rfl (oC (ZD rfl (dF hs4)) I0 I0 (pM (mT 50 bF) (gA (fe 2 5 U49 1) I0 (gA (lE (iv kp) 52 U3) I0 (gA (fb 1 7 U82 1) I0 (gB (lb (iv (Jd.lkS p.top c.sh c.st.length i)) 54 U3) I0 rfl (gC (ZD rfl rfl) I0 I0 (pP (pk false bT (bv (decide (kp=(Jd.lkS p.top c.sh c.st.length i)))) rfl) (pM (aT 57 (bv (decide (kp=(Jd.lkS p.top c.sh c.st.length i))))) (Ze (Zd (Zn (ZJ (Zj ?_))))))))))))))))))
 refine Zv Try.results65 (.tmp rfl) ?_
 exact congrArg (fun x:Bool=>AV.v (.bool x)) ((by unfold En.psB;rw [if_neg hs1,if_neg hs2,if_pos hs3];simp only [dF hs4,decide_true,decide_false,Bool.and_true,Bool.true_and,Bool.false_and,Bool.and_false,Bool.true_or,Bool.false_or,Bool.or_true,Bool.or_false,Bool.not_true,Bool.not_false]))
 refine Za (oC (ZD rfl (dF hs3)) I0 I0 (pM (aT 45 bF) (Ze (Zd (Zs rfl (Zp (ZU (Zd (Zb (Za (oA (fe 2 5 U49 1) I0 (oA (lE (iv kp) 58 U3) I0 (oA (fb 2 7 U82 1) I0 (oB (lb (iv (En.lkP p.top c.sh c.st.length i)) 60 U3) I0 rfl (oC (ZD rfl rfl) I0 I0 (pM (aT 62 (bv (decide (kp=(En.lkP p.top c.sh c.st.length i))))) (Ze (Zd (Zn ?_)))))))))))))))))))
 refine Zv Try.results65 (.tmp rfl) ?_
 exact congrArg (fun x:Bool=>AV.v (.bool x)) ((by unfold En.psB;rw [if_neg hs1,if_neg hs2,if_neg hs3]))
theorem En.nbr {p:Fm} {n f:Int} {c:Cf} (hc:En.CfV p n f c) (hv:valE p=0) {r:Nat} (hr:r<p.rules.length) (hk:¬ p.rules[r].kind≤3) {i:Nat} (hi:i<c.st.length) :
    (0≤(Rd.shI p.top (Ns.shT p.top (Ns.cntE p n f)) c.sh)∧(Rd.shI p.top (Ns.shT p.top (Ns.cntE p n f)) c.sh)<(((En.shS p.top (Ns.cntE p n f).toNat).length:Nat):Int)∧(En.shS p.top (Ns.cntE p n f).toNat)[((Rd.shI p.top (Ns.shT p.top (Ns.cntE p n f)) c.sh)).toNat]? = some c.sh) ∧
    (Jd.lkF p.top c.sh c.st.length i<((c.st.length:Nat):Int)∧Jd.lkS p.top c.sh c.st.length i<((c.st.length:Nat):Int)∧En.lkP p.top c.sh c.st.length i<((c.st.length:Nat):Int)):=by
  have R:=En.val_in hv (List.getElem_mem hr)
  have h1:¬ p.top=1:=fun e=>hk (R.kt.2 e)
  have ht:=Jd.top_in hv
  have h0:0≤Ns.cntE p n f:=by have:=hc.ln;omega
  exact ⟨En.shI_at hc h1 ht h0,En.lk_ok hc h1 ht hi⟩
theorem En.isP_nat {m i:Nat} (h:i<m):En.isP m ((i:Nat):Int)=true:=by unfold En.isP;rw [decide_eq_true (by omega),decide_eq_true (by omega)];rfl
theorem enabled_in {p:Fm} (HL:FamLen p) {n t f:Int} {c:Cf} (hc:En.CfV p n f c) (hv:valE p=0) (l8:c.st.length≤8) {r:Nat} (hr:r<p.rules.length) {i:Nat} (hi:i<c.st.length) {kp:Int} {g:Nat→Int} (hg:∀ m,0≤g m∧g m≤3000000):Ctr Try.prog J 36 [.el (En.sysP p n t f) 0,.agg (En.cfV (Rd.shI p.top (Ns.shT p.top (Ns.cntE p n f)) c.sh) c),.agg [iv r,iv i,iv kp],.agg (En.msA g)] (bv (En.enR p.top n t f c g p.rules[r] i kp)):=by
 have R:=En.val_in hv (List.getElem_mem hr)
 have hz:=En.val_sizes hv
 have hn:=hc.ln.symm
 have hnN:(Ns.cntE p n f).toNat=c.st.length:=by omega
 have hle:=(HL.rules _ (List.getElem_mem hr)).ex
 have hlf:=(HL.rules _ (List.getElem_mem hr)).fa
 refine Zx Try.func36 rfl (by intro X hX;simp only [List.mem_cons,List.not_mem_nil,or_false] at hX;rcases hX with rfl | rfl | rfl | rfl;exact (show Plain (.el (En.sysP p n t f) 0) from .el (ZQ (En.plain_sysP p n t f)));exact Zk (En.plain_cfV _ c);exact Zk (fun X hX=>by simp only [List.mem_cons,List.not_mem_nil,or_false] at hX;rcases hX with rfl | rfl | rfl<;>exact .v _);exact Zk (En.plain_msA _)) (n:=94) rfl (by simp) (fun w0 => ?_)
 refine kW 94 [] [(0,.el (En.sysP p n t f) 0),(1,.agg (En.cfV (Rd.shI p.top (Ns.shT p.top (Ns.cntE p n f)) c.sh) c)),(2,.agg [iv r,iv i,iv kp]),(3,.agg (En.msA g))] (Zb (Za (oA (ZK (X := .agg (En.cfV (Rd.shI p.top (Ns.shT p.top (Ns.cntE p n f)) c.sh) c)) (.tmp 1) rfl rfl rfl) I0 (oA (ZK (X := .agg [iv r,iv i,iv kp]) (.tmp 2) rfl rfl rfl) I0 (oA (ZK (X := .agg (En.msA g)) (.tmp 3) rfl rfl rfl) I0 (pM (aC (.bool false)) (Ze (Zd (Zb (Zb ?_))))))))))
 refine Zr (dA (fe 0 6 U49 1) I0 (dA (lE (iv r) 10 U3) I0 (dC (ZZ rfl (dF (by omega))) I0 I0 (dM (mT 12 bF) (dA (fe 0 6 U49 1) I0 (dA (lE (iv r) 14 U3) I0 (dM (mT 0 (.el (En.sysP p n t f) 0)) (dA (Zm (off:=0) (.tmp 16) rfl) I0 (dA (fe 0 17 U94 10) I0 (dA (fe 9 18 U27 1) I0 (dA (lE (slA 18 cRu p.rules) 19 U25) I0 (dA (nS 20 U25) I0 (dC (YZ rfl (dF (by omega))) I0 I0 (dP (pk false bT bF rfl) (dM (mT 23 bF) (dM (mT 0 (.el (En.sysP p n t f) 0)) (dA (fe 1 6 U49 1) I0 (dA (lE (iv i) 26 U3) I0 (dD (sc #[.tmp 25,.tmp 27] [] (Yf (isProc_c hn) (En.isP_nat hi)) [.el (En.sysP p n t f) 0,iv i] rfl rfl rfl) I0 I0 I0 (dA (Ya rfl rfl) I0 (dP (pk false bT bF rfl) (dE ?_)))))))))))))))))))))) (by kernel_rfl)
 show ETri J w0 _ _ _
 refine kW 94 [] [(0,.el (En.sysP p n t f) 0),(5,.el (En.cfV (Rd.shI p.top (Ns.shT p.top (Ns.cntE p n f)) c.sh) c) 0),(6,.el ([iv r,iv i,iv kp]) 0),(7,.el (En.msA g) 0),(8,bF),(30,bF)] (Zd (Zs rfl (Zp (Zd (Zb ?_)))))
 refine Zr (dM (mT 0 (.el (En.sysP p n t f) 0)) (dA (Zm (off:=0) (.tmp 31) rfl) I0 (dA (fe 0 32 U94 10) I0 (dA (fe 9 33 U27 1) I0 (dA (lE (slA 18 cRu p.rules) 34 U25) I0 (dA (fe 0 6 U49 1) I0 (dA (lE (iv r) 36 U3) I0 (dC (xS (r*18) 35 37 U25) I0 I0 (dM (aT 38 (.el (p.rules.flatMap cRu) (r*18))) (dE ?_)))))))))) (by kernel_rfl)
 show ETri J w0 _ _ _
 refine kW 94 [] [(0,.el (En.sysP p n t f) 0),(5,.el (En.cfV (Rd.shI p.top (Ns.shT p.top (Ns.cntE p n f)) c.sh) c) 0),(6,.el ([iv r,iv i,iv kp]) 0),(7,.el (En.msA g) 0),(8,bF),(9,.el (p.rules.flatMap cRu) (r*18))] (Zd (Zb (Zb ?_)))
 by_cases hs1:(c.st.getD i 0)=p.rules[r].frm
 by_cases hs2:(En.ptB c p.rules[r] i kp)=true
 refine Zr (dA (fe 1 6 U49 1) I0 (dA (lE (iv i) 39 U3) I0 (dA (fe 1 5 U70 8) I0 (dC (Z0 (off':=1+i*1) (.tmp 41) (.tmp 40) rfl U66 (by kernel_rfl) (by omega) (by omega) rfl) I0 I0 (dA (lE (iv (c.st.getD i 0)) 42 U3 (En.cfV_st (by omega))) I0 (dM (mT 9 (.el (p.rules.flatMap cRu) (r*18))) (dA (Zm (off:=r*18) (.tmp 44) rfl) I0 (dA (fe (r*18+2) 45 U55 1) I0 (dA (lE (iv p.rules[r].frm) 46 U3 ((Zu lenRu p.rules r 2 (by omega) (by decide)).trans rfl)) I0 (dC (ZX rfl (dT' hs1)) I0 I0 (dM (mT 48 bF) (dM (mT 0 (.el (En.sysP p n t f) 0)) (dA (Zl (z:=16) (.tmp 5) rfl U70 rfl (by kernel_rfl) rfl rfl) I0 (dM (mT 9 (.el (p.rules.flatMap cRu) (r*18))) (dA (Zl (z:=3) (.tmp 6) rfl U49 rfl (by kernel_rfl) rfl rfl) I0 (dR (sc #[.tmp 50,.tmp 51,.tmp 52,.tmp 53] [] (Yf (partFits_c hn l8 hr hi) hs2) [.el (En.sysP p n t f) 0,.agg (En.cfV (Rd.shI p.top (Ns.shT p.top (Ns.cntE p n f)) c.sh) c),.el (p.rules.flatMap cRu) (r*18),.agg ([iv r,iv i,iv kp])] rfl rfl rfl) ⟨I0,I0,I0,I0,I0,T0⟩ T0 T0 (dA (Ya rfl rfl) I0 (dP (pk false bT bF rfl) (dE ?_))))))))))))))))))) (by kernel_rfl)
 show ETri J w0 _ _ _
 refine kW 94 [] [(0,.el (En.sysP p n t f) 0),(5,.el (En.cfV (Rd.shI p.top (Ns.shT p.top (Ns.cntE p n f)) c.sh) c) 0),(6,.el ([iv r,iv i,iv kp]) 0),(7,.el (En.msA g) 0),(8,bF),(9,.el (p.rules.flatMap cRu) (r*18)),(56,bF)] (Zd (Zs rfl (Zp (Zd (Zb (Zb (Za (pM (mT 9 (.el (p.rules.flatMap cRu) (r*18))) (oA (Zm (off:=r*18) (.tmp 57) rfl) I0 (oA (fe (r*18+1) 58 U55 1) I0 (oA (lE (iv p.rules[r].kind) 59 U3 ((Zu lenRu p.rules r 1 (by omega) (by decide)).trans rfl)) I0 (Ze (Zd (ZA (Zb ?_)))))))))))))))
 by_cases hs3:p.rules[r].kind=1
 refine Za (oC (ZD rfl (dT hs3)) I0 I0 (pM (aT 62 bT) (Ze (Zd (Zq rfl (Zb (Za (pM (mT 0 (.el (En.sysP p n t f) 0)) (oA (Zl (z:=16) (.tmp 5) rfl U70 rfl (by kernel_rfl) rfl rfl) I0 (oA (Zl (z:=3) (.tmp 6) rfl U49 rfl (by kernel_rfl) rfl rfl) I0 (oA (Zl (z:=3) (.tmp 7) rfl U68 rfl (by kernel_rfl) rfl rfl) I0 (ZM rfl (sc #[.tmp 63,.tmp 64,.tmp 65,.tmp 66] [] (localH_c hn l8 hr hi hg hz.1 hz.2.2.1 R.gl R.gd (Nat.le_trans hle (by decide)) (Nat.le_trans hlf (by decide))) [.el (En.sysP p n t f) 0,.agg (En.cfV (Rd.shI p.top (Ns.shT p.top (Ns.cntE p n f)) c.sh) c),.agg ([iv r,iv i,iv kp]),.agg (En.msA g)] rfl rfl rfl) ⟨I0,I0,I0,I0,I0,T0⟩ T0 T0 (pM (aT 67 (bv (En.loB n t f c p.rules[r] g i))) (Ze (Zd (Zn (ZJ (Zj ?_))))))))))))))))))
 refine Zv Try.results36 (.tmp rfl) ?_
 exact congrArg (fun x:Bool=>AV.v (.bool x)) ((by unfold En.enR;rw [if_pos hs3];simp only [dT hs1,hs2,decide_true,decide_false,Bool.and_true,Bool.true_and,Bool.false_and,Bool.and_false,Bool.true_or,Bool.false_or,Bool.or_true,Bool.or_false,Bool.not_true,Bool.not_false]))
 refine Za (oC (ZD rfl (dF hs3)) I0 I0 (pM (aT 62 bF) (Ze (Zd (Zs rfl (Zb ?_))))))
 by_cases hs4:p.rules[r].kind=4
 refine Za (oC (ZD rfl (dT hs4)) I0 I0 (pM (aT 69 bT) (Ze (Zd (Zq rfl (Zb (Za (pM (mT 0 (.el (En.sysP p n t f) 0)) (oA (Zl (z:=16) (.tmp 5) rfl U70 rfl (by kernel_rfl) rfl rfl) I0 (oA (Zl (z:=3) (.tmp 6) rfl U49 rfl (by kernel_rfl) rfl rfl) I0 (ZM rfl (sc #[.tmp 70,.tmp 71,.tmp 72] [] (neighH_c hnN l8 hr hi (kp:=kp) (HL.rules _ (List.getElem_mem hr)) (En.nbr hc hv hr (by have:=hs4;omega) hi).1.1 (En.nbr hc hv hr (by have:=hs4;omega) hi).1.2.1 (En.nbr hc hv hr (by have:=hs4;omega) hi).1.2.2 (En.nbr hc hv hr (by have:=hs4;omega) hi).2) [.el (En.sysP p n t f) 0,.agg (En.cfV (Rd.shI p.top (Ns.shT p.top (Ns.cntE p n f)) c.sh) c),.agg ([iv r,iv i,iv kp])] rfl rfl rfl) ⟨I0,I0,I0,I0,T0⟩ T0 T0 (pM (aT 73 (bv (En.nbB p.top c p.rules[r] i))) (Ze (Zd (Zn (ZJ (Zj ?_)))))))))))))))))
 refine Zv Try.results36 (.tmp rfl) ?_
 exact congrArg (fun x:Bool=>AV.v (.bool x)) ((by unfold En.enR;rw [if_neg hs3,if_pos hs4];simp only [dT hs1,hs2,decide_true,decide_false,Bool.and_true,Bool.true_and,Bool.false_and,Bool.and_false,Bool.true_or,Bool.false_or,Bool.or_true,Bool.or_false,Bool.not_true,Bool.not_false]))
 refine Za (oC (ZD rfl (dF hs4)) I0 I0 (pM (aT 69 bF) (Ze (Zd (Zs rfl (Zb ?_))))))
 by_cases hs5:p.rules[r].kind=5
 refine Za (oC (ZD rfl (dT hs5)) I0 I0 (pM (aT 75 bT) (Ze (Zd (Zq rfl (Zb (Za (pM (mT 0 (.el (En.sysP p n t f) 0)) (oA (Zl (z:=16) (.tmp 5) rfl U70 rfl (by kernel_rfl) rfl rfl) I0 (oA (Zl (z:=3) (.tmp 6) rfl U49 rfl (by kernel_rfl) rfl rfl) I0 (ZM rfl (sc #[.tmp 76,.tmp 77,.tmp 78] [] (passH_c hnN l8 hr hi (HL.rules _ (List.getElem_mem hr)) (En.nbr hc hv hr (by have:=hs5;omega) hi).1.1 (En.nbr hc hv hr (by have:=hs5;omega) hi).1.2.1 (En.nbr hc hv hr (by have:=hs5;omega) hi).1.2.2 (En.nbr hc hv hr (by have:=hs5;omega) hi).2) [.el (En.sysP p n t f) 0,.agg (En.cfV (Rd.shI p.top (Ns.shT p.top (Ns.cntE p n f)) c.sh) c),.agg ([iv r,iv i,iv kp])] rfl rfl rfl) ⟨I0,I0,I0,I0,T0⟩ T0 T0 (pM (aT 79 (bv (En.psB p.top c p.rules[r] i kp))) (Ze (Zd (Zn (ZJ (Zj ?_)))))))))))))))))
 refine Zv Try.results36 (.tmp rfl) ?_
 exact congrArg (fun x:Bool=>AV.v (.bool x)) ((by unfold En.enR;rw [if_neg hs3,if_neg hs4,if_pos hs5];simp only [dT hs1,hs2,decide_true,decide_false,Bool.and_true,Bool.true_and,Bool.false_and,Bool.and_false,Bool.true_or,Bool.false_or,Bool.or_true,Bool.or_false,Bool.not_true,Bool.not_false]))
 refine Za (oC (ZD rfl (dF hs5)) I0 I0 (pM (aT 75 bF) (Ze (Zd (Zs rfl (Zp (ZU (Zd (Zb ?_)))))))))
 by_cases hs6:p.rules[r].rd<0
 refine Zr (dM (mT 9 (.el (p.rules.flatMap cRu) (r*18))) (dA (Zm (off:=r*18) (.tmp 80) rfl) I0 (dA (fe (r*18+10) 81 U55 1) I0 (dA (lE (iv p.rules[r].rd) 82 U3 ((Zu lenRu p.rules r 10 (by omega) (by decide)).trans rfl)) I0 (dC (ZZ rfl (dT hs6)) I0 I0 (dM (mT 84 bT) (dK (dK (dK (dK (dK (dK (dK (dP (pk true bT (.v (.tuple #[])) rfl) (dM (aT 93 bT) (dE ?_)))))))))))))))) (by kernel_rfl)
 show ETri J w0 _ _ _
 refine Zd (Zn ?_)
 refine Zv Try.results36 (.tmp rfl) ?_
 exact congrArg (fun x:Bool=>AV.v (.bool x)) ((by unfold En.enR;rw [if_neg hs3,if_neg hs4,if_neg hs5];simp only [dT hs1,hs2,dT hs6,decide_true,decide_false,Bool.and_true,Bool.true_and,Bool.false_and,Bool.and_false,Bool.true_or,Bool.false_or,Bool.or_true,Bool.or_false,Bool.not_true,Bool.not_false]))
 refine Zr (dM (mT 9 (.el (p.rules.flatMap cRu) (r*18))) (dA (Zm (off:=r*18) (.tmp 80) rfl) I0 (dA (fe (r*18+10) 81 U55 1) I0 (dA (lE (iv p.rules[r].rd) 82 U3 ((Zu lenRu p.rules r 10 (by omega) (by decide)).trans rfl)) I0 (dC (ZZ rfl (dF hs6)) I0 I0 (dM (mT 84 bF) (dA (fe 15 5 U70 1) I0 (dA (lE (iv c.val) 86 U3) I0 (dM (mT 9 (.el (p.rules.flatMap cRu) (r*18))) (dA (Zm (off:=r*18) (.tmp 88) rfl) I0 (dA (fe (r*18+10) 89 U55 1) I0 (dA (lE (iv p.rules[r].rd) 90 U3 ((Zu lenRu p.rules r 10 (by omega) (by decide)).trans rfl)) I0 (dC (ZD rfl rfl) I0 I0 (dP (pk false bT (bv (decide (c.val=p.rules[r].rd))) rfl) (dM (aT 93 (bv (decide (c.val=p.rules[r].rd)))) (dE ?_)))))))))))))))) (by kernel_rfl)
 show ETri J w0 _ _ _
 refine Zd (Zn ?_)
 refine Zv Try.results36 (.tmp rfl) ?_
 exact congrArg (fun x:Bool=>AV.v (.bool x)) ((by unfold En.enR;rw [if_neg hs3,if_neg hs4,if_neg hs5];simp only [dT hs1,hs2,dF hs6,decide_true,decide_false,Bool.and_true,Bool.true_and,Bool.false_and,Bool.and_false,Bool.true_or,Bool.false_or,Bool.or_true,Bool.or_false,Bool.not_true,Bool.not_false]))
 have hs2f:(En.ptB c p.rules[r] i kp)=false:=by simpa using hs2
 refine Zr (dA (fe 1 6 U49 1) I0 (dA (lE (iv i) 39 U3) I0 (dA (fe 1 5 U70 8) I0 (dC (Z0 (off':=1+i*1) (.tmp 41) (.tmp 40) rfl U66 (by kernel_rfl) (by omega) (by omega) rfl) I0 I0 (dA (lE (iv (c.st.getD i 0)) 42 U3 (En.cfV_st (by omega))) I0 (dM (mT 9 (.el (p.rules.flatMap cRu) (r*18))) (dA (Zm (off:=r*18) (.tmp 44) rfl) I0 (dA (fe (r*18+2) 45 U55 1) I0 (dA (lE (iv p.rules[r].frm) 46 U3 ((Zu lenRu p.rules r 2 (by omega) (by decide)).trans rfl)) I0 (dC (ZX rfl (dT' hs1)) I0 I0 (dM (mT 48 bF) (dM (mT 0 (.el (En.sysP p n t f) 0)) (dA (Zl (z:=16) (.tmp 5) rfl U70 rfl (by kernel_rfl) rfl rfl) I0 (dM (mT 9 (.el (p.rules.flatMap cRu) (r*18))) (dA (Zl (z:=3) (.tmp 6) rfl U49 rfl (by kernel_rfl) rfl rfl) I0 (dR (sc #[.tmp 50,.tmp 51,.tmp 52,.tmp 53] [] (Yf (partFits_c hn l8 hr hi) hs2f) [.el (En.sysP p n t f) 0,.agg (En.cfV (Rd.shI p.top (Ns.shT p.top (Ns.cntE p n f)) c.sh) c),.el (p.rules.flatMap cRu) (r*18),.agg ([iv r,iv i,iv kp])] rfl rfl rfl) ⟨I0,I0,I0,I0,I0,T0⟩ T0 T0 (dA (Ya rfl rfl) I0 (dP (pk false bT bT rfl) (dE ?_))))))))))))))))))) (by kernel_rfl)
 show ETri J w0 _ _ _
 refine kW 94 [] [(0,.el (En.sysP p n t f) 0),(5,.el (En.cfV (Rd.shI p.top (Ns.shT p.top (Ns.cntE p n f)) c.sh) c) 0),(6,.el ([iv r,iv i,iv kp]) 0),(7,.el (En.msA g) 0),(8,bF),(9,.el (p.rules.flatMap cRu) (r*18)),(56,bT)] (Zd (Zq rfl (Zb (Za (pM (aC (.bool false)) (Ze (Zd (Zn (Zj ?_)))))))))
 refine Zv Try.results36 (.tmp rfl) ?_
 exact congrArg (fun x:Bool=>AV.v (.bool x)) ((by unfold En.enR;simp only [dT hs1,hs2f,decide_true,decide_false,Bool.and_true,Bool.true_and,Bool.false_and,Bool.and_false,Bool.true_or,Bool.false_or,Bool.or_true,Bool.or_false,Bool.not_true,Bool.not_false]))
 refine Zr (dA (fe 1 6 U49 1) I0 (dA (lE (iv i) 39 U3) I0 (dA (fe 1 5 U70 8) I0 (dC (Z0 (off':=1+i*1) (.tmp 41) (.tmp 40) rfl U66 (by kernel_rfl) (by omega) (by omega) rfl) I0 I0 (dA (lE (iv (c.st.getD i 0)) 42 U3 (En.cfV_st (by omega))) I0 (dM (mT 9 (.el (p.rules.flatMap cRu) (r*18))) (dA (Zm (off:=r*18) (.tmp 44) rfl) I0 (dA (fe (r*18+2) 45 U55 1) I0 (dA (lE (iv p.rules[r].frm) 46 U3 ((Zu lenRu p.rules r 2 (by omega) (by decide)).trans rfl)) I0 (dC (ZX rfl (dF' hs1)) I0 I0 (dM (mT 48 bT) (dK (dK (dK (dK (dK (dK (dP (pk true bT (.v (.tuple #[])) rfl) (dE ?_))))))))))))))))))) (by kernel_rfl)
 show ETri J w0 _ _ _
 refine kW 94 [] [(0,.el (En.sysP p n t f) 0),(5,.el (En.cfV (Rd.shI p.top (Ns.shT p.top (Ns.cntE p n f)) c.sh) c) 0),(6,.el ([iv r,iv i,iv kp]) 0),(7,.el (En.msA g) 0),(8,bF),(9,.el (p.rules.flatMap cRu) (r*18)),(56,bT)] (Zd (Zq rfl (Zb (Za (pM (aC (.bool false)) (Ze (Zd (Zn (Zj ?_)))))))))
 refine Zv Try.results36 (.tmp rfl) ?_
 exact congrArg (fun x:Bool=>AV.v (.bool x)) ((by unfold En.enR;simp only [dF hs1,decide_true,decide_false,Bool.and_true,Bool.true_and,Bool.false_and,Bool.and_false,Bool.true_or,Bool.false_or,Bool.or_true,Bool.or_false,Bool.not_true,Bool.not_false]))
theorem enabled_no {p:Fm} (HL:FamLen p) {n t f:Int} {c:Cf} (hc:En.CfV p n f c) (hv:valE p=0) (l8:c.st.length≤8) {x y kp:Int} (hno:(0≤x∧x<((p.rules.length:Nat):Int))→En.isP c.st.length y=false) {g:Nat→Int}:Ctr Try.prog J 36 [.el (En.sysP p n t f) 0,.agg (En.cfV (Rd.shI p.top (Ns.shT p.top (Ns.cntE p n f)) c.sh) c),.agg [iv x,iv y,iv kp],.agg (En.msA g)] bF:=by
 have hn:=hc.ln.symm
 have hz:=En.val_sizes hv
 refine Zx Try.func36 rfl (by intro X hX;simp only [List.mem_cons,List.not_mem_nil,or_false] at hX;rcases hX with rfl | rfl | rfl | rfl;exact (show Plain (.el (En.sysP p n t f) 0) from .el (ZQ (En.plain_sysP p n t f)));exact Zk (En.plain_cfV _ c);exact Zk (fun X hX=>by simp only [List.mem_cons,List.not_mem_nil,or_false] at hX;rcases hX with rfl | rfl | rfl<;>exact .v _);exact Zk (En.plain_msA _)) (n:=94) rfl (by simp) (fun w0 => ?_)
 refine kW 94 [] [(0,.el (En.sysP p n t f) 0),(1,.agg (En.cfV (Rd.shI p.top (Ns.shT p.top (Ns.cntE p n f)) c.sh) c)),(2,.agg [iv x,iv y,iv kp]),(3,.agg (En.msA g))] (Zb (Za (oA (ZK (X := .agg (En.cfV (Rd.shI p.top (Ns.shT p.top (Ns.cntE p n f)) c.sh) c)) (.tmp 1) rfl rfl rfl) I0 (oA (ZK (X := .agg [iv x,iv y,iv kp]) (.tmp 2) rfl rfl rfl) I0 (oA (ZK (X := .agg (En.msA g)) (.tmp 3) rfl rfl rfl) I0 (pM (aC (.bool false)) (Ze (Zd (Zb (Zb ?_))))))))))
 by_cases hs1:x<0
 refine Zr (dA (fe 0 6 U49 1) I0 (dA (lE (iv x) 10 U3) I0 (dC (ZZ rfl (dT hs1)) I0 I0 (dM (mT 12 bT) (dK (dK (dK (dK (dK (dK (dK (dK (dK (dP (pk true bT (.v (.tuple #[])) rfl) (dM (mT 23 bT) (dK (dK (dK (dK (dK (dP (pk true bT (.v (.tuple #[])) rfl) (dE ?_)))))))))))))))))))))) (by kernel_rfl)
 show ETri J w0 _ _ _
 refine kW 94 [] [(0,.el (En.sysP p n t f) 0),(5,.el (En.cfV (Rd.shI p.top (Ns.shT p.top (Ns.cntE p n f)) c.sh) c) 0),(6,.el ([iv x,iv y,iv kp]) 0),(7,.el (En.msA g) 0),(8,bF),(30,bT)] (Zd (Zq rfl (Zb (Za (pM (aC (.bool false)) (Ze (Zd (Zn (Zj ?_)))))))))
 refine Zv Try.results36 (.tmp rfl) ?_
 exact rfl
 by_cases hs2:((p.rules.length:Nat):Int)≤x
 refine Zr (dA (fe 0 6 U49 1) I0 (dA (lE (iv x) 10 U3) I0 (dC (ZZ rfl (dF hs1)) I0 I0 (dM (mT 12 bF) (dA (fe 0 6 U49 1) I0 (dA (lE (iv x) 14 U3) I0 (dM (mT 0 (.el (En.sysP p n t f) 0)) (dA (Zm (off:=0) (.tmp 16) rfl) I0 (dA (fe 0 17 U94 10) I0 (dA (fe 9 18 U27 1) I0 (dA (lE (slA 18 cRu p.rules) 19 U25) I0 (dA (nS 20 U25) I0 (dC (YZ rfl (dT hs2)) I0 I0 (dP (pk false bT bT rfl) (dM (mT 23 bT) (dK (dK (dK (dK (dK (dP (pk true bT (.v (.tuple #[])) rfl) (dE ?_)))))))))))))))))))))) (by kernel_rfl)
 show ETri J w0 _ _ _
 refine kW 94 [] [(0,.el (En.sysP p n t f) 0),(5,.el (En.cfV (Rd.shI p.top (Ns.shT p.top (Ns.cntE p n f)) c.sh) c) 0),(6,.el ([iv x,iv y,iv kp]) 0),(7,.el (En.msA g) 0),(8,bF),(30,bT)] (Zd (Zq rfl (Zb (Za (pM (aC (.bool false)) (Ze (Zd (Zn (Zj ?_)))))))))
 refine Zv Try.results36 (.tmp rfl) ?_
 exact rfl
 refine Zr (dA (fe 0 6 U49 1) I0 (dA (lE (iv x) 10 U3) I0 (dC (ZZ rfl (dF hs1)) I0 I0 (dM (mT 12 bF) (dA (fe 0 6 U49 1) I0 (dA (lE (iv x) 14 U3) I0 (dM (mT 0 (.el (En.sysP p n t f) 0)) (dA (Zm (off:=0) (.tmp 16) rfl) I0 (dA (fe 0 17 U94 10) I0 (dA (fe 9 18 U27 1) I0 (dA (lE (slA 18 cRu p.rules) 19 U25) I0 (dA (nS 20 U25) I0 (dC (YZ rfl (dF hs2)) I0 I0 (dP (pk false bT bF rfl) (dM (mT 23 bF) (dM (mT 0 (.el (En.sysP p n t f) 0)) (dA (fe 1 6 U49 1) I0 (dA (lE (iv y) 26 U3) I0 (dD (sc #[.tmp 25,.tmp 27] [] (Yf (isProc_c hn) (hno (by have:=hs1;have:=hs2;omega))) [.el (En.sysP p n t f) 0,iv y] rfl rfl rfl) I0 I0 I0 (dA (Ya rfl rfl) I0 (dP (pk false bT bT rfl) (dE ?_)))))))))))))))))))))) (by kernel_rfl)
 show ETri J w0 _ _ _
 refine kW 94 [] [(0,.el (En.sysP p n t f) 0),(5,.el (En.cfV (Rd.shI p.top (Ns.shT p.top (Ns.cntE p n f)) c.sh) c) 0),(6,.el ([iv x,iv y,iv kp]) 0),(7,.el (En.msA g) 0),(8,bF),(30,bT)] (Zd (Zq rfl (Zb (Za (pM (aC (.bool false)) (Ze (Zd (Zn (Zj ?_)))))))))
 refine Zv Try.results36 (.tmp rfl) ?_
 exact rfl
theorem En.isP_no {m:Nat} {x:Int} (h:¬ (0≤x∧x<((m:Nat):Int))):En.isP m x=false:=by
  unfold En.isP
  rw [Bool.and_eq_false_iff,decide_eq_false_iff_not,decide_eq_false_iff_not]
  omega
theorem enabled_c {p:Fm} (HL:FamLen p) {n t f:Int} {c:Cf} (hc:En.CfV p n f c) (hv:valE p=0) (l8:c.st.length≤8) {x y kp:Int} {g:Nat→Int} (hg:∀ m,0≤g m∧g m≤3000000):Ctr Try.prog J 36 [.el (En.sysP p n t f) 0,.agg (En.cfV (Rd.shI p.top (Ns.shT p.top (Ns.cntE p n f)) c.sh) c),.agg [iv x,iv y,iv kp],.agg (En.msA g)] (bv (En.enB p n t f c g x y kp)):=by
  by_cases h1:0≤x∧x<((p.rules.length:Nat):Int)
  · by_cases h2:0≤y∧y<((c.st.length:Nat):Int)
    · obtain ⟨r,rfl⟩:=Int.eq_ofNat_of_zero_le h1.1
      obtain ⟨i,rfl⟩:=Int.eq_ofNat_of_zero_le h2.1
      have hr:r<p.rules.length:=by omega
      have hi:i<c.st.length:=by omega
      have e:En.enB p n t f c g ((r:Nat):Int) ((i:Nat):Int) kp=En.enR p.top n t f c g p.rules[r] i kp:=by
        unfold En.enB
        rw [En.isP_nat hr,En.isP_nat hi,Int.toNat_natCast,Int.toNat_natCast,List.getD_eq_getElem?_getD,List.getElem?_eq_getElem hr]
        rfl
      rw [e]
      exact enabled_in HL hc hv l8 hr hi hg
    have e:En.enB p n t f c g x y kp=false:=by
      unfold En.enB
      rw [En.isP_no h2];simp
    rw [e]
    exact enabled_no HL hc hv l8 fun _=>En.isP_no h2
  have e:En.enB p n t f c g x y kp=false:=by
    unfold En.enB
    rw [En.isP_no h1];rfl
  rw [e]
  exact enabled_no HL hc hv l8 fun h=>absurd h h1
namespace En
theorem vc_ok {p:Fm} {n t f:Int} {c:Cf} (h:Rd.vcE p n t f c=0):Ns.sysE p n t f=0∧Rd.rdX p n f c=true:=by
  unfold Rd.vcE at h
  split at h
  · rename_i hs
    split at h
    · rename_i hx;exact ⟨hs,hx⟩
    cases h
  rename_i hs;exact absurd h hs
theorem cf_len {p:Fm} {n f:Int} {c:Cf} (h:CfV p n f c) (ha:1≤n∧n≤1048576∧0≤f∧f≤n) (h8:¬ 8<n):c.st.length≤8:=by
  have:=h.ln
  unfold Ns.cntE at this
  split at this<;>omega
end En
end Go.Proofs.Ytabgfofjgkibmaa
namespace Go.Proofs.Ytabgfofjgkibmaa
open Go.RowKit Go.Deep
section
variable {P:Program} {J:World→Prop} {o:Oper}
theorem sp_conv {src dst:TypeId} {x:Operand} {k k':IntKind} {n c:Int} {d:TypeDesc} (ho:o.op = .convert src dst x) (hs:P.underlying src=some d) (hd:P.underlying dst=some (.int k')) (hc:k'.wrap n=c):ASpec P J o [(x,.v (.int k n))] [] (.v (.int k' c)) .no :=
  ZI fun ρ B a w _ ha _=>by
    subst hc
    have h1:=(ha (x,.v (.int k n)) (by simp)).v_inv
    refine ⟨_,?_,.pu (.v _)⟩
    simp only [execOp,ho,h1]
    exact Yb (by simp [convert,run_underlying hs,run_underlying hd,Conv.intToInt])
end
def uN (n:Int):Int:=IntKind.u64.wrap n
theorem uN_nonneg (n:Int):0≤uN n:=Int.emod_nonneg _ (by decide)
def cutN (n:Int) (l:Nat):Nat:=(uN n).toNat % (l+1)
theorem cutN_le (n:Int) (l:Nat):cutN n l≤l:=by unfold cutN;have:=Nat.mod_lt (uN n).toNat (show 0<l+1 by omega);omega
theorem cutN_rem (n:Int) (l:Nat):(uN n).tmod ((l+1:Nat):Int)=(cutN n l:Nat):=by
  have h:=uN_nonneg n
  rw [Int.tmod_eq_emod_of_nonneg h]
  unfold cutN
  rw [Int.natCast_emod,Int.toNat_of_nonneg h]
theorem rulesE_all {q:Fm}:∀ (f i:Nat),rulesE q i f=0→∀ k,i≤k→k<i+f→ruleE q k (q.rules.getD k default)=0
  | 0,i,_,k,a,b=>absurd b (by omega)
  | f+1,i,e,k,a,b=>by
    unfold rulesE at e
    split at e
    · rename_i e1
      by_cases x:i=k
      · subst x;exact e1
      exact rulesE_all f (i+1) e k (by omega) (by omega)
    exact absurd e (by assumption)
variable {J:World→Prop}
end Go.Proofs.Ytabgfofjgkibmaa
namespace Go.Proofs.Ytabgfofjgkibmaa
open Go.RowKit Go.Deep Go.ChangeShapes Go.WideShapes Go.ChangeAt Go.Joins
theorem Km:Try.prog.cellsOf 3=1:=by kernel_rfl
theorem zcells_ints:Try.prog.cellsOf 24=1:=by kernel_rfl
set_option maxRecDepth 100000 in
theorem zint_of_trod {H:Type} {enc:TypeId × Value→H} {w:World} {base:Nat} {sp:Nat→Bool} {held:Bool} {n:Nat} {v:Value} {x:DataW H × List MemPlace} (h:DataW.trod enc Try.prog w base sp held n 3 [v]=some x):∃ c,v = .int .i64 c∧I64 c:=by
  obtain ⟨c,e1,_,e3⟩:=DataW.trod_int Try.underlying3 h
  simp at e1
  exact ⟨c,e1,I64.of_wf e3⟩
theorem cells_cfg:Try.prog.cellsOf 31=6:=by kernel_rfl
set_option maxRecDepth 100000 in
theorem cfg_of_trod {H:Type} {enc:TypeId × Value→H} {w:World} {base:Nat} {sp:Nat→Bool} {held:Bool} {n:Nat} {cs:List Value} {x:DataW H × List MemPlace} (h:DataW.trod enc Try.prog w base sp held n 31 cs=some x) :
    ∃ u0 xs0 u1 xs1 c2 u3 xs3 u4 xs4 c5,cs=[u0,u1,.int .i64 c2,u3,u4,.int .i64 c5]∧IsInts 0 w u0 xs0∧IsInts 0 w u1 xs1∧I64 c2∧IsInts 0 w u3 xs3∧IsInts 0 w u4 xs4∧I64 c5:=by
  obtain ⟨ys,m,_,_,hlen,_,hf⟩:=DataW.trod_struct Try.underlying31 h
  rw [cells_cfg] at hlen
  match cs,hlen with
  | [v0,v1,v2,v3,v4,v5],_ =>
    have h0:DataW.trod enc Try.prog w base sp held m 24 (([v0,v1,v2,v3,v4,v5].drop 0).take (Try.prog.cellsOf 24))=ys[0]? := hf 0 _ rfl
    rw [zcells_ints] at h0
    simp only [List.drop_zero,List.take_succ_cons,List.take_zero] at h0
    have h1:DataW.trod enc Try.prog w base sp held m 24 (([v0,v1,v2,v3,v4,v5].drop 1).take (Try.prog.cellsOf 24))=ys[1]? := hf 1 _ rfl
    rw [zcells_ints] at h1
    simp only [List.drop_succ_cons,List.drop_zero,List.take_succ_cons,List.take_zero] at h1
    have h2:DataW.trod enc Try.prog w base sp held m 3 (([v0,v1,v2,v3,v4,v5].drop 2).take (Try.prog.cellsOf 3))=ys[2]? := hf 2 _ rfl
    rw [Km] at h2
    simp only [List.drop_succ_cons,List.drop_zero,List.take_succ_cons,List.take_zero] at h2
    have h3:DataW.trod enc Try.prog w base sp held m 24 (([v0,v1,v2,v3,v4,v5].drop 3).take (Try.prog.cellsOf 24))=ys[3]? := hf 3 _ rfl
    rw [zcells_ints] at h3
    simp only [List.drop_succ_cons,List.drop_zero,List.take_succ_cons,List.take_zero] at h3
    have h4:DataW.trod enc Try.prog w base sp held m 24 (([v0,v1,v2,v3,v4,v5].drop 4).take (Try.prog.cellsOf 24))=ys[4]? := hf 4 _ rfl
    rw [zcells_ints] at h4
    simp only [List.drop_succ_cons,List.drop_zero,List.take_succ_cons,List.take_zero] at h4
    have h5:DataW.trod enc Try.prog w base sp held m 3 (([v0,v1,v2,v3,v4,v5].drop 5).take (Try.prog.cellsOf 3))=ys[5]? := hf 5 _ rfl
    rw [Km] at h5
    simp only [List.drop_succ_cons,List.drop_zero,List.take_succ_cons,List.take_zero] at h5
    have hx:∀ i,i<6→∃ y,ys[i]? = some y:=fun i hi=>⟨ys[i]'(by simp at *;omega),List.getElem?_eq_getElem _⟩
    obtain ⟨y0,e0⟩:=hx 0 (by omega)
    rw [e0] at h0
    obtain ⟨xs0,q0⟩:=Z9 Try.underlying24 Try.underlying3 Km h0
    obtain ⟨y1,e1⟩:=hx 1 (by omega)
    rw [e1] at h1
    obtain ⟨xs1,q1⟩:=Z9 Try.underlying24 Try.underlying3 Km h1
    obtain ⟨y2,e2⟩:=hx 2 (by omega)
    rw [e2] at h2
    obtain ⟨c2,rfl,q2⟩:=zint_of_trod h2
    obtain ⟨y3,e3⟩:=hx 3 (by omega)
    rw [e3] at h3
    obtain ⟨xs3,q3⟩:=Z9 Try.underlying24 Try.underlying3 Km h3
    obtain ⟨y4,e4⟩:=hx 4 (by omega)
    rw [e4] at h4
    obtain ⟨xs4,q4⟩:=Z9 Try.underlying24 Try.underlying3 Km h4
    obtain ⟨y5,e5⟩:=hx 5 (by omega)
    rw [e5] at h5
    obtain ⟨c5,rfl,q5⟩:=zint_of_trod h5
    exact ⟨v0,xs0,v1,xs1,c2,v3,xs3,v4,xs4,c5,rfl,q0,q1,q2,q3,q4,q5⟩
end Go.Proofs.Ytabgfofjgkibmaa
