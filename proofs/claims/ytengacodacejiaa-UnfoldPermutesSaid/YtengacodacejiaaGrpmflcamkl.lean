import Derived.Test.YtengacodacejiaaProg
import Derived.ChangeArms
import Derived.Test.YtengacodacejiaaGrpglamlhih
import Derived.Test.YtengacodacejiaaGrppafemefo
import Derived.Test.YtengacodacejiaaGrpheaimlea
import Derived.Test.YtengacodacejiaaGrphokogcoj
import Derived.Test.YtengacodacejiaaGrpegkifceh
import Derived.Test.YtengacodacejiaaGrpigjeemdo
import Derived.Test.YtengacodacejiaaGrpnpmimomk
import Derived.Test.YtengacodacejiaaGrpckdhecpf
import Derived.Test.YtengacodacejiaaGrpggejkcnp
import Derived.Test.YtengacodacejiaaGrpnnnjeeba
import Derived.Test.YtengacodacejiaaGrphnnnpkih
set_option linter.all false
namespace Go.Proofs.Ytengacodacejiaa
open Go.RowKit Go.Deep
variable {J:World→Prop}
set_option maxRecDepth 100000 in
set_option maxHeartbeats 6400000 in
theorem write_c {p:Fm} {n t f:Int} {c:Cf} {sx:Int} (ok:Rd.CgOk c) (hn:(Ns.cntE p n f)=((c.st.length:Nat):Int)) (l8:c.st.length≤8) (h3:p.msgs.length≤3) (hls:c.se.length=p.msgs.length) (hlf:c.fa.length=p.msgs.length) (hco:c.cor=(n-f)) (hsx:p.top=4→0≤sx∧sx<(((Ns.shT p.top (Ns.cntE p n f)).length:Nat):Int)∧(Ns.shT p.top (Ns.cntE p n f))[sx.toNat]? = some c.sh) (hs0:¬ p.top=4→c.sh=[]):Ctr Try.prog J 27 [.el (En.sysP p n t f) 0,.agg (En.cfV sx c)] (.agg (Rd.cCg c)):=by
 refine Zy Try.func27 rfl (by intro X hX;simp only [List.mem_cons,List.not_mem_nil,or_false] at hX;rcases hX with rfl | rfl;exact (show Plain (.el (En.sysP p n t f) 0) from .el (ZQ (En.plain_sysP p n t f)));exact Zi (En.plain_cfV _ c)) (n:=55) rfl (by simp) (fun w0 => ?_)
 refine kW 55 [] [(0,.el (En.sysP p n t f) 0),(1,.agg (En.cfV sx c))] (Zb (Za (oA (ZV (X := .agg (En.cfV sx c)) (.tmp 1) rfl rfl rfl) I0 (ZF rfl (ZJ (z := .agg #[.slice none 0 0,.slice none 0 0,.int .i64 0,.slice none 0 0,.slice none 0 0,.int .i64 0]) (k:=1) rfl (by kernel_rfl)) T0 T0 rfl (Ze (Zd (Zb ?_)))))))
 refine Zo (dA (fe 1 3 U78 8) I0 (dM (mT 0 (.el (En.sysP p n t f) 0)) (dA (Zl (off:=0) (.tmp 7) rfl) I0 (dA (fe 13 8 U111 1) I0 (dA (lE (iv (Ns.cntE p n f)) 9 U3) I0 (dC (Kf (n:=c.st.length) (off:=1) (ds:=(c.st.map iv)) (.tmp 6) (.tmp 10) rfl U74 (by kernel_rfl) (by omega) (by kernel_rfl) (by unfold maxLen;omega) (by show _≤16;omega) (En.cfV_row l8) hn) I0 I0 (dC (sc #[.tmp 11] [] (Clone_p ok.st (Nat.le_trans ok.lst (by decide))) [Zc c.st] rfl rfl rfl) I0 I0 (dM (mT 0 (.el (En.sysP p n t f) 0)) (dA (Zl (off:=0) (.tmp 13) rfl) I0 (dA (fe 14 14 U111 1) I0 (dA (lE (iv (n-f)) 15 U3) I0 (dA (fe 9 3 U78 3) I0 (dM (mT 0 (.el (En.sysP p n t f) 0)) (dA (Zl (off:=0) (.tmp 18) rfl) I0 (dA (fe 0 19 U111 10) I0 (dA (fe 3 20 U27 1) I0 (dA (lE (Zr p.msgs) 21 U22) I0 (dA (nS 22 U22) I0 (dC (Kf (n:=c.se.length) (off:=9) (ds:=(c.se.map iv)) (.tmp 17) (.tmp 23) rfl U76 (by kernel_rfl) (by omega) (by kernel_rfl) (by unfold maxLen;omega) (by show _≤16;omega) (Ap.cfV_rowSe (by omega)) (by omega)) I0 I0 (dC (sc #[.tmp 24] [] (Clone_p ok.se (Nat.le_trans ok.lse (by decide))) [Zc c.se] rfl rfl rfl) I0 I0 (dA (fe 12 3 U78 3) I0 (dM (mT 0 (.el (En.sysP p n t f) 0)) (dA (Zl (off:=0) (.tmp 27) rfl) I0 (dA (fe 0 28 U111 10) I0 (dA (fe 3 29 U27 1) I0 (dA (lE (Zr p.msgs) 30 U22) I0 (dA (nS 31 U22) I0 (dC (Kf (n:=c.fa.length) (off:=12) (ds:=(c.fa.map iv)) (.tmp 26) (.tmp 32) rfl U76 (by kernel_rfl) (by omega) (by kernel_rfl) (by unfold maxLen;omega) (by show _≤16;omega) (Ap.cfV_rowFa (by omega)) (by omega)) I0 I0 (dC (sc #[.tmp 33] [] (Clone_p ok.fa (Nat.le_trans ok.lfa (by decide))) [Zc c.fa] rfl rfl rfl) I0 I0 (dA (fe 15 3 U78 1) I0 (dA (lE (iv c.val) 35 U3) I0 (dR (sp_bldN [1,2,3,4,5] [.tmp 12,.tmp 16,.tmp 25,.tmp 34,.tmp 36] [.fr (Zc c.st),iv (n-f),.fr (Zc c.se),.fr (Zc c.fa),iv c.val] [.inl (.slice none 0 0),.inr 0,.inr 1,.inr 2,.inr 3,.inr 4] rfl rfl rfl rfl rfl (fun _=>by kernel_rfl) rfl (ds:=[.v (.slice none 0 0),.fr (Zc c.st),iv (n-f),.fr (Zc c.se),.fr (Zc c.fa),iv c.val]) rfl) ⟨I0,I0,I0,I0,I0,T0⟩ T0 T0 (dR (ZJ (z := .agg #[.slice none 0 0,.slice none 0 0,.int .i64 0,.slice none 0 0,.slice none 0 0,.int .i64 0]) (k:=2) rfl (by kernel_rfl)) T0 T0 rfl (dR (sB 6 5 (.tmp 37) (.agg [.v (.slice none 0 0),.fr (Zc c.st),iv (n-f),.fr (Zc c.se),.fr (Zc c.fa),iv c.val])) ⟨I0,I0,T0⟩ ⟨rfl,T0⟩ rfl (dE ?_))))))))))))))))))))))))))))))))))) (by kernel_rfl)
 show ETri J w0 _ _ _
 refine kW 55 [(1,.box 31 [.v (.slice none 0 0),.v (.slice none 0 0),iv 0,.v (.slice none 0 0),.v (.slice none 0 0),iv 0]),(2,.box 31 [.v (.slice none 0 0),.fr (Zc c.st),iv (n-f),.fr (Zc c.se),.fr (Zc c.fa),iv c.val])] [(0,.el (En.sysP p n t f) 0),(3,.el (En.cfV sx c) 0),(4,.box 1 0),(5,.box 2 0)] (Zd (Zb (Zb ?_)))
 by_cases hs1:0<(((Ns.shT p.top (Ns.cntE p n f)).length:Nat):Int)
 obtain ⟨hx0,hx1,hx2⟩:=hsx (Ap.shT_top hs1)
 refine Za (pM (mT 0 (.el (En.sysP p n t f) 0)) (oA (Zl (off:=0) (.tmp 38) rfl) I0 (oA (fe 31 39 U111 1) I0 (oA (lE (slA 1 cLi (Ns.shT p.top (Ns.cntE p n f))) 40 U69) I0 (oA (nS 41 U69) I0 (oC (sp_gtr rfl (dT hs1)) I0 I0 (Ze (Zd (Zm rfl ?_)))))))))
 refine Zo (dM (mT 0 (.el (En.sysP p n t f) 0)) (dA (Zl (off:=0) (.tmp 44) rfl) I0 (dA (fe 31 45 U111 1) I0 (dA (lE (slA 1 cLi (Ns.shT p.top (Ns.cntE p n f))) 46 U69) I0 (dA (fe 0 3 U78 1) I0 (dA (lE (iv sx) 48 U3) I0 (dC (xS (sx.toNat*1) 47 49 U69) I0 I0 (dA (lE (Zc c.sh) 50 U24 (Ap.sh_at hx2)) I0 (dC (sc #[.tmp 51] [] (Clone_p ok.sh (Nat.le_trans ok.lsh (by decide))) [Zc c.sh] rfl rfl rfl) I0 I0 (dA (fb 0 5 U31 1) I0 (dR (sB 1 53 (.tmp 52) (.fr (Zc c.sh))) ⟨I0,I0,T0⟩ ⟨rfl,T0⟩ rfl (dE ?_)))))))))))) (by kernel_rfl)
 show ETri J w0 _ _ _
 refine kW 55 [(1,.box 31 [.v (.slice none 0 0),.v (.slice none 0 0),iv 0,.v (.slice none 0 0),.v (.slice none 0 0),iv 0]),(2,.box 31 [.fr (Zc c.sh),.fr (Zc c.st),iv (n-f),.fr (Zc c.se),.fr (Zc c.fa),iv c.val])] [(4,.box 1 0),(5,.box 2 0)] (Zd (Zb (Za (oB (lS ([.fr (Zc c.sh),.fr (Zc c.st),iv (n-f),.fr (Zc c.se),.fr (Zc c.fa),iv c.val]) 6 5 U31) I0 rfl (ZF rfl (sB 6 4 (.tmp 54) (.agg [.fr (Zc c.sh),.fr (Zc c.st),iv (n-f),.fr (Zc c.se),.fr (Zc c.fa),iv c.val])) ⟨I0,I0,T0⟩ ⟨rfl,T0⟩ rfl (Ze (Zd (Zk ?_))))))))
 refine Zs Try.results27 (.cellS rfl rfl U31 rfl (z:=6) (by kernel_rfl) rfl (by decide)) ?_
 rw [← hco]
 exact rfl
 refine Za (pM (mT 0 (.el (En.sysP p n t f) 0)) (oA (Zl (off:=0) (.tmp 38) rfl) I0 (oA (fe 31 39 U111 1) I0 (oA (lE (slA 1 cLi (Ns.shT p.top (Ns.cntE p n f))) 40 U69) I0 (oA (nS 41 U69) I0 (oC (sp_gtr rfl (dF hs1)) I0 I0 (Ze (Zd (Zp rfl (Zn (Zd (Zb (Za (oB (lS ([.v (.slice none 0 0),.fr (Zc c.st),iv (n-f),.fr (Zc c.se),.fr (Zc c.fa),iv c.val]) 6 5 U31) I0 rfl (ZF rfl (sB 6 4 (.tmp 54) (.agg [.v (.slice none 0 0),.fr (Zc c.st),iv (n-f),.fr (Zc c.se),.fr (Zc c.fa),iv c.val])) ⟨I0,I0,T0⟩ ⟨rfl,T0⟩ rfl (Ze (Zd (Zk ?_))))))))))))))))))
 refine Yn (Ym 1 0 3 true 3 1 rfl rfl rfl rfl) ?_
 refine Zs Try.results27 (.cellS rfl rfl U31 rfl (z:=6) (by kernel_rfl) rfl (by decide)) ?_
 have e0:c.sh=[]:=(Decidable.em (p.top=4)).elim (fun e4=>by have h1:=hsx e4;have h2:=hs1;omega) hs0
 unfold Rd.cCg;rw [← hco,e0]
 exact rfl
set_option maxRecDepth 100000
set_option maxHeartbeats 6400000
theorem apply_ok {p:Fm} (HL:FamLen p) {n t f:Int} {c:Cf} (hc:En.CfV p n f c) (hv:valE p=0) (l8:c.st.length≤8) (hf:0≤f∧f≤1048576) {r:Nat} (hr:r<p.rules.length) {i:Nat} (hi:i<c.st.length) {kp:Int} (he:En.enB p n t f c (En.hdJ p f c p.msgs.length) ((r:Nat):Int) ((i:Nat):Int) kp=true) (hl:Rd.belB (Ap.af (n-f) c p.rules[r] i kp).se 1048577=true∧Rd.belB (Ap.af (n-f) c p.rules[r] i kp).fa 1048577=true):Ctr Try.prog J 26 [.el (En.sysP p n t f) 0,.agg (En.cfV (Rd.shI p.top (Ns.shT p.top (Ns.cntE p n f)) c.sh) c),.agg [iv r,iv i,iv kp]] (.tup [.agg (En.cfV (Rd.shI p.top (Ns.shT p.top (Ns.cntE p n f)) c.sh) (Ap.af (n-f) c p.rules[r] i kp)),iv 0]):=by
 have hz:=En.val_sizes hv
 have hls:=hc.ls
 have hlf:=hc.lf
 refine Zy Try.func26 rfl (by intro X hX;simp only [List.mem_cons,List.not_mem_nil,or_false] at hX;rcases hX with rfl | rfl | rfl;exact (show Plain (.el (En.sysP p n t f) 0) from .el (ZQ (En.plain_sysP p n t f)));exact Zi (En.plain_cfV _ c);exact Zi (fun X hX=>by simp only [List.mem_cons,List.not_mem_nil,or_false] at hX;rcases hX with rfl | rfl | rfl<;>exact .v _)) (n:=33) rfl (by simp) (fun w0 => ?_)
 refine kW 33 [] [(0,.el (En.sysP p n t f) 0),(1,.agg (En.cfV (Rd.shI p.top (Ns.shT p.top (Ns.cntE p n f)) c.sh) c)),(2,.agg [iv r,iv i,iv kp])] (Zb (Za (ZF rfl (Yi (X := .agg (En.cfV (Rd.shI p.top (Ns.shT p.top (Ns.cntE p n f)) c.sh) c)) (k:=1) (.tmp 1) rfl rfl) ⟨I0,T0⟩ T0 rfl (oA (ZV (X := .agg [iv r,iv i,iv kp]) (.tmp 2) rfl rfl rfl) I0 (ZF rfl (ZJ (z := .agg #[.int .i64 0,.int .i64 0,.int .i64 0,.int .i64 0,.int .i64 0,.int .i64 0,.int .i64 0,.int .i64 0,.int .i64 0,.int .i64 0,.int .i64 0,.int .i64 0,.int .i64 0,.int .i64 0,.int .i64 0,.int .i64 0]) (k:=2) rfl (by kernel_rfl)) T0 T0 rfl (pM (aC (.int .i64 0)) (Ze (Zd (Zb (Zb ?_))))))))))
 refine Zo (dM (mT 0 (.el (En.sysP p n t f) 0)) (dB (lS (En.cfV (Rd.shI p.top (Ns.shT p.top (Ns.cntE p n f)) c.sh) c) 16 4 U78) I0 rfl (dA (Zq (z:=3) (.tmp 5) rfl U35 rfl (by kernel_rfl) rfl rfl) I0 (dM (mT 0 (.el (En.sysP p n t f) 0)) (dB (lS (En.cfV (Rd.shI p.top (Ns.shT p.top (Ns.cntE p n f)) c.sh) c) 16 4 U78) I0 rfl (dD (sc #[.tmp 11,.tmp 12] [] (heard_c hc hf hz.2.2.1) [.el (En.sysP p n t f) 0,.agg (En.cfV (Rd.shI p.top (Ns.shT p.top (Ns.cntE p n f)) c.sh) c)] rfl rfl rfl) I0 I0 I0 (dR (sc #[.tmp 8,.tmp 9,.tmp 10,.tmp 13] [] (Yd (enabled_c HL hc hv l8 (fun m=>En.hdJ_in hc hf _ m)) he) [.el (En.sysP p n t f) 0,.agg (En.cfV (Rd.shI p.top (Ns.shT p.top (Ns.cntE p n f)) c.sh) c),.agg ([iv r,iv i,iv kp]),.agg (En.msA (En.hdJ p f c p.msgs.length))] rfl rfl rfl) ⟨I0,I0,I0,I0,.inr (.inl rfl),T0⟩ T0 T0 (dA (Ya rfl rfl) I0 (dE ?_))))))))) (by kernel_rfl)
 show ETri J w0 _ _ _
 refine kW 33 [(1,.box 78 (En.cfV (Rd.shI p.top (Ns.shT p.top (Ns.cntE p n f)) c.sh) c)),(2,.box 78 [iv 0,iv 0,iv 0,iv 0,iv 0,iv 0,iv 0,iv 0,iv 0,iv 0,iv 0,iv 0,iv 0,iv 0,iv 0,iv 0])] [(0,.el (En.sysP p n t f) 0),(4,.box 1 0),(5,.el ([iv r,iv i,iv kp]) 0),(6,.box 2 0),(7,iv 0),(15,bF)] (Zd (Zp rfl (Zn (Zd (Zb (Za (pM (mT 0 (.el (En.sysP p n t f) 0)) (oB (lS (En.cfV (Rd.shI p.top (Ns.shT p.top (Ns.cntE p n f)) c.sh) c) 16 4 U78) I0 rfl (oA (Zq (z:=3) (.tmp 5) rfl U35 rfl (by kernel_rfl) rfl rfl) I0 (ZF rfl (sc #[.tmp 17,.tmp 18,.tmp 19] [] (after_c HL hc hv l8 hr hi (kp:=kp) (Ap.hpt_of he)) [.el (En.sysP p n t f) 0,.agg (En.cfV (Rd.shI p.top (Ns.shT p.top (Ns.cntE p n f)) c.sh) c),.agg ([iv r,iv i,iv kp])] rfl rfl rfl) ⟨I0,I0,I0,I0,T0⟩ T0 T0 (ZF rfl (sB 16 4 (.tmp 20) (.agg [iv (Rd.shI p.top (Ns.shT p.top (Ns.cntE p n f)) c.sh),iv ((Ap.af (n-f) c p.rules[r] i kp).st.getD 0 0),iv ((Ap.af (n-f) c p.rules[r] i kp).st.getD 1 0),iv ((Ap.af (n-f) c p.rules[r] i kp).st.getD 2 0),iv ((Ap.af (n-f) c p.rules[r] i kp).st.getD 3 0),iv ((Ap.af (n-f) c p.rules[r] i kp).st.getD 4 0),iv ((Ap.af (n-f) c p.rules[r] i kp).st.getD 5 0),iv ((Ap.af (n-f) c p.rules[r] i kp).st.getD 6 0),iv ((Ap.af (n-f) c p.rules[r] i kp).st.getD 7 0),iv ((Ap.af (n-f) c p.rules[r] i kp).se.getD 0 0),iv ((Ap.af (n-f) c p.rules[r] i kp).se.getD 1 0),iv ((Ap.af (n-f) c p.rules[r] i kp).se.getD 2 0),iv ((Ap.af (n-f) c p.rules[r] i kp).fa.getD 0 0),iv ((Ap.af (n-f) c p.rules[r] i kp).fa.getD 1 0),iv ((Ap.af (n-f) c p.rules[r] i kp).fa.getD 2 0),iv ((Ap.af (n-f) c p.rules[r] i kp).val)])) ⟨I0,.inr (.inr (.inl ⟨_,rfl,rfl⟩)),T0⟩ ⟨rfl,T0⟩ rfl (kN 33 [(1,.box 78 [iv (Rd.shI p.top (Ns.shT p.top (Ns.cntE p n f)) c.sh),iv ((Ap.af (n-f) c p.rules[r] i kp).st.getD 0 0),iv ((Ap.af (n-f) c p.rules[r] i kp).st.getD 1 0),iv ((Ap.af (n-f) c p.rules[r] i kp).st.getD 2 0),iv ((Ap.af (n-f) c p.rules[r] i kp).st.getD 3 0),iv ((Ap.af (n-f) c p.rules[r] i kp).st.getD 4 0),iv ((Ap.af (n-f) c p.rules[r] i kp).st.getD 5 0),iv ((Ap.af (n-f) c p.rules[r] i kp).st.getD 6 0),iv ((Ap.af (n-f) c p.rules[r] i kp).st.getD 7 0),iv ((Ap.af (n-f) c p.rules[r] i kp).se.getD 0 0),iv ((Ap.af (n-f) c p.rules[r] i kp).se.getD 1 0),iv ((Ap.af (n-f) c p.rules[r] i kp).se.getD 2 0),iv ((Ap.af (n-f) c p.rules[r] i kp).fa.getD 0 0),iv ((Ap.af (n-f) c p.rules[r] i kp).fa.getD 1 0),iv ((Ap.af (n-f) c p.rules[r] i kp).fa.getD 2 0),iv ((Ap.af (n-f) c p.rules[r] i kp).val)]),(2,.box 78 [iv 0,iv 0,iv 0,iv 0,iv 0,iv 0,iv 0,iv 0,iv 0,iv 0,iv 0,iv 0,iv 0,iv 0,iv 0,iv 0])] [(4,.box 1 0),(6,.box 2 0),(7,iv 0)] (Zd (Zb (Zb (kW 33 [(1,.box 78 [iv (Rd.shI p.top (Ns.shT p.top (Ns.cntE p n f)) c.sh),iv ((Ap.af (n-f) c p.rules[r] i kp).st.getD 0 0),iv ((Ap.af (n-f) c p.rules[r] i kp).st.getD 1 0),iv ((Ap.af (n-f) c p.rules[r] i kp).st.getD 2 0),iv ((Ap.af (n-f) c p.rules[r] i kp).st.getD 3 0),iv ((Ap.af (n-f) c p.rules[r] i kp).st.getD 4 0),iv ((Ap.af (n-f) c p.rules[r] i kp).st.getD 5 0),iv ((Ap.af (n-f) c p.rules[r] i kp).st.getD 6 0),iv ((Ap.af (n-f) c p.rules[r] i kp).st.getD 7 0),iv ((Ap.af (n-f) c p.rules[r] i kp).se.getD 0 0),iv ((Ap.af (n-f) c p.rules[r] i kp).se.getD 1 0),iv ((Ap.af (n-f) c p.rules[r] i kp).se.getD 2 0),iv ((Ap.af (n-f) c p.rules[r] i kp).fa.getD 0 0),iv ((Ap.af (n-f) c p.rules[r] i kp).fa.getD 1 0),iv ((Ap.af (n-f) c p.rules[r] i kp).fa.getD 2 0),iv ((Ap.af (n-f) c p.rules[r] i kp).val)]),(2,.box 78 [iv 0,iv 0,iv 0,iv 0,iv 0,iv 0,iv 0,iv 0,iv 0,iv 0,iv 0,iv 0,iv 0,iv 0,iv 0,iv 0])] [(4,.box 1 0),(6,.box 2 0),(7,iv 0)] ?_))))))))))))))))
 refine Yn (wk_freeze 4 1 0 rfl rfl rfl rfl) ?_
 refine kW 33 [(2,.box 78 [iv 0,iv 0,iv 0,iv 0,iv 0,iv 0,iv 0,iv 0,iv 0,iv 0,iv 0,iv 0,iv 0,iv 0,iv 0,iv 0])] [(4,.el ([iv (Rd.shI p.top (Ns.shT p.top (Ns.cntE p n f)) c.sh),iv ((Ap.af (n-f) c p.rules[r] i kp).st.getD 0 0),iv ((Ap.af (n-f) c p.rules[r] i kp).st.getD 1 0),iv ((Ap.af (n-f) c p.rules[r] i kp).st.getD 2 0),iv ((Ap.af (n-f) c p.rules[r] i kp).st.getD 3 0),iv ((Ap.af (n-f) c p.rules[r] i kp).st.getD 4 0),iv ((Ap.af (n-f) c p.rules[r] i kp).st.getD 5 0),iv ((Ap.af (n-f) c p.rules[r] i kp).st.getD 6 0),iv ((Ap.af (n-f) c p.rules[r] i kp).st.getD 7 0),iv ((Ap.af (n-f) c p.rules[r] i kp).se.getD 0 0),iv ((Ap.af (n-f) c p.rules[r] i kp).se.getD 1 0),iv ((Ap.af (n-f) c p.rules[r] i kp).se.getD 2 0),iv ((Ap.af (n-f) c p.rules[r] i kp).fa.getD 0 0),iv ((Ap.af (n-f) c p.rules[r] i kp).fa.getD 1 0),iv ((Ap.af (n-f) c p.rules[r] i kp).fa.getD 2 0),iv ((Ap.af (n-f) c p.rules[r] i kp).val)]) 0),(6,.box 2 0),(7,iv 0)] (Za (oA (fe 9 4 U78 3) I0 (oA (Yx (len:=3) (off:=9) (ds:=(([(Ap.af (n-f) c p.rules[r] i kp).se.getD 0 0,(Ap.af (n-f) c p.rules[r] i kp).se.getD 1 0,(Ap.af (n-f) c p.rules[r] i kp).se.getD 2 0]).map iv)) (.tmp 21) rfl U76 (by kernel_rfl) rfl rfl (by kernel_rfl) rfl) I0 (oD (sc #[.tmp 22,.const (.int .i64 1048577)] [] (Yd (Yd (Yk ([(Ap.af (n-f) c p.rules[r] i kp).se.getD 0 0,(Ap.af (n-f) c p.rules[r] i kp).se.getD 1 0,(Ap.af (n-f) c p.rules[r] i kp).se.getD 2 0]) (by simp)) (Ap.bel3 (l:=(Ap.af (n-f) c p.rules[r] i kp).se) (by show (Ap.seA _ _ _ _ _).length≤3;rw [Ap.seA_len];omega) (by decide))) hl.1) [Zc ([(Ap.af (n-f) c p.rules[r] i kp).se.getD 0 0,(Ap.af (n-f) c p.rules[r] i kp).se.getD 1 0,(Ap.af (n-f) c p.rules[r] i kp).se.getD 2 0]),iv 1048577] rfl rfl rfl) I0 I0 I0 (oA (Ya rfl rfl) I0 (pM (mT 24 bF) (gA (fe 12 4 U78 3) I0 (gA (Yx (len:=3) (off:=12) (ds:=(([(Ap.af (n-f) c p.rules[r] i kp).fa.getD 0 0,(Ap.af (n-f) c p.rules[r] i kp).fa.getD 1 0,(Ap.af (n-f) c p.rules[r] i kp).fa.getD 2 0]).map iv)) (.tmp 26) rfl U76 (by kernel_rfl) rfl rfl (by kernel_rfl) rfl) I0 (gD (sc #[.tmp 27,.const (.int .i64 1048577)] [] (Yd (Yd (Yk ([(Ap.af (n-f) c p.rules[r] i kp).fa.getD 0 0,(Ap.af (n-f) c p.rules[r] i kp).fa.getD 1 0,(Ap.af (n-f) c p.rules[r] i kp).fa.getD 2 0]) (by simp)) (Ap.bel3 (l:=(Ap.af (n-f) c p.rules[r] i kp).fa) (by show (Ap.faA _ _ _ _ _).length≤3;rw [Ap.faA_len];omega) (by decide))) hl.2) [Zc ([(Ap.af (n-f) c p.rules[r] i kp).fa.getD 0 0,(Ap.af (n-f) c p.rules[r] i kp).fa.getD 1 0,(Ap.af (n-f) c p.rules[r] i kp).fa.getD 2 0]),iv 1048577] rfl rfl rfl) I0 I0 I0 (gA (Ya rfl rfl) I0 (pP (pk false bT bF rfl) (Ze (Zd (Zp rfl (Zn (Zd (Zb (Za (oA (Zq (z:=16) (.tmp 4) rfl U78 rfl (by kernel_rfl) rfl rfl) I0 (ZF rfl (sB 16 6 (.tmp 32) (.agg ([iv (Rd.shI p.top (Ns.shT p.top (Ns.cntE p n f)) c.sh),iv ((Ap.af (n-f) c p.rules[r] i kp).st.getD 0 0),iv ((Ap.af (n-f) c p.rules[r] i kp).st.getD 1 0),iv ((Ap.af (n-f) c p.rules[r] i kp).st.getD 2 0),iv ((Ap.af (n-f) c p.rules[r] i kp).st.getD 3 0),iv ((Ap.af (n-f) c p.rules[r] i kp).st.getD 4 0),iv ((Ap.af (n-f) c p.rules[r] i kp).st.getD 5 0),iv ((Ap.af (n-f) c p.rules[r] i kp).st.getD 6 0),iv ((Ap.af (n-f) c p.rules[r] i kp).st.getD 7 0),iv ((Ap.af (n-f) c p.rules[r] i kp).se.getD 0 0),iv ((Ap.af (n-f) c p.rules[r] i kp).se.getD 1 0),iv ((Ap.af (n-f) c p.rules[r] i kp).se.getD 2 0),iv ((Ap.af (n-f) c p.rules[r] i kp).fa.getD 0 0),iv ((Ap.af (n-f) c p.rules[r] i kp).fa.getD 1 0),iv ((Ap.af (n-f) c p.rules[r] i kp).fa.getD 2 0),iv ((Ap.af (n-f) c p.rules[r] i kp).val)]))) ⟨I0,I0,T0⟩ ⟨rfl,T0⟩ rfl (pM (aC (.int .i64 0)) (Ze (Zd ?_)))))))))))))))))))))))
 refine Zk ?_
 refine Ye Try.results26 (.cellS rfl rfl U78 rfl (z:=16) (by kernel_rfl) rfl (by decide)) (.tmp rfl) ?_
 exact rfl
theorem apply_lg {p:Fm} (HL:FamLen p) {n t f:Int} {c:Cf} (hc:En.CfV p n f c) (hv:valE p=0) (l8:c.st.length≤8) (hf:0≤f∧f≤1048576) {r:Nat} (hr:r<p.rules.length) {i:Nat} (hi:i<c.st.length) {kp:Int} (he:En.enB p n t f c (En.hdJ p f c p.msgs.length) ((r:Nat):Int) ((i:Nat):Int) kp=true) (hl:¬ (Rd.belB (Ap.af (n-f) c p.rules[r] i kp).se 1048577=true∧Rd.belB (Ap.af (n-f) c p.rules[r] i kp).fa 1048577=true)):Ctr Try.prog J 26 [.el (En.sysP p n t f) 0,.agg (En.cfV (Rd.shI p.top (Ns.shT p.top (Ns.cntE p n f)) c.sh) c),.agg [iv r,iv i,iv kp]] (.tup [.agg Ap.z16,iv 4]):=by
 have hz:=En.val_sizes hv
 have hls:=hc.ls
 have hlf:=hc.lf
 refine Zy Try.func26 rfl (by intro X hX;simp only [List.mem_cons,List.not_mem_nil,or_false] at hX;rcases hX with rfl | rfl | rfl;exact (show Plain (.el (En.sysP p n t f) 0) from .el (ZQ (En.plain_sysP p n t f)));exact Zi (En.plain_cfV _ c);exact Zi (fun X hX=>by simp only [List.mem_cons,List.not_mem_nil,or_false] at hX;rcases hX with rfl | rfl | rfl<;>exact .v _)) (n:=33) rfl (by simp) (fun w0 => ?_)
 refine kW 33 [] [(0,.el (En.sysP p n t f) 0),(1,.agg (En.cfV (Rd.shI p.top (Ns.shT p.top (Ns.cntE p n f)) c.sh) c)),(2,.agg [iv r,iv i,iv kp])] (Zb (Za (ZF rfl (Yi (X := .agg (En.cfV (Rd.shI p.top (Ns.shT p.top (Ns.cntE p n f)) c.sh) c)) (k:=1) (.tmp 1) rfl rfl) ⟨I0,T0⟩ T0 rfl (oA (ZV (X := .agg [iv r,iv i,iv kp]) (.tmp 2) rfl rfl rfl) I0 (ZF rfl (ZJ (z := .agg #[.int .i64 0,.int .i64 0,.int .i64 0,.int .i64 0,.int .i64 0,.int .i64 0,.int .i64 0,.int .i64 0,.int .i64 0,.int .i64 0,.int .i64 0,.int .i64 0,.int .i64 0,.int .i64 0,.int .i64 0,.int .i64 0]) (k:=2) rfl (by kernel_rfl)) T0 T0 rfl (pM (aC (.int .i64 0)) (Ze (Zd (Zb (Zb ?_))))))))))
 refine Zo (dM (mT 0 (.el (En.sysP p n t f) 0)) (dB (lS (En.cfV (Rd.shI p.top (Ns.shT p.top (Ns.cntE p n f)) c.sh) c) 16 4 U78) I0 rfl (dA (Zq (z:=3) (.tmp 5) rfl U35 rfl (by kernel_rfl) rfl rfl) I0 (dM (mT 0 (.el (En.sysP p n t f) 0)) (dB (lS (En.cfV (Rd.shI p.top (Ns.shT p.top (Ns.cntE p n f)) c.sh) c) 16 4 U78) I0 rfl (dD (sc #[.tmp 11,.tmp 12] [] (heard_c hc hf hz.2.2.1) [.el (En.sysP p n t f) 0,.agg (En.cfV (Rd.shI p.top (Ns.shT p.top (Ns.cntE p n f)) c.sh) c)] rfl rfl rfl) I0 I0 I0 (dR (sc #[.tmp 8,.tmp 9,.tmp 10,.tmp 13] [] (Yd (enabled_c HL hc hv l8 (fun m=>En.hdJ_in hc hf _ m)) he) [.el (En.sysP p n t f) 0,.agg (En.cfV (Rd.shI p.top (Ns.shT p.top (Ns.cntE p n f)) c.sh) c),.agg ([iv r,iv i,iv kp]),.agg (En.msA (En.hdJ p f c p.msgs.length))] rfl rfl rfl) ⟨I0,I0,I0,I0,.inr (.inl rfl),T0⟩ T0 T0 (dA (Ya rfl rfl) I0 (dE ?_))))))))) (by kernel_rfl)
 show ETri J w0 _ _ _
 refine kW 33 [(1,.box 78 (En.cfV (Rd.shI p.top (Ns.shT p.top (Ns.cntE p n f)) c.sh) c)),(2,.box 78 [iv 0,iv 0,iv 0,iv 0,iv 0,iv 0,iv 0,iv 0,iv 0,iv 0,iv 0,iv 0,iv 0,iv 0,iv 0,iv 0])] [(0,.el (En.sysP p n t f) 0),(4,.box 1 0),(5,.el ([iv r,iv i,iv kp]) 0),(6,.box 2 0),(7,iv 0),(15,bF)] (Zd (Zp rfl (Zn (Zd (Zb (Za (pM (mT 0 (.el (En.sysP p n t f) 0)) (oB (lS (En.cfV (Rd.shI p.top (Ns.shT p.top (Ns.cntE p n f)) c.sh) c) 16 4 U78) I0 rfl (oA (Zq (z:=3) (.tmp 5) rfl U35 rfl (by kernel_rfl) rfl rfl) I0 (ZF rfl (sc #[.tmp 17,.tmp 18,.tmp 19] [] (after_c HL hc hv l8 hr hi (kp:=kp) (Ap.hpt_of he)) [.el (En.sysP p n t f) 0,.agg (En.cfV (Rd.shI p.top (Ns.shT p.top (Ns.cntE p n f)) c.sh) c),.agg ([iv r,iv i,iv kp])] rfl rfl rfl) ⟨I0,I0,I0,I0,T0⟩ T0 T0 (ZF rfl (sB 16 4 (.tmp 20) (.agg [iv (Rd.shI p.top (Ns.shT p.top (Ns.cntE p n f)) c.sh),iv ((Ap.af (n-f) c p.rules[r] i kp).st.getD 0 0),iv ((Ap.af (n-f) c p.rules[r] i kp).st.getD 1 0),iv ((Ap.af (n-f) c p.rules[r] i kp).st.getD 2 0),iv ((Ap.af (n-f) c p.rules[r] i kp).st.getD 3 0),iv ((Ap.af (n-f) c p.rules[r] i kp).st.getD 4 0),iv ((Ap.af (n-f) c p.rules[r] i kp).st.getD 5 0),iv ((Ap.af (n-f) c p.rules[r] i kp).st.getD 6 0),iv ((Ap.af (n-f) c p.rules[r] i kp).st.getD 7 0),iv ((Ap.af (n-f) c p.rules[r] i kp).se.getD 0 0),iv ((Ap.af (n-f) c p.rules[r] i kp).se.getD 1 0),iv ((Ap.af (n-f) c p.rules[r] i kp).se.getD 2 0),iv ((Ap.af (n-f) c p.rules[r] i kp).fa.getD 0 0),iv ((Ap.af (n-f) c p.rules[r] i kp).fa.getD 1 0),iv ((Ap.af (n-f) c p.rules[r] i kp).fa.getD 2 0),iv ((Ap.af (n-f) c p.rules[r] i kp).val)])) ⟨I0,.inr (.inr (.inl ⟨_,rfl,rfl⟩)),T0⟩ ⟨rfl,T0⟩ rfl (kN 33 [(1,.box 78 [iv (Rd.shI p.top (Ns.shT p.top (Ns.cntE p n f)) c.sh),iv ((Ap.af (n-f) c p.rules[r] i kp).st.getD 0 0),iv ((Ap.af (n-f) c p.rules[r] i kp).st.getD 1 0),iv ((Ap.af (n-f) c p.rules[r] i kp).st.getD 2 0),iv ((Ap.af (n-f) c p.rules[r] i kp).st.getD 3 0),iv ((Ap.af (n-f) c p.rules[r] i kp).st.getD 4 0),iv ((Ap.af (n-f) c p.rules[r] i kp).st.getD 5 0),iv ((Ap.af (n-f) c p.rules[r] i kp).st.getD 6 0),iv ((Ap.af (n-f) c p.rules[r] i kp).st.getD 7 0),iv ((Ap.af (n-f) c p.rules[r] i kp).se.getD 0 0),iv ((Ap.af (n-f) c p.rules[r] i kp).se.getD 1 0),iv ((Ap.af (n-f) c p.rules[r] i kp).se.getD 2 0),iv ((Ap.af (n-f) c p.rules[r] i kp).fa.getD 0 0),iv ((Ap.af (n-f) c p.rules[r] i kp).fa.getD 1 0),iv ((Ap.af (n-f) c p.rules[r] i kp).fa.getD 2 0),iv ((Ap.af (n-f) c p.rules[r] i kp).val)]),(2,.box 78 [iv 0,iv 0,iv 0,iv 0,iv 0,iv 0,iv 0,iv 0,iv 0,iv 0,iv 0,iv 0,iv 0,iv 0,iv 0,iv 0])] [(4,.box 1 0),(6,.box 2 0),(7,iv 0)] (Zd (Zb (Zb (kW 33 [(1,.box 78 [iv (Rd.shI p.top (Ns.shT p.top (Ns.cntE p n f)) c.sh),iv ((Ap.af (n-f) c p.rules[r] i kp).st.getD 0 0),iv ((Ap.af (n-f) c p.rules[r] i kp).st.getD 1 0),iv ((Ap.af (n-f) c p.rules[r] i kp).st.getD 2 0),iv ((Ap.af (n-f) c p.rules[r] i kp).st.getD 3 0),iv ((Ap.af (n-f) c p.rules[r] i kp).st.getD 4 0),iv ((Ap.af (n-f) c p.rules[r] i kp).st.getD 5 0),iv ((Ap.af (n-f) c p.rules[r] i kp).st.getD 6 0),iv ((Ap.af (n-f) c p.rules[r] i kp).st.getD 7 0),iv ((Ap.af (n-f) c p.rules[r] i kp).se.getD 0 0),iv ((Ap.af (n-f) c p.rules[r] i kp).se.getD 1 0),iv ((Ap.af (n-f) c p.rules[r] i kp).se.getD 2 0),iv ((Ap.af (n-f) c p.rules[r] i kp).fa.getD 0 0),iv ((Ap.af (n-f) c p.rules[r] i kp).fa.getD 1 0),iv ((Ap.af (n-f) c p.rules[r] i kp).fa.getD 2 0),iv ((Ap.af (n-f) c p.rules[r] i kp).val)]),(2,.box 78 [iv 0,iv 0,iv 0,iv 0,iv 0,iv 0,iv 0,iv 0,iv 0,iv 0,iv 0,iv 0,iv 0,iv 0,iv 0,iv 0])] [(4,.box 1 0),(6,.box 2 0),(7,iv 0)] ?_))))))))))))))))
 refine Yn (wk_freeze 4 1 0 rfl rfl rfl rfl) ?_
 refine kW 33 [(2,.box 78 [iv 0,iv 0,iv 0,iv 0,iv 0,iv 0,iv 0,iv 0,iv 0,iv 0,iv 0,iv 0,iv 0,iv 0,iv 0,iv 0])] [(4,.el ([iv (Rd.shI p.top (Ns.shT p.top (Ns.cntE p n f)) c.sh),iv ((Ap.af (n-f) c p.rules[r] i kp).st.getD 0 0),iv ((Ap.af (n-f) c p.rules[r] i kp).st.getD 1 0),iv ((Ap.af (n-f) c p.rules[r] i kp).st.getD 2 0),iv ((Ap.af (n-f) c p.rules[r] i kp).st.getD 3 0),iv ((Ap.af (n-f) c p.rules[r] i kp).st.getD 4 0),iv ((Ap.af (n-f) c p.rules[r] i kp).st.getD 5 0),iv ((Ap.af (n-f) c p.rules[r] i kp).st.getD 6 0),iv ((Ap.af (n-f) c p.rules[r] i kp).st.getD 7 0),iv ((Ap.af (n-f) c p.rules[r] i kp).se.getD 0 0),iv ((Ap.af (n-f) c p.rules[r] i kp).se.getD 1 0),iv ((Ap.af (n-f) c p.rules[r] i kp).se.getD 2 0),iv ((Ap.af (n-f) c p.rules[r] i kp).fa.getD 0 0),iv ((Ap.af (n-f) c p.rules[r] i kp).fa.getD 1 0),iv ((Ap.af (n-f) c p.rules[r] i kp).fa.getD 2 0),iv ((Ap.af (n-f) c p.rules[r] i kp).val)]) 0),(6,.box 2 0),(7,iv 0)] ?_
 by_cases hs1:(Rd.belB (Ap.af (n-f) c p.rules[r] i kp).se 1048577)=true
 by_cases hs2:(Rd.belB (Ap.af (n-f) c p.rules[r] i kp).fa 1048577)=true
 refine Za (oA (fe 9 4 U78 3) I0 (oA (Yx (len:=3) (off:=9) (ds:=(([(Ap.af (n-f) c p.rules[r] i kp).se.getD 0 0,(Ap.af (n-f) c p.rules[r] i kp).se.getD 1 0,(Ap.af (n-f) c p.rules[r] i kp).se.getD 2 0]).map iv)) (.tmp 21) rfl U76 (by kernel_rfl) rfl rfl (by kernel_rfl) rfl) I0 (oD (sc #[.tmp 22,.const (.int .i64 1048577)] [] (Yd (Yd (Yk ([(Ap.af (n-f) c p.rules[r] i kp).se.getD 0 0,(Ap.af (n-f) c p.rules[r] i kp).se.getD 1 0,(Ap.af (n-f) c p.rules[r] i kp).se.getD 2 0]) (by simp)) (Ap.bel3 (l:=(Ap.af (n-f) c p.rules[r] i kp).se) (by show (Ap.seA _ _ _ _ _).length≤3;rw [Ap.seA_len];omega) (by decide))) hs1) [Zc ([(Ap.af (n-f) c p.rules[r] i kp).se.getD 0 0,(Ap.af (n-f) c p.rules[r] i kp).se.getD 1 0,(Ap.af (n-f) c p.rules[r] i kp).se.getD 2 0]),iv 1048577] rfl rfl rfl) I0 I0 I0 (oA (Ya rfl rfl) I0 (pM (mT 24 bF) (gA (fe 12 4 U78 3) I0 (gA (Yx (len:=3) (off:=12) (ds:=(([(Ap.af (n-f) c p.rules[r] i kp).fa.getD 0 0,(Ap.af (n-f) c p.rules[r] i kp).fa.getD 1 0,(Ap.af (n-f) c p.rules[r] i kp).fa.getD 2 0]).map iv)) (.tmp 26) rfl U76 (by kernel_rfl) rfl rfl (by kernel_rfl) rfl) I0 (gD (sc #[.tmp 27,.const (.int .i64 1048577)] [] (Yd (Yd (Yk ([(Ap.af (n-f) c p.rules[r] i kp).fa.getD 0 0,(Ap.af (n-f) c p.rules[r] i kp).fa.getD 1 0,(Ap.af (n-f) c p.rules[r] i kp).fa.getD 2 0]) (by simp)) (Ap.bel3 (l:=(Ap.af (n-f) c p.rules[r] i kp).fa) (by show (Ap.faA _ _ _ _ _).length≤3;rw [Ap.faA_len];omega) (by decide))) hs2) [Zc ([(Ap.af (n-f) c p.rules[r] i kp).fa.getD 0 0,(Ap.af (n-f) c p.rules[r] i kp).fa.getD 1 0,(Ap.af (n-f) c p.rules[r] i kp).fa.getD 2 0]),iv 1048577] rfl rfl rfl) I0 I0 I0 (gA (Ya rfl rfl) I0 (pP (pk false bT bF rfl) (Ze (Zd (Zp rfl (Zn (Zd (Zb (Za (oA (Zq (z:=16) (.tmp 4) rfl U78 rfl (by kernel_rfl) rfl rfl) I0 (ZF rfl (sB 16 6 (.tmp 32) (.agg ([iv (Rd.shI p.top (Ns.shT p.top (Ns.cntE p n f)) c.sh),iv ((Ap.af (n-f) c p.rules[r] i kp).st.getD 0 0),iv ((Ap.af (n-f) c p.rules[r] i kp).st.getD 1 0),iv ((Ap.af (n-f) c p.rules[r] i kp).st.getD 2 0),iv ((Ap.af (n-f) c p.rules[r] i kp).st.getD 3 0),iv ((Ap.af (n-f) c p.rules[r] i kp).st.getD 4 0),iv ((Ap.af (n-f) c p.rules[r] i kp).st.getD 5 0),iv ((Ap.af (n-f) c p.rules[r] i kp).st.getD 6 0),iv ((Ap.af (n-f) c p.rules[r] i kp).st.getD 7 0),iv ((Ap.af (n-f) c p.rules[r] i kp).se.getD 0 0),iv ((Ap.af (n-f) c p.rules[r] i kp).se.getD 1 0),iv ((Ap.af (n-f) c p.rules[r] i kp).se.getD 2 0),iv ((Ap.af (n-f) c p.rules[r] i kp).fa.getD 0 0),iv ((Ap.af (n-f) c p.rules[r] i kp).fa.getD 1 0),iv ((Ap.af (n-f) c p.rules[r] i kp).fa.getD 2 0),iv ((Ap.af (n-f) c p.rules[r] i kp).val)]))) ⟨I0,I0,T0⟩ ⟨rfl,T0⟩ rfl (pM (aC (.int .i64 0)) (Ze (Zd (Zk ?_)))))))))))))))))))))))
 refine Ye Try.results26 (.cellS rfl rfl U78 rfl (z:=16) (by kernel_rfl) rfl (by decide)) (.tmp rfl) ?_
 exact absurd ⟨hs1,hs2⟩ hl
 have hs2f:(Rd.belB (Ap.af (n-f) c p.rules[r] i kp).fa 1048577)=false:=by simpa using hs2
 refine Za (oA (fe 9 4 U78 3) I0 (oA (Yx (len:=3) (off:=9) (ds:=(([(Ap.af (n-f) c p.rules[r] i kp).se.getD 0 0,(Ap.af (n-f) c p.rules[r] i kp).se.getD 1 0,(Ap.af (n-f) c p.rules[r] i kp).se.getD 2 0]).map iv)) (.tmp 21) rfl U76 (by kernel_rfl) rfl rfl (by kernel_rfl) rfl) I0 (oD (sc #[.tmp 22,.const (.int .i64 1048577)] [] (Yd (Yd (Yk ([(Ap.af (n-f) c p.rules[r] i kp).se.getD 0 0,(Ap.af (n-f) c p.rules[r] i kp).se.getD 1 0,(Ap.af (n-f) c p.rules[r] i kp).se.getD 2 0]) (by simp)) (Ap.bel3 (l:=(Ap.af (n-f) c p.rules[r] i kp).se) (by show (Ap.seA _ _ _ _ _).length≤3;rw [Ap.seA_len];omega) (by decide))) hs1) [Zc ([(Ap.af (n-f) c p.rules[r] i kp).se.getD 0 0,(Ap.af (n-f) c p.rules[r] i kp).se.getD 1 0,(Ap.af (n-f) c p.rules[r] i kp).se.getD 2 0]),iv 1048577] rfl rfl rfl) I0 I0 I0 (oA (Ya rfl rfl) I0 (pM (mT 24 bF) (gA (fe 12 4 U78 3) I0 (gA (Yx (len:=3) (off:=12) (ds:=(([(Ap.af (n-f) c p.rules[r] i kp).fa.getD 0 0,(Ap.af (n-f) c p.rules[r] i kp).fa.getD 1 0,(Ap.af (n-f) c p.rules[r] i kp).fa.getD 2 0]).map iv)) (.tmp 26) rfl U76 (by kernel_rfl) rfl rfl (by kernel_rfl) rfl) I0 (gD (sc #[.tmp 27,.const (.int .i64 1048577)] [] (Yd (Yd (Yk ([(Ap.af (n-f) c p.rules[r] i kp).fa.getD 0 0,(Ap.af (n-f) c p.rules[r] i kp).fa.getD 1 0,(Ap.af (n-f) c p.rules[r] i kp).fa.getD 2 0]) (by simp)) (Ap.bel3 (l:=(Ap.af (n-f) c p.rules[r] i kp).fa) (by show (Ap.faA _ _ _ _ _).length≤3;rw [Ap.faA_len];omega) (by decide))) hs2f) [Zc ([(Ap.af (n-f) c p.rules[r] i kp).fa.getD 0 0,(Ap.af (n-f) c p.rules[r] i kp).fa.getD 1 0,(Ap.af (n-f) c p.rules[r] i kp).fa.getD 2 0]),iv 1048577] rfl rfl rfl) I0 I0 I0 (gA (Ya rfl rfl) I0 (pP (pk false bT bT rfl) (Ze (Zd (Zm rfl (Zb (Za (ZF rfl (YW [] #[.int .i64 0,.int .i64 0,.int .i64 0,.int .i64 0,.int .i64 0,.int .i64 0,.int .i64 0,.int .i64 0,.int .i64 0,.int .i64 0,.int .i64 0,.int .i64 0,.int .i64 0,.int .i64 0,.int .i64 0,.int .i64 0] rfl rfl (by kernel_rfl) rfl) T0 T0 T0 (ZF rfl (sB 16 6 (.tmp 31) (.agg [iv 0,iv 0,iv 0,iv 0,iv 0,iv 0,iv 0,iv 0,iv 0,iv 0,iv 0,iv 0,iv 0,iv 0,iv 0,iv 0])) ⟨I0,I0,T0⟩ ⟨rfl,T0⟩ rfl (pM (aC (.int .i64 4)) (Ze (Zd (Zk (Zj ?_))))))))))))))))))))))
 refine Ye Try.results26 (.cellS rfl rfl U78 rfl (z:=16) (by kernel_rfl) rfl (by decide)) (.tmp rfl) ?_
 exact rfl
 have hs1f:(Rd.belB (Ap.af (n-f) c p.rules[r] i kp).se 1048577)=false:=by simpa using hs1
 refine Za (oA (fe 9 4 U78 3) I0 (oA (Yx (len:=3) (off:=9) (ds:=(([(Ap.af (n-f) c p.rules[r] i kp).se.getD 0 0,(Ap.af (n-f) c p.rules[r] i kp).se.getD 1 0,(Ap.af (n-f) c p.rules[r] i kp).se.getD 2 0]).map iv)) (.tmp 21) rfl U76 (by kernel_rfl) rfl rfl (by kernel_rfl) rfl) I0 (oD (sc #[.tmp 22,.const (.int .i64 1048577)] [] (Yd (Yd (Yk ([(Ap.af (n-f) c p.rules[r] i kp).se.getD 0 0,(Ap.af (n-f) c p.rules[r] i kp).se.getD 1 0,(Ap.af (n-f) c p.rules[r] i kp).se.getD 2 0]) (by simp)) (Ap.bel3 (l:=(Ap.af (n-f) c p.rules[r] i kp).se) (by show (Ap.seA _ _ _ _ _).length≤3;rw [Ap.seA_len];omega) (by decide))) hs1f) [Zc ([(Ap.af (n-f) c p.rules[r] i kp).se.getD 0 0,(Ap.af (n-f) c p.rules[r] i kp).se.getD 1 0,(Ap.af (n-f) c p.rules[r] i kp).se.getD 2 0]),iv 1048577] rfl rfl rfl) I0 I0 I0 (oA (Ya rfl rfl) I0 (pM (mT 24 bT) (qK (qK (qK (qK (pP (pk true bT (.v (.tuple #[])) rfl) (Ze (Zd (Zm rfl (Zb (Za (ZF rfl (YW [] #[.int .i64 0,.int .i64 0,.int .i64 0,.int .i64 0,.int .i64 0,.int .i64 0,.int .i64 0,.int .i64 0,.int .i64 0,.int .i64 0,.int .i64 0,.int .i64 0,.int .i64 0,.int .i64 0,.int .i64 0,.int .i64 0] rfl rfl (by kernel_rfl) rfl) T0 T0 T0 (ZF rfl (sB 16 6 (.tmp 31) (.agg [iv 0,iv 0,iv 0,iv 0,iv 0,iv 0,iv 0,iv 0,iv 0,iv 0,iv 0,iv 0,iv 0,iv 0,iv 0,iv 0])) ⟨I0,I0,T0⟩ ⟨rfl,T0⟩ rfl (pM (aC (.int .i64 4)) (Ze (Zd (Zk (Zj ?_))))))))))))))))))))))
 refine Ye Try.results26 (.cellS rfl rfl U78 rfl (z:=16) (by kernel_rfl) rfl (by decide)) (.tmp rfl) ?_
 exact rfl
theorem apply_no {p:Fm} (HL:FamLen p) {n t f:Int} {c:Cf} (hc:En.CfV p n f c) (hv:valE p=0) (l8:c.st.length≤8) (hf:0≤f∧f≤1048576) {x y kp:Int} (he:En.enB p n t f c (En.hdJ p f c p.msgs.length) x y kp=false):Ctr Try.prog J 26 [.el (En.sysP p n t f) 0,.agg (En.cfV (Rd.shI p.top (Ns.shT p.top (Ns.cntE p n f)) c.sh) c),.agg [iv x,iv y,iv kp]] (.tup [.agg Ap.z16,iv 9]):=by
 have hz:=En.val_sizes hv
 have hls:=hc.ls
 have hlf:=hc.lf
 refine Zy Try.func26 rfl (by intro X hX;simp only [List.mem_cons,List.not_mem_nil,or_false] at hX;rcases hX with rfl | rfl | rfl;exact (show Plain (.el (En.sysP p n t f) 0) from .el (ZQ (En.plain_sysP p n t f)));exact Zi (En.plain_cfV _ c);exact Zi (fun X hX=>by simp only [List.mem_cons,List.not_mem_nil,or_false] at hX;rcases hX with rfl | rfl | rfl<;>exact .v _)) (n:=33) rfl (by simp) (fun w0 => ?_)
 refine kW 33 [] [(0,.el (En.sysP p n t f) 0),(1,.agg (En.cfV (Rd.shI p.top (Ns.shT p.top (Ns.cntE p n f)) c.sh) c)),(2,.agg [iv x,iv y,iv kp])] (Zb (Za (oA (ZV (X := .agg (En.cfV (Rd.shI p.top (Ns.shT p.top (Ns.cntE p n f)) c.sh) c)) (.tmp 1) rfl rfl rfl) I0 (oA (ZV (X := .agg [iv x,iv y,iv kp]) (.tmp 2) rfl rfl rfl) I0 (ZF rfl (ZJ (z := .agg #[.int .i64 0,.int .i64 0,.int .i64 0,.int .i64 0,.int .i64 0,.int .i64 0,.int .i64 0,.int .i64 0,.int .i64 0,.int .i64 0,.int .i64 0,.int .i64 0,.int .i64 0,.int .i64 0,.int .i64 0,.int .i64 0]) (k:=1) rfl (by kernel_rfl)) T0 T0 rfl (pM (aC (.int .i64 0)) (Ze (Zd (Zb (Zb ?_))))))))))
 refine Zo (dM (mT 0 (.el (En.sysP p n t f) 0)) (dA (Zq (z:=16) (.tmp 4) rfl U78 rfl (by kernel_rfl) rfl rfl) I0 (dA (Zq (z:=3) (.tmp 5) rfl U35 rfl (by kernel_rfl) rfl rfl) I0 (dM (mT 0 (.el (En.sysP p n t f) 0)) (dA (Zq (z:=16) (.tmp 4) rfl U78 rfl (by kernel_rfl) rfl rfl) I0 (dD (sc #[.tmp 11,.tmp 12] [] (heard_c hc hf hz.2.2.1) [.el (En.sysP p n t f) 0,.agg (En.cfV (Rd.shI p.top (Ns.shT p.top (Ns.cntE p n f)) c.sh) c)] rfl rfl rfl) I0 I0 I0 (dR (sc #[.tmp 8,.tmp 9,.tmp 10,.tmp 13] [] (Yd (enabled_c HL hc hv l8 (fun m=>En.hdJ_in hc hf _ m)) he) [.el (En.sysP p n t f) 0,.agg (En.cfV (Rd.shI p.top (Ns.shT p.top (Ns.cntE p n f)) c.sh) c),.agg ([iv x,iv y,iv kp]),.agg (En.msA (En.hdJ p f c p.msgs.length))] rfl rfl rfl) ⟨I0,I0,I0,I0,.inr (.inl rfl),T0⟩ T0 T0 (dA (Ya rfl rfl) I0 (dE ?_))))))))) (by kernel_rfl)
 show ETri J w0 _ _ _
 refine kW 33 [(1,.box 78 [iv 0,iv 0,iv 0,iv 0,iv 0,iv 0,iv 0,iv 0,iv 0,iv 0,iv 0,iv 0,iv 0,iv 0,iv 0,iv 0])] [(0,.el (En.sysP p n t f) 0),(4,.el (En.cfV (Rd.shI p.top (Ns.shT p.top (Ns.cntE p n f)) c.sh) c) 0),(5,.el ([iv x,iv y,iv kp]) 0),(6,.box 1 0),(7,iv 0),(15,bT)] (Zd (Zm rfl (Zb (Za (ZF rfl (YW [] #[.int .i64 0,.int .i64 0,.int .i64 0,.int .i64 0,.int .i64 0,.int .i64 0,.int .i64 0,.int .i64 0,.int .i64 0,.int .i64 0,.int .i64 0,.int .i64 0,.int .i64 0,.int .i64 0,.int .i64 0,.int .i64 0] rfl rfl (by kernel_rfl) rfl) T0 T0 T0 (ZF rfl (sB 16 6 (.tmp 16) (.agg [iv 0,iv 0,iv 0,iv 0,iv 0,iv 0,iv 0,iv 0,iv 0,iv 0,iv 0,iv 0,iv 0,iv 0,iv 0,iv 0])) ⟨I0,I0,T0⟩ ⟨rfl,T0⟩ rfl (pM (aC (.int .i64 9)) (Ze (Zd (Zk (Zj ?_)))))))))))
 refine Ye Try.results26 (.cellS rfl rfl U78 rfl (z:=16) (by kernel_rfl) rfl (by decide)) (.tmp rfl) ?_
 exact rfl
namespace En
theorem vc_ok {p:Fm} {n t f:Int} {c:Cf} (h:Rd.vcE p n t f c=0):Ns.sysE p n t f=0∧Rd.rdX p n f c=true:=by
  unfold Rd.vcE at h
  split at h
  · rename_i hs
    split at h
    · rename_i hx;exact ⟨hs,hx⟩
    cases h
  rename_i hs;exact absurd h hs
theorem cf_len {p:Fm} {n f:Int} {c:Cf} (h:CfV p n f c) (ha:1≤n∧n≤1048576∧0≤f∧f≤n) (h8:¬ 8<n):c.st.length≤8:=by
  have:=h.ln
  unfold Ns.cntE at this
  split at this<;>omega
end En
theorem Apply_err {p:Fm} (HP:FmOk p) (HL:FamLen p) {n t f:Int} {c:Cf} (HC:Rd.CgOk c) {x y kp:Int} (hz:¬ (Rd.vcE p n t f c)=0):Ctr Try.prog J 10 [.agg (cFm p),.agg (cSz n t f),.agg (Rd.cCg c),.agg [iv x,iv y,iv kp]] (.tup [.agg (Rd.cCg Ap.zC),iv (Rd.vcE p n t f c)]):=by
 refine Zy Try.func10 rfl (by intro X hX;simp only [List.mem_cons,List.not_mem_nil,or_false] at hX;rcases hX with rfl | rfl | rfl | rfl;exact Zi (YC p);exact Zi (YT n t f);exact Zi (Rd.plain_cg c);exact Zi (fun X hX=>by simp only [List.mem_cons,List.not_mem_nil,or_false] at hX;rcases hX with rfl | rfl | rfl<;>exact .v _)) (n:=39) rfl (by simp) (fun w0 => ?_)
 refine kW 39 [] [(0,.agg (cFm p)),(1,.agg (cSz n t f)),(2,.agg (Rd.cCg c)),(3,.agg [iv x,iv y,iv kp])] (Zb (Za (oA (ZV (X := .agg (cFm p)) (.tmp 0) rfl rfl rfl) I0 (oA (ZV (X := .agg (cSz n t f)) (.tmp 1) rfl rfl rfl) I0 (oA (ZV (X := .agg (Rd.cCg c)) (.tmp 2) rfl rfl rfl) I0 (oA (ZV (X := .agg [iv x,iv y,iv kp]) (.tmp 3) rfl rfl rfl) I0 (ZF rfl (ZJ (z := .agg #[.slice none 0 0,.slice none 0 0,.int .i64 0,.slice none 0 0,.slice none 0 0,.int .i64 0]) (k:=1) rfl (by kernel_rfl)) T0 T0 rfl (pM (aC (.int .i64 0)) (Ze (Zd (Zb (Za (oA (Zq (z:=10) (.tmp 4) rfl U27 rfl (by kernel_rfl) rfl rfl) I0 (oA (Zq (z:=3) (.tmp 5) rfl U29 rfl (by kernel_rfl) rfl rfl) I0 (oA (Zq (z:=6) (.tmp 6) rfl U31 rfl (by kernel_rfl) rfl rfl) I0 (ZF rfl (sc #[.tmp 14,.tmp 15,.tmp 16] [] (open_no HP HC hz) [.agg (cFm p),.agg (cSz n t f),.agg (Rd.cCg c)] rfl rfl rfl) ⟨I0,I0,I0,I0,T0⟩ T0 T0 (pM (mT 17 (.tup [.fr (.any),.fr (.agg (Rd.cfZ false (Rd.shI p.top (Ns.shT p.top (Ns.cntE p n f)) c.sh) c)),iv (Rd.vcE p n t f c)])) (oA (Zt (X := .fr (.any)) (.tmp 13) rfl rfl) I0 (oA (Zt (X := .fr (.agg (Rd.cfZ false (Rd.shI p.top (Ns.shT p.top (Ns.cntE p n f)) c.sh) c))) (.tmp 13) rfl rfl) I0 (oA (Zt (X:=iv (Rd.vcE p n t f c)) (.tmp 13) rfl rfl) I0 (ZF rfl (ZJ (z := .agg #[.int .i64 0,.int .i64 0,.int .i64 0,.int .i64 0,.int .i64 0,.int .i64 0,.int .i64 0,.int .i64 0,.int .i64 0,.int .i64 0,.int .i64 0,.int .i64 0,.int .i64 0,.int .i64 0,.int .i64 0,.int .i64 0]) (k:=2) rfl (by kernel_rfl)) T0 T0 rfl (pM (aT 18 (.fr (.any))) (ZF rfl (sB 16 11 (.tmp 19) (.agg [iv (Rd.zz false (Rd.shI p.top (Ns.shT p.top (Ns.cntE p n f)) c.sh)),iv (Rd.zz false (c.st.getD 0 0)),iv (Rd.zz false (c.st.getD 1 0)),iv (Rd.zz false (c.st.getD 2 0)),iv (Rd.zz false (c.st.getD 3 0)),iv (Rd.zz false (c.st.getD 4 0)),iv (Rd.zz false (c.st.getD 5 0)),iv (Rd.zz false (c.st.getD 6 0)),iv (Rd.zz false (c.st.getD 7 0)),iv (Rd.zz false (c.se.getD 0 0)),iv (Rd.zz false (c.se.getD 1 0)),iv (Rd.zz false (c.se.getD 2 0)),iv (Rd.zz false (c.fa.getD 0 0)),iv (Rd.zz false (c.fa.getD 1 0)),iv (Rd.zz false (c.fa.getD 2 0)),iv (Rd.zz false c.val)])) ⟨I0,.inr (.inr (.inl ⟨_,rfl,rfl⟩)),T0⟩ ⟨rfl,T0⟩ rfl ?_)))))))))))))))))))))))
 refine pM (aT 20 (iv (Rd.vcE p n t f c))) (Ze (Zd (Zb (Zb (Za (pM (mT 12 (iv (Rd.vcE p n t f c))) (oC (Z0 rfl (dF' hz)) I0 I0 (Ze (Zd (Zm rfl (Zb (Za (ZF rfl (YW [] #[.slice none 0 0,.slice none 0 0,.int .i64 0,.slice none 0 0,.slice none 0 0,.int .i64 0] rfl rfl (by kernel_rfl) rfl) T0 T0 T0 (pM (mT 12 (iv (Rd.vcE p n t f c))) (ZF rfl (sB 6 8 (.tmp 23) (.agg [.v (.slice none 0 0),.v (.slice none 0 0),iv 0,.v (.slice none 0 0),.v (.slice none 0 0),iv 0])) ⟨I0,I0,T0⟩ ⟨rfl,T0⟩ rfl (pM (aT 24 (iv (Rd.vcE p n t f c))) (Ze (Zd (Zk (Zj ?_))))))))))))))))))))
 refine Yn (Ym 1 0 3 true 3 1 rfl rfl rfl rfl) ?_
 refine Yn (Ym 1 1 4 true 3 1 rfl rfl rfl rfl) ?_
 refine Yn (Ym 1 3 5 true 3 1 rfl rfl rfl rfl) ?_
 refine Yn (Ym 1 4 6 true 3 1 rfl rfl rfl rfl) ?_
 refine Ye Try.results10 (.cellS rfl rfl U31 rfl (z:=6) (by kernel_rfl) rfl (by decide)) (.tmp rfl) ?_
 exact rfl
theorem Apply_no {p:Fm} (HP:FmOk p) (HL:FamLen p) {n t f:Int} {c:Cf} (HC:Rd.CgOk c) {x y kp:Int} (hz:(Rd.vcE p n t f c)=0) (he:En.enB p n t f c (En.hdJ p f c p.msgs.length) x y kp=false):Ctr Try.prog J 10 [.agg (cFm p),.agg (cSz n t f),.agg (Rd.cCg c),.agg [iv x,iv y,iv kp]] (.tup [.agg (Rd.cCg Ap.zC),iv 9]):=by
 obtain ⟨hs,hx⟩:=En.vc_ok hz
 have hc:=En.cf_in hx
 obtain ⟨hv,ha,h8⟩:=Ns.sys_ok hs
 have hai:=Ns.adm_in ha
 have l8:=En.cf_len hc hai h8
 have hsz:=En.val_sizes hv
 refine Zy Try.func10 rfl (by intro X hX;simp only [List.mem_cons,List.not_mem_nil,or_false] at hX;rcases hX with rfl | rfl | rfl | rfl;exact Zi (YC p);exact Zi (YT n t f);exact Zi (Rd.plain_cg c);exact Zi (fun X hX=>by simp only [List.mem_cons,List.not_mem_nil,or_false] at hX;rcases hX with rfl | rfl | rfl<;>exact .v _)) (n:=39) rfl (by simp) (fun w0 => ?_)
 refine kW 39 [] [(0,.agg (cFm p)),(1,.agg (cSz n t f)),(2,.agg (Rd.cCg c)),(3,.agg [iv x,iv y,iv kp])] (Zb (Za (oA (ZV (X := .agg (cFm p)) (.tmp 0) rfl rfl rfl) I0 (oA (ZV (X := .agg (cSz n t f)) (.tmp 1) rfl rfl rfl) I0 (oA (ZV (X := .agg (Rd.cCg c)) (.tmp 2) rfl rfl rfl) I0 (oA (ZV (X := .agg [iv x,iv y,iv kp]) (.tmp 3) rfl rfl rfl) I0 (ZF rfl (ZJ (z := .agg #[.slice none 0 0,.slice none 0 0,.int .i64 0,.slice none 0 0,.slice none 0 0,.int .i64 0]) (k:=1) rfl (by kernel_rfl)) T0 T0 rfl (pM (aC (.int .i64 0)) (Ze (Zd (Zb (Za (oA (Zq (z:=10) (.tmp 4) rfl U27 rfl (by kernel_rfl) rfl rfl) I0 (oA (Zq (z:=3) (.tmp 5) rfl U29 rfl (by kernel_rfl) rfl rfl) I0 (oA (Zq (z:=6) (.tmp 6) rfl U31 rfl (by kernel_rfl) rfl rfl) I0 (ZF rfl (Kx (c := .func 23) (xs := #[.tmp 14,.tmp 15,.tmp 16]) (open_V HP HC hs hx) rfl (by kernel_rfl) rfl (Xs:=[.agg (cFm p),.agg (cSz n t f),.agg (Rd.cCg c)]) rfl rfl) ⟨I0,I0,I0,I0,T0⟩ T0 T0 (pM (mT 17 (.tup [.el (En.sysP p n t f) 0,.agg (En.cfV (Rd.shI p.top (Ns.shT p.top (Ns.cntE p n f)) c.sh) c),iv 0])) (oA (Zt (X := .el (En.sysP p n t f) 0) (.tmp 13) rfl rfl) I0 (oA (Zt (X := .agg (En.cfV (Rd.shI p.top (Ns.shT p.top (Ns.cntE p n f)) c.sh) c)) (.tmp 13) rfl rfl) I0 (oA (Zt (X:=iv 0) (.tmp 13) rfl rfl) I0 (ZF rfl (ZJ (z := .agg #[.int .i64 0,.int .i64 0,.int .i64 0,.int .i64 0,.int .i64 0,.int .i64 0,.int .i64 0,.int .i64 0,.int .i64 0,.int .i64 0,.int .i64 0,.int .i64 0,.int .i64 0,.int .i64 0,.int .i64 0,.int .i64 0]) (k:=2) rfl (by kernel_rfl)) T0 T0 rfl (pM (aT 18 (.el (En.sysP p n t f) 0)) (ZF rfl (sB 16 11 (.tmp 19) (.agg (En.cfV (Rd.shI p.top (Ns.shT p.top (Ns.cntE p n f)) c.sh) c))) ⟨I0,I0,T0⟩ ⟨rfl,T0⟩ rfl ?_)))))))))))))))))))))))
 refine pM (aT 20 (iv 0)) (Ze (Zd (Zb (Zb (Za (pM (mT 12 (iv 0)) (oC (Z0 (r:=false) rfl (by decide)) I0 I0 (Ze (Zd (Zp rfl (Zn (Zd (Zb (Za (pM (mT 10 (.el (En.sysP p n t f) 0)) (oB (lS (En.cfV (Rd.shI p.top (Ns.shT p.top (Ns.cntE p n f)) c.sh) c) 16 11 U78) I0 rfl (oA (Zq (z:=3) (.tmp 7) rfl U35 rfl (by kernel_rfl) rfl rfl) I0 (ZF rfl (sc #[.tmp 26,.tmp 27,.tmp 28] [] (apply_no HL hc hv l8 ⟨by omega,by omega⟩ he) [.el (En.sysP p n t f) 0,.agg (En.cfV (Rd.shI p.top (Ns.shT p.top (Ns.cntE p n f)) c.sh) c),.agg ([iv x,iv y,iv kp])] rfl rfl rfl) ⟨I0,I0,I0,I0,T0⟩ T0 T0 (pM (mT 29 (.tup [.fr (.agg Ap.z16),iv 9])) (oA (Zt (X := .fr (.agg Ap.z16)) (.tmp 25) rfl rfl) I0 (oA (Zt (X:=iv 9) (.tmp 25) rfl rfl) I0 (ZF rfl (sB 16 11 (.tmp 30) (.agg [iv 0,iv 0,iv 0,iv 0,iv 0,iv 0,iv 0,iv 0,iv 0,iv 0,iv 0,iv 0,iv 0,iv 0,iv 0,iv 0])) ⟨I0,.inr (.inr (.inl ⟨_,rfl,rfl⟩)),T0⟩ ⟨rfl,T0⟩ rfl (pM (aT 31 (iv 9)) ?_)))))))))))))))))))))))
 refine Ze (Zd (Zb (Zb (Za (pM (mT 12 (iv 9)) (oC (Z0 (r:=true) rfl (by decide)) I0 I0 (Ze (Zd (Zm rfl (Zb (Za (ZF rfl (YW [] #[.slice none 0 0,.slice none 0 0,.int .i64 0,.slice none 0 0,.slice none 0 0,.int .i64 0] rfl rfl (by kernel_rfl) rfl) T0 T0 T0 (pM (mT 12 (iv 9)) (ZF rfl (sB 6 8 (.tmp 34) (.agg [.v (.slice none 0 0),.v (.slice none 0 0),iv 0,.v (.slice none 0 0),.v (.slice none 0 0),iv 0])) ⟨I0,I0,T0⟩ ⟨rfl,T0⟩ rfl (pM (aT 35 (iv 9)) (Ze (Zd (Zk (Zj ?_)))))))))))))))))))
 refine Yn (Ym 1 0 3 true 3 1 rfl rfl rfl rfl) ?_
 refine Yn (Ym 1 1 4 true 3 1 rfl rfl rfl rfl) ?_
 refine Yn (Ym 1 3 5 true 3 1 rfl rfl rfl rfl) ?_
 refine Yn (Ym 1 4 6 true 3 1 rfl rfl rfl rfl) ?_
 refine Ye Try.results10 (.cellS rfl rfl U31 rfl (z:=6) (by kernel_rfl) rfl (by decide)) (.tmp rfl) ?_
 exact rfl
theorem Apply_lg {p:Fm} (HP:FmOk p) (HL:FamLen p) {n t f:Int} {c:Cf} (HC:Rd.CgOk c) (hz:(Rd.vcE p n t f c)=0) {r:Nat} (hr:r<p.rules.length) {i:Nat} (hi:i<c.st.length) {kp:Int} (he:En.enB p n t f c (En.hdJ p f c p.msgs.length) ((r:Nat):Int) ((i:Nat):Int) kp=true) (hl:¬ (Rd.belB (Ap.af (n-f) c p.rules[r] i kp).se 1048577=true∧Rd.belB (Ap.af (n-f) c p.rules[r] i kp).fa 1048577=true)):Ctr Try.prog J 10 [.agg (cFm p),.agg (cSz n t f),.agg (Rd.cCg c),.agg [iv r,iv i,iv kp]] (.tup [.agg (Rd.cCg Ap.zC),iv 4]):=by
 obtain ⟨hs,hx⟩:=En.vc_ok hz
 have hc:=En.cf_in hx
 obtain ⟨hv,ha,h8⟩:=Ns.sys_ok hs
 have hai:=Ns.adm_in ha
 have l8:=En.cf_len hc hai h8
 have hsz:=En.val_sizes hv
 refine Zy Try.func10 rfl (by intro X hX;simp only [List.mem_cons,List.not_mem_nil,or_false] at hX;rcases hX with rfl | rfl | rfl | rfl;exact Zi (YC p);exact Zi (YT n t f);exact Zi (Rd.plain_cg c);exact Zi (fun X hX=>by simp only [List.mem_cons,List.not_mem_nil,or_false] at hX;rcases hX with rfl | rfl | rfl<;>exact .v _)) (n:=39) rfl (by simp) (fun w0 => ?_)
 refine kW 39 [] [(0,.agg (cFm p)),(1,.agg (cSz n t f)),(2,.agg (Rd.cCg c)),(3,.agg [iv r,iv i,iv kp])] (Zb (Za (oA (ZV (X := .agg (cFm p)) (.tmp 0) rfl rfl rfl) I0 (oA (ZV (X := .agg (cSz n t f)) (.tmp 1) rfl rfl rfl) I0 (oA (ZV (X := .agg (Rd.cCg c)) (.tmp 2) rfl rfl rfl) I0 (oA (ZV (X := .agg [iv r,iv i,iv kp]) (.tmp 3) rfl rfl rfl) I0 (ZF rfl (ZJ (z := .agg #[.slice none 0 0,.slice none 0 0,.int .i64 0,.slice none 0 0,.slice none 0 0,.int .i64 0]) (k:=1) rfl (by kernel_rfl)) T0 T0 rfl (pM (aC (.int .i64 0)) (Ze (Zd (Zb (Za (oA (Zq (z:=10) (.tmp 4) rfl U27 rfl (by kernel_rfl) rfl rfl) I0 (oA (Zq (z:=3) (.tmp 5) rfl U29 rfl (by kernel_rfl) rfl rfl) I0 (oA (Zq (z:=6) (.tmp 6) rfl U31 rfl (by kernel_rfl) rfl rfl) I0 (ZF rfl (Kx (c := .func 23) (xs := #[.tmp 14,.tmp 15,.tmp 16]) (open_V HP HC hs hx) rfl (by kernel_rfl) rfl (Xs:=[.agg (cFm p),.agg (cSz n t f),.agg (Rd.cCg c)]) rfl rfl) ⟨I0,I0,I0,I0,T0⟩ T0 T0 (pM (mT 17 (.tup [.el (En.sysP p n t f) 0,.agg (En.cfV (Rd.shI p.top (Ns.shT p.top (Ns.cntE p n f)) c.sh) c),iv 0])) (oA (Zt (X := .el (En.sysP p n t f) 0) (.tmp 13) rfl rfl) I0 (oA (Zt (X := .agg (En.cfV (Rd.shI p.top (Ns.shT p.top (Ns.cntE p n f)) c.sh) c)) (.tmp 13) rfl rfl) I0 (oA (Zt (X:=iv 0) (.tmp 13) rfl rfl) I0 (ZF rfl (ZJ (z := .agg #[.int .i64 0,.int .i64 0,.int .i64 0,.int .i64 0,.int .i64 0,.int .i64 0,.int .i64 0,.int .i64 0,.int .i64 0,.int .i64 0,.int .i64 0,.int .i64 0,.int .i64 0,.int .i64 0,.int .i64 0,.int .i64 0]) (k:=2) rfl (by kernel_rfl)) T0 T0 rfl (pM (aT 18 (.el (En.sysP p n t f) 0)) (ZF rfl (sB 16 11 (.tmp 19) (.agg (En.cfV (Rd.shI p.top (Ns.shT p.top (Ns.cntE p n f)) c.sh) c))) ⟨I0,I0,T0⟩ ⟨rfl,T0⟩ rfl ?_)))))))))))))))))))))))
 refine pM (aT 20 (iv 0)) (Ze (Zd (Zb (Zb (Za (pM (mT 12 (iv 0)) (oC (Z0 (r:=false) rfl (by decide)) I0 I0 (Ze (Zd (Zp rfl (Zn (Zd (Zb (Za (pM (mT 10 (.el (En.sysP p n t f) 0)) (oB (lS (En.cfV (Rd.shI p.top (Ns.shT p.top (Ns.cntE p n f)) c.sh) c) 16 11 U78) I0 rfl (oA (Zq (z:=3) (.tmp 7) rfl U35 rfl (by kernel_rfl) rfl rfl) I0 (ZF rfl (sc #[.tmp 26,.tmp 27,.tmp 28] [] (apply_lg HL hc hv l8 ⟨by omega,by omega⟩ hr hi he hl) [.el (En.sysP p n t f) 0,.agg (En.cfV (Rd.shI p.top (Ns.shT p.top (Ns.cntE p n f)) c.sh) c),.agg ([iv r,iv i,iv kp])] rfl rfl rfl) ⟨I0,I0,I0,I0,T0⟩ T0 T0 (pM (mT 29 (.tup [.fr (.agg Ap.z16),iv 4])) (oA (Zt (X := .fr (.agg Ap.z16)) (.tmp 25) rfl rfl) I0 (oA (Zt (X:=iv 4) (.tmp 25) rfl rfl) I0 (ZF rfl (sB 16 11 (.tmp 30) (.agg [iv 0,iv 0,iv 0,iv 0,iv 0,iv 0,iv 0,iv 0,iv 0,iv 0,iv 0,iv 0,iv 0,iv 0,iv 0,iv 0])) ⟨I0,.inr (.inr (.inl ⟨_,rfl,rfl⟩)),T0⟩ ⟨rfl,T0⟩ rfl (pM (aT 31 (iv 4)) ?_)))))))))))))))))))))))
 refine Ze (Zd (Zb (Zb (Za (pM (mT 12 (iv 4)) (oC (Z0 (r:=true) rfl (by decide)) I0 I0 (Ze (Zd (Zm rfl (Zb (Za (ZF rfl (YW [] #[.slice none 0 0,.slice none 0 0,.int .i64 0,.slice none 0 0,.slice none 0 0,.int .i64 0] rfl rfl (by kernel_rfl) rfl) T0 T0 T0 (pM (mT 12 (iv 4)) (ZF rfl (sB 6 8 (.tmp 34) (.agg [.v (.slice none 0 0),.v (.slice none 0 0),iv 0,.v (.slice none 0 0),.v (.slice none 0 0),iv 0])) ⟨I0,I0,T0⟩ ⟨rfl,T0⟩ rfl (pM (aT 35 (iv 4)) (Ze (Zd (Zk (Zj ?_)))))))))))))))))))
 refine Yn (Ym 1 0 3 true 3 1 rfl rfl rfl rfl) ?_
 refine Yn (Ym 1 1 4 true 3 1 rfl rfl rfl rfl) ?_
 refine Yn (Ym 1 3 5 true 3 1 rfl rfl rfl rfl) ?_
 refine Yn (Ym 1 4 6 true 3 1 rfl rfl rfl rfl) ?_
 refine Ye Try.results10 (.cellS rfl rfl U31 rfl (z:=6) (by kernel_rfl) rfl (by decide)) (.tmp rfl) ?_
 exact rfl
theorem Apply_ok {p:Fm} (HP:FmOk p) (HL:FamLen p) {n t f:Int} {c:Cf} (HC:Rd.CgOk c) (hz:(Rd.vcE p n t f c)=0) {r:Nat} (hr:r<p.rules.length) {i:Nat} (hi:i<c.st.length) {kp:Int} (he:En.enB p n t f c (En.hdJ p f c p.msgs.length) ((r:Nat):Int) ((i:Nat):Int) kp=true) (hl:Rd.belB (Ap.af (n-f) c p.rules[r] i kp).se 1048577=true∧Rd.belB (Ap.af (n-f) c p.rules[r] i kp).fa 1048577=true):Ctr Try.prog J 10 [.agg (cFm p),.agg (cSz n t f),.agg (Rd.cCg c),.agg [iv r,iv i,iv kp]] (.tup [.agg (Rd.cCg (Ap.af (n-f) c p.rules[r] i kp)),iv 0]):=by
 obtain ⟨hs,hx⟩:=En.vc_ok hz
 have hc:=En.cf_in hx
 obtain ⟨hv,ha,h8⟩:=Ns.sys_ok hs
 have hai:=Ns.adm_in ha
 have l8:=En.cf_len hc hai h8
 have hsz:=En.val_sizes hv
 refine Zy Try.func10 rfl (by intro X hX;simp only [List.mem_cons,List.not_mem_nil,or_false] at hX;rcases hX with rfl | rfl | rfl | rfl;exact Zi (YC p);exact Zi (YT n t f);exact Zi (Rd.plain_cg c);exact Zi (fun X hX=>by simp only [List.mem_cons,List.not_mem_nil,or_false] at hX;rcases hX with rfl | rfl | rfl<;>exact .v _)) (n:=39) rfl (by simp) (fun w0 => ?_)
 refine kW 39 [] [(0,.agg (cFm p)),(1,.agg (cSz n t f)),(2,.agg (Rd.cCg c)),(3,.agg [iv r,iv i,iv kp])] (Zb (Za (oA (ZV (X := .agg (cFm p)) (.tmp 0) rfl rfl rfl) I0 (oA (ZV (X := .agg (cSz n t f)) (.tmp 1) rfl rfl rfl) I0 (oA (ZV (X := .agg (Rd.cCg c)) (.tmp 2) rfl rfl rfl) I0 (oA (ZV (X := .agg [iv r,iv i,iv kp]) (.tmp 3) rfl rfl rfl) I0 (ZF rfl (ZJ (z := .agg #[.slice none 0 0,.slice none 0 0,.int .i64 0,.slice none 0 0,.slice none 0 0,.int .i64 0]) (k:=1) rfl (by kernel_rfl)) T0 T0 rfl (pM (aC (.int .i64 0)) (Ze (Zd (Zb (Za (oA (Zq (z:=10) (.tmp 4) rfl U27 rfl (by kernel_rfl) rfl rfl) I0 (oA (Zq (z:=3) (.tmp 5) rfl U29 rfl (by kernel_rfl) rfl rfl) I0 (oA (Zq (z:=6) (.tmp 6) rfl U31 rfl (by kernel_rfl) rfl rfl) I0 (ZF rfl (Kx (c := .func 23) (xs := #[.tmp 14,.tmp 15,.tmp 16]) (open_V HP HC hs hx) rfl (by kernel_rfl) rfl (Xs:=[.agg (cFm p),.agg (cSz n t f),.agg (Rd.cCg c)]) rfl rfl) ⟨I0,I0,I0,I0,T0⟩ T0 T0 (pM (mT 17 (.tup [.el (En.sysP p n t f) 0,.agg (En.cfV (Rd.shI p.top (Ns.shT p.top (Ns.cntE p n f)) c.sh) c),iv 0])) (oA (Zt (X := .el (En.sysP p n t f) 0) (.tmp 13) rfl rfl) I0 (oA (Zt (X := .agg (En.cfV (Rd.shI p.top (Ns.shT p.top (Ns.cntE p n f)) c.sh) c)) (.tmp 13) rfl rfl) I0 (oA (Zt (X:=iv 0) (.tmp 13) rfl rfl) I0 (ZF rfl (ZJ (z := .agg #[.int .i64 0,.int .i64 0,.int .i64 0,.int .i64 0,.int .i64 0,.int .i64 0,.int .i64 0,.int .i64 0,.int .i64 0,.int .i64 0,.int .i64 0,.int .i64 0,.int .i64 0,.int .i64 0,.int .i64 0,.int .i64 0]) (k:=2) rfl (by kernel_rfl)) T0 T0 rfl (pM (aT 18 (.el (En.sysP p n t f) 0)) (ZF rfl (sB 16 11 (.tmp 19) (.agg (En.cfV (Rd.shI p.top (Ns.shT p.top (Ns.cntE p n f)) c.sh) c))) ⟨I0,I0,T0⟩ ⟨rfl,T0⟩ rfl ?_)))))))))))))))))))))))
 refine pM (aT 20 (iv 0)) (Ze (Zd (Zb (Zb (Za (pM (mT 12 (iv 0)) (oC (Z0 (r:=false) rfl (by decide)) I0 I0 (Ze (Zd (Zp rfl (Zn (Zd (Zb (Za (pM (mT 10 (.el (En.sysP p n t f) 0)) (oB (lS (En.cfV (Rd.shI p.top (Ns.shT p.top (Ns.cntE p n f)) c.sh) c) 16 11 U78) I0 rfl (oA (Zq (z:=3) (.tmp 7) rfl U35 rfl (by kernel_rfl) rfl rfl) I0 (ZF rfl (sc #[.tmp 26,.tmp 27,.tmp 28] [] (apply_ok HL hc hv l8 ⟨by omega,by omega⟩ hr hi he hl) [.el (En.sysP p n t f) 0,.agg (En.cfV (Rd.shI p.top (Ns.shT p.top (Ns.cntE p n f)) c.sh) c),.agg ([iv r,iv i,iv kp])] rfl rfl rfl) ⟨I0,I0,I0,I0,T0⟩ T0 T0 (pM (mT 29 (.tup [.fr (.agg (En.cfV (Rd.shI p.top (Ns.shT p.top (Ns.cntE p n f)) c.sh) (Ap.af (n-f) c p.rules[r] i kp))),iv 0])) (oA (Zt (X := .fr (.agg (En.cfV (Rd.shI p.top (Ns.shT p.top (Ns.cntE p n f)) c.sh) (Ap.af (n-f) c p.rules[r] i kp)))) (.tmp 25) rfl rfl) I0 (oA (Zt (X:=iv 0) (.tmp 25) rfl rfl) I0 (ZF rfl (sB 16 11 (.tmp 30) (.agg [iv (Rd.shI p.top (Ns.shT p.top (Ns.cntE p n f)) c.sh),iv ((Ap.af (n-f) c p.rules[r] i kp).st.getD 0 0),iv ((Ap.af (n-f) c p.rules[r] i kp).st.getD 1 0),iv ((Ap.af (n-f) c p.rules[r] i kp).st.getD 2 0),iv ((Ap.af (n-f) c p.rules[r] i kp).st.getD 3 0),iv ((Ap.af (n-f) c p.rules[r] i kp).st.getD 4 0),iv ((Ap.af (n-f) c p.rules[r] i kp).st.getD 5 0),iv ((Ap.af (n-f) c p.rules[r] i kp).st.getD 6 0),iv ((Ap.af (n-f) c p.rules[r] i kp).st.getD 7 0),iv ((Ap.af (n-f) c p.rules[r] i kp).se.getD 0 0),iv ((Ap.af (n-f) c p.rules[r] i kp).se.getD 1 0),iv ((Ap.af (n-f) c p.rules[r] i kp).se.getD 2 0),iv ((Ap.af (n-f) c p.rules[r] i kp).fa.getD 0 0),iv ((Ap.af (n-f) c p.rules[r] i kp).fa.getD 1 0),iv ((Ap.af (n-f) c p.rules[r] i kp).fa.getD 2 0),iv ((Ap.af (n-f) c p.rules[r] i kp).val)])) ⟨I0,.inr (.inr (.inl ⟨_,rfl,rfl⟩)),T0⟩ ⟨rfl,T0⟩ rfl (pM (aT 31 (iv 0)) ?_)))))))))))))))))))))))
 refine Ze (Zd (Zb (Zb (Za (pM (mT 12 (iv 0)) (oC (Z0 (r:=false) rfl (by decide)) I0 I0 (Ze (Zd (Zp rfl (Zn (Zd (Zb (Za (pM (mT 10 (.el (En.sysP p n t f) 0)) (oB (lS ([iv (Rd.shI p.top (Ns.shT p.top (Ns.cntE p n f)) c.sh),iv ((Ap.af (n-f) c p.rules[r] i kp).st.getD 0 0),iv ((Ap.af (n-f) c p.rules[r] i kp).st.getD 1 0),iv ((Ap.af (n-f) c p.rules[r] i kp).st.getD 2 0),iv ((Ap.af (n-f) c p.rules[r] i kp).st.getD 3 0),iv ((Ap.af (n-f) c p.rules[r] i kp).st.getD 4 0),iv ((Ap.af (n-f) c p.rules[r] i kp).st.getD 5 0),iv ((Ap.af (n-f) c p.rules[r] i kp).st.getD 6 0),iv ((Ap.af (n-f) c p.rules[r] i kp).st.getD 7 0),iv ((Ap.af (n-f) c p.rules[r] i kp).se.getD 0 0),iv ((Ap.af (n-f) c p.rules[r] i kp).se.getD 1 0),iv ((Ap.af (n-f) c p.rules[r] i kp).se.getD 2 0),iv ((Ap.af (n-f) c p.rules[r] i kp).fa.getD 0 0),iv ((Ap.af (n-f) c p.rules[r] i kp).fa.getD 1 0),iv ((Ap.af (n-f) c p.rules[r] i kp).fa.getD 2 0),iv ((Ap.af (n-f) c p.rules[r] i kp).val)]) 16 11 U78) I0 rfl (oD (sc #[.tmp 36,.tmp 37] [] (write_c (Ap.af_ok HL hc hv HC l8 hr hi (kp:=kp)) (by show _=(((Ap.stA c p.rules[r] i kp).length:Nat):Int);rw [Ap.stA_len];exact hc.ln.symm) (by show (Ap.stA c p.rules[r] i kp).length≤8;rw [Ap.stA_len];exact l8) hsz.2.2.1 (by show (Ap.seA _ _ _ _ _).length=_;rw [Ap.seA_len];exact hc.ls) (by show (Ap.faA _ _ _ _ _).length=_;rw [Ap.faA_len];exact hc.lf) hc.co (by have h4:=Ap.shI_T hc hv;exact h4) (by have h4:=Ap.sh_no hc;exact h4)) [.el (En.sysP p n t f) 0,.agg [iv (Rd.shI p.top (Ns.shT p.top (Ns.cntE p n f)) c.sh),iv ((Ap.af (n-f) c p.rules[r] i kp).st.getD 0 0),iv ((Ap.af (n-f) c p.rules[r] i kp).st.getD 1 0),iv ((Ap.af (n-f) c p.rules[r] i kp).st.getD 2 0),iv ((Ap.af (n-f) c p.rules[r] i kp).st.getD 3 0),iv ((Ap.af (n-f) c p.rules[r] i kp).st.getD 4 0),iv ((Ap.af (n-f) c p.rules[r] i kp).st.getD 5 0),iv ((Ap.af (n-f) c p.rules[r] i kp).st.getD 6 0),iv ((Ap.af (n-f) c p.rules[r] i kp).st.getD 7 0),iv ((Ap.af (n-f) c p.rules[r] i kp).se.getD 0 0),iv ((Ap.af (n-f) c p.rules[r] i kp).se.getD 1 0),iv ((Ap.af (n-f) c p.rules[r] i kp).se.getD 2 0),iv ((Ap.af (n-f) c p.rules[r] i kp).fa.getD 0 0),iv ((Ap.af (n-f) c p.rules[r] i kp).fa.getD 1 0),iv ((Ap.af (n-f) c p.rules[r] i kp).fa.getD 2 0),iv ((Ap.af (n-f) c p.rules[r] i kp).val)]] rfl rfl rfl) I0 I0 I0 (ZF rfl (sB 6 8 (.tmp 38) (.agg [.fr (Zc ((Ap.af (n-f) c p.rules[r] i kp).sh)),.fr (Zc ((Ap.af (n-f) c p.rules[r] i kp).st)),iv ((Ap.af (n-f) c p.rules[r] i kp).cor),.fr (Zc ((Ap.af (n-f) c p.rules[r] i kp).se)),.fr (Zc ((Ap.af (n-f) c p.rules[r] i kp).fa)),iv ((Ap.af (n-f) c p.rules[r] i kp).val)])) ⟨I0,.inr (.inr (.inl ⟨_,rfl,rfl⟩)),T0⟩ ⟨rfl,T0⟩ rfl (pM (aC (.int .i64 0)) (Ze (Zd (Zk ?_)))))))))))))))))))))
 refine Ye Try.results10 (.cellS rfl rfl U31 rfl (z:=6) (by kernel_rfl) rfl (by decide)) (.tmp rfl) ?_
 exact rfl
theorem Apply_c {p:Fm} (HP:FmOk p) (HL:FamLen p) {n t f:Int} {c:Cf} (HC:Rd.CgOk c) {x y kp:Int}:Ctr Try.prog J 10 [.agg (cFm p),.agg (cSz n t f),.agg (Rd.cCg c),.agg [iv x,iv y,iv kp]] (.tup [.agg (Rd.cCg (Ap.apC p n t f c x y kp)),iv (Ap.apE p n t f c x y kp)]):=by
  by_cases hz:(Rd.vcE p n t f c)=0
  · cases he:En.enB p n t f c (En.hdJ p f c p.msgs.length) x y kp with
    | false =>
      rw [Ap.apC_no hz he,Ap.apE_no hz he]
      exact Apply_no HP HL HC hz he
    | true =>
      obtain ⟨r,i,hr,hi,rfl,rfl⟩:=Ap.en_at he
      by_cases hl:Rd.belB (Ap.af (n-f) c p.rules[r] i kp).se 1048577=true∧Rd.belB (Ap.af (n-f) c p.rules[r] i kp).fa 1048577=true
      · rw [Ap.apC_ok hz he hr hl,Ap.apE_ok hz he hr hl]
        exact Apply_ok HP HL HC hz hr hi he hl
      rw [Ap.apC_lg hz he hr hl,Ap.apE_lg hz he hr hl]
      exact Apply_lg HP HL HC hz hr hi he hl
  rw [Ap.apC_err hz,Ap.apE_err hz]
  exact Apply_err HP HL HC hz
end Go.Proofs.Ytengacodacejiaa
namespace Go.Proofs.Ytengacodacejiaa
open Go.RowKit Go.Deep
section
variable {P:Program} {J:World→Prop} {o:Oper}
theorem sp_conv {src dst:TypeId} {x:Operand} {k k':IntKind} {n c:Int} {d:TypeDesc} (ho:o.op = .convert src dst x) (hs:P.underlying src=some d) (hd:P.underlying dst=some (.int k')) (hc:k'.wrap n=c):ASpec P J o [(x,.v (.int k n))] [] (.v (.int k' c)) .no :=
  ZM fun ρ B a w _ ha _=>by
    subst hc
    have h1:=(ha (x,.v (.int k n)) (by simp)).v_inv
    refine ⟨_,?_,.pu (.v _)⟩
    simp only [execOp,ho,h1]
    exact Yc (by simp [convert,run_underlying hs,run_underlying hd,Conv.intToInt])
end
def uN (n:Int):Int:=IntKind.u64.wrap n
theorem uN_nonneg (n:Int):0≤uN n:=Int.emod_nonneg _ (by decide)
theorem i64_small {x:Nat} (h:x≤100):IntKind.i64.wrap (x:Int)=x:=by
  show (if (true&&decide ((x:Int) % 18446744073709551616≥9223372036854775808))=true then (x:Int) % 18446744073709551616-18446744073709551616 else (x:Int) % 18446744073709551616)=x
  rw [if_neg (by simp;omega)];omega
theorem rulesE_all {q:Fm}:∀ (f i:Nat),rulesE q i f=0→∀ k,i≤k→k<i+f→ruleE q k (q.rules.getD k default)=0
  | 0,i,_,k,a,b=>absurd b (by omega)
  | f+1,i,e,k,a,b=>by
    unfold rulesE at e
    split at e
    · rename_i e1
      by_cases x:i=k
      · subst x;exact e1
      exact rulesE_all f (i+1) e k (by omega) (by omega)
    exact absurd e (by assumption)
variable {J:World→Prop}
end Go.Proofs.Ytengacodacejiaa
namespace Go.Proofs.Ytengacodacejiaa
open Go.RowKit Go.Deep Go.ChangeShapes Go.WideShapes Go.ChangeAt Go.Joins
theorem Ki:Try.prog.cellsOf 3=1:=by kernel_rfl
theorem zcells_ints:Try.prog.cellsOf 24=1:=by kernel_rfl
set_option maxRecDepth 100000 in
theorem zint_of_trod {H:Type} {enc:TypeId × Value→H} {w:World} {base:Nat} {sp:Nat→Bool} {held:Bool} {n:Nat} {v:Value} {x:DataW H × List MemPlace} (h:DataW.trod enc Try.prog w base sp held n 3 [v]=some x):∃ c,v = .int .i64 c∧I64 c:=by
  obtain ⟨c,e1,_,e3⟩:=DataW.trod_int Try.underlying3 h
  simp at e1
  exact ⟨c,e1,I64.of_wf e3⟩
theorem cells_cfg:Try.prog.cellsOf 31=6:=by kernel_rfl
set_option maxRecDepth 100000 in
theorem cfg_of_trod {H:Type} {enc:TypeId × Value→H} {w:World} {base:Nat} {sp:Nat→Bool} {held:Bool} {n:Nat} {cs:List Value} {x:DataW H × List MemPlace} (h:DataW.trod enc Try.prog w base sp held n 31 cs=some x) :
    ∃ u0 xs0 u1 xs1 c2 u3 xs3 u4 xs4 c5,cs=[u0,u1,.int .i64 c2,u3,u4,.int .i64 c5]∧IsInts 0 w u0 xs0∧IsInts 0 w u1 xs1∧I64 c2∧IsInts 0 w u3 xs3∧IsInts 0 w u4 xs4∧I64 c5:=by
  obtain ⟨ys,m,_,_,hlen,_,hf⟩:=DataW.trod_struct Try.underlying31 h
  rw [cells_cfg] at hlen
  match cs,hlen with
  | [v0,v1,v2,v3,v4,v5],_ =>
    have h0:DataW.trod enc Try.prog w base sp held m 24 (([v0,v1,v2,v3,v4,v5].drop 0).take (Try.prog.cellsOf 24))=ys[0]? := hf 0 _ rfl
    rw [zcells_ints] at h0
    simp only [List.drop_zero,List.take_succ_cons,List.take_zero] at h0
    have h1:DataW.trod enc Try.prog w base sp held m 24 (([v0,v1,v2,v3,v4,v5].drop 1).take (Try.prog.cellsOf 24))=ys[1]? := hf 1 _ rfl
    rw [zcells_ints] at h1
    simp only [List.drop_succ_cons,List.drop_zero,List.take_succ_cons,List.take_zero] at h1
    have h2:DataW.trod enc Try.prog w base sp held m 3 (([v0,v1,v2,v3,v4,v5].drop 2).take (Try.prog.cellsOf 3))=ys[2]? := hf 2 _ rfl
    rw [Ki] at h2
    simp only [List.drop_succ_cons,List.drop_zero,List.take_succ_cons,List.take_zero] at h2
    have h3:DataW.trod enc Try.prog w base sp held m 24 (([v0,v1,v2,v3,v4,v5].drop 3).take (Try.prog.cellsOf 24))=ys[3]? := hf 3 _ rfl
    rw [zcells_ints] at h3
    simp only [List.drop_succ_cons,List.drop_zero,List.take_succ_cons,List.take_zero] at h3
    have h4:DataW.trod enc Try.prog w base sp held m 24 (([v0,v1,v2,v3,v4,v5].drop 4).take (Try.prog.cellsOf 24))=ys[4]? := hf 4 _ rfl
    rw [zcells_ints] at h4
    simp only [List.drop_succ_cons,List.drop_zero,List.take_succ_cons,List.take_zero] at h4
    have h5:DataW.trod enc Try.prog w base sp held m 3 (([v0,v1,v2,v3,v4,v5].drop 5).take (Try.prog.cellsOf 3))=ys[5]? := hf 5 _ rfl
    rw [Ki] at h5
    simp only [List.drop_succ_cons,List.drop_zero,List.take_succ_cons,List.take_zero] at h5
    have hx:∀ i,i<6→∃ y,ys[i]? = some y:=fun i hi=>⟨ys[i]'(by simp at *;omega),List.getElem?_eq_getElem _⟩
    obtain ⟨y0,e0⟩:=hx 0 (by omega)
    rw [e0] at h0
    obtain ⟨xs0,q0⟩:=Z8 Try.underlying24 Try.underlying3 Ki h0
    obtain ⟨y1,e1⟩:=hx 1 (by omega)
    rw [e1] at h1
    obtain ⟨xs1,q1⟩:=Z8 Try.underlying24 Try.underlying3 Ki h1
    obtain ⟨y2,e2⟩:=hx 2 (by omega)
    rw [e2] at h2
    obtain ⟨c2,rfl,q2⟩:=zint_of_trod h2
    obtain ⟨y3,e3⟩:=hx 3 (by omega)
    rw [e3] at h3
    obtain ⟨xs3,q3⟩:=Z8 Try.underlying24 Try.underlying3 Ki h3
    obtain ⟨y4,e4⟩:=hx 4 (by omega)
    rw [e4] at h4
    obtain ⟨xs4,q4⟩:=Z8 Try.underlying24 Try.underlying3 Ki h4
    obtain ⟨y5,e5⟩:=hx 5 (by omega)
    rw [e5] at h5
    obtain ⟨c5,rfl,q5⟩:=zint_of_trod h5
    exact ⟨v0,xs0,v1,xs1,c2,v3,xs3,v4,xs4,c5,rfl,q0,q1,q2,q3,q4,q5⟩
theorem cells_at:Try.prog.cellsOf 33=19:=by kernel_rfl
def IsAt (w:World) (v:Value) (q:Fm) (n t f:Int) (c:Cf):Prop :=
  ∃ fs cs:List Value,v = .agg (fs++([Value.int .i64 n,Value.int .i64 t,Value.int .i64 f]++cs)).toArray∧IsFam 0 w (.agg fs.toArray) q∧IsCf 0 w (.agg cs.toArray) c
set_option maxRecDepth 100000 in
theorem at_of_trod {H:Type} {enc:TypeId × Value→H} {w:World} {base:Nat} {sp:Nat→Bool} {n:Nat} {cs:List Value} {x:DataW H × List MemPlace} (h:DataW.trod enc Try.prog w base sp true n 33 cs=some x) :
    ∃ q a b d c,IsAt w (.agg cs.toArray) q a b d c:=by
  obtain ⟨ys,m,_,_,hlen,_,hf⟩:=DataW.trod_struct Try.underlying33 h
  rw [cells_at] at hlen
  have h0:DataW.trod enc Try.prog w base sp true m 27 ((cs.drop 0).take (Try.prog.cellsOf 27))=ys[0]? := hf 0 _ rfl
  rw [cells_famE] at h0
  have h1:DataW.trod enc Try.prog w base sp true m 29 ((cs.drop 10).take (Try.prog.cellsOf 29))=ys[1]? := hf 1 _ rfl
  rw [cells_size] at h1
  have h2:DataW.trod enc Try.prog w base sp true m 31 ((cs.drop 13).take (Try.prog.cellsOf 31))=ys[2]? := hf 2 _ rfl
  rw [cells_cfg] at h2
  have hx:∀ i,i<3→∃ y,ys[i]? = some y:=fun i hi=>⟨ys[i]'(by simp at *;omega),List.getElem?_eq_getElem _⟩
  obtain ⟨y0,e0⟩:=hx 0 (by omega)
  rw [e0] at h0
  obtain ⟨v,q,rfl,hq⟩:=fam_of_trod h0
  obtain ⟨y1,e1⟩:=hx 1 (by omega)
  rw [e1] at h1
  obtain ⟨c0,c1,c2,s1,_,_,_⟩:=size_of_trod h1
  obtain ⟨y2,e2⟩:=hx 2 (by omega)
  rw [e2] at h2
  obtain ⟨u0,xs0,u1,xs1,g2,u3,xs3,u4,xs4,g5,s2,q0,q1,q2,q3,q4,q5⟩:=cfg_of_trod h2
  refine ⟨q,c0,c1,c2,⟨xs0,xs1,g2,xs3,xs4,g5⟩,cs.take 10,(cs.drop 13).take 6,?_,?_,?_⟩
  · rw [← s1]
    have d:(cs.drop 13).take 6=cs.drop 13:=List.take_of_length_le (by rw [List.length_drop,hlen];decide)
    rw [d,show cs.drop 13=(cs.drop 10).drop 3 by rw [List.drop_drop],List.take_append_drop,List.take_append_drop]
  · simpa using hq
  exact ⟨u0,u1,u3,u4,by rw [s2],q0,q1,q2,q3,q4,q5⟩
set_option maxRecDepth 100000 in
theorem arg_at {H:Type} {enc:TypeId × Value→H} {w:World} {r:Reach} {b0:Nat} {v:Value} {d:DataW H} {p:List MemPlace} (hv:Value.okWide Try.prog w r b0 33 v) (h:DataW.Trod enc Try.prog w 0 (fun _=>true) true 33 v d p) :
    ∃ q a b d c,IsAt w v q a b d c:=by
  obtain ⟨cs,rfl,_⟩:=okWide_struct Try.underlying33 hv
  obtain ⟨fuel,hf⟩:=h
  obtain ⟨q,a,b,d,c,hq⟩:=at_of_trod hf
  exact ⟨q,a,b,d,c,by simpa [Value.cells] using hq⟩
end Go.Proofs.Ytengacodacejiaa
namespace Go.Proofs.Ytengacodacejiaa
open Go.RowKit Go.Deep
set_option maxHeartbeats 12800000
def wideCf (q:Cf):Bool:=decide (100<q.sh.length)||decide (100<q.st.length)||decide (100<q.se.length)||decide (100<q.fa.length)
theorem Wide_any {lo:Nat} {w:World} {v:Value} {q:Cf} (h:IsCf lo w v q) :
    Calls Try.prog 7 #[v] w fun e w'=>e = .returned (.bool (wideCf q))∧Below w.heap.size w w':=by
  obtain ⟨u0,u1,u3,u4,rfl,h0,h1,_,h3,h4,_⟩:=h
  have E:Hid (wideCf q=(decide (100<q.sh.length)||decide (100<q.st.length)||decide (100<q.se.length)||decide (100<q.fa.length))):=(rfl:wideCf q=_)
  have l0:q.sh.length≤9223372036854775807:=by obtain ⟨_,_,_,hh,hm,_⟩:=h0;unfold maxLen at hm;omega
  obtain ⟨a0,c0,rfl⟩:=h0.shape
  have l1:q.st.length≤9223372036854775807:=by obtain ⟨_,_,_,hh,hm,_⟩:=h1;unfold maxLen at hm;omega
  obtain ⟨a1,c1,rfl⟩:=h1.shape
  have l3:q.se.length≤9223372036854775807:=by obtain ⟨_,_,_,hh,hm,_⟩:=h3;unfold maxLen at hm;omega
  obtain ⟨a3,c3,rfl⟩:=h3.shape
  have l4:q.fa.length≤9223372036854775807:=by obtain ⟨_,_,_,hh,hm,_⟩:=h4;unfold maxLen at hm;omega
  obtain ⟨a4,c4,rfl⟩:=h4.shape
  clear h0 h1 h3 h4
  by_cases t0:100<q.sh.length
  · have i0:(100:Int)<((q.sh.length:Nat):Int):=by omega
    go_enter Try.func7,Try.ntmps7
    go_wp2_with fail
    go_ret
    exact ⟨Zh (by rw [E.out,decide_eq_true t0];simp),Zf _ _⟩
  have i0:¬ (100:Int)<((q.sh.length:Nat):Int):=by omega
  by_cases t1:100<q.st.length
  · have i1:(100:Int)<((q.st.length:Nat):Int):=by omega
    go_enter Try.func7,Try.ntmps7
    go_wp2_with fail
    go_ret
    exact ⟨Zh (by rw [E.out,decide_eq_true t1];simp),Zf _ _⟩
  have i1:¬ (100:Int)<((q.st.length:Nat):Int):=by omega
  by_cases t3:100<q.se.length
  · have i3:(100:Int)<((q.se.length:Nat):Int):=by omega
    go_enter Try.func7,Try.ntmps7
    go_wp2_with fail
    go_ret
    exact ⟨Zh (by rw [E.out,decide_eq_true t3];simp),Zf _ _⟩
  have i3:¬ (100:Int)<((q.se.length:Nat):Int):=by omega
  by_cases t4:100<q.fa.length
  · have i4:(100:Int)<((q.fa.length:Nat):Int):=by omega
    go_enter Try.func7,Try.ntmps7
    go_wp2_with fail
    go_ret
    exact ⟨Zh (by rw [E.out,decide_eq_true t4];simp),Zf _ _⟩
  have i4:¬ (100:Int)<((q.fa.length:Nat):Int):=by omega
  go_enter Try.func7,Try.ntmps7
  go_wp2_with fail
  go_ret
  exact ⟨Zh (by rw [E.out,decide_eq_false t0,decide_eq_false t1,decide_eq_false t3,decide_eq_false t4];simp),Zf _ _⟩
end Go.Proofs.Ytengacodacejiaa
namespace Go.Proofs.Ytengacodacejiaa
theorem cmpI_anti:∀ (xs ys:List Int),cmpI ys xs = -cmpI xs ys
  | [],[]=>rfl
  | [],_::_=>rfl
  | _::_,[]=>rfl
  | x::xs,y::ys=>by
    simp only [cmpI]
    by_cases h1:x<y
    · rw [if_neg (by omega),if_pos h1,if_pos h1];rfl
    by_cases h2:y<x
    · rw [if_pos h2,if_neg h1,if_pos h2]
    rw [if_neg h2,if_neg h1,if_neg h1,if_neg h2];exact cmpI_anti xs ys
theorem cmpN_vals (x y:Int):(cmpN x y = -1∧x<y)∨(cmpN x y=0∧x=y)∨(cmpN x y=1∧y<x):=by
  unfold cmpN
  split
  · exact .inl ⟨rfl,by assumption⟩
  split
  · exact .inr (.inr ⟨rfl,by assumption⟩)
  exact .inr (.inl ⟨rfl,by omega⟩)
theorem cmpN_anti (x y:Int):cmpN y x = -cmpN x y:=by
  have:=cmpN_vals x y;have:=cmpN_vals y x;omega
theorem orL_neg:∀ xs:List Int,orL (xs.map (- ·)) = -orL xs
  | []=>rfl
  | x::xs=>by
    simp only [List.map_cons,orL,orL_neg xs]
    by_cases h:x=0
    · rw [if_pos h,if_pos (by omega)]
    rw [if_neg h,if_neg (by omega)]
end Go.Proofs.Ytengacodacejiaa
namespace Go.Proofs.Ytengacodacejiaa
open Go.RowKit Go.Deep
namespace Rd
section
variable {J:World→Prop} {F ok:Nat→Prop} {w:World} {lo:Nat}
structure CgIn (c:Cf):Prop where
  sh:InOk c.sh
  st:InOk c.st
  se:InOk c.se
  fa:InOk c.fa
  cor:I64 c.cor
  val:I64 c.val
theorem cf_in {v:Value} {c:Cf} (h:IsCf lo w v c):CgIn c:=by
  obtain ⟨_,_,_,_,_,h0,h1,h2,h3,h4,h5⟩:=h
  exact ⟨h0.ok,h1.ok,h3.ok,h4.ok,h2,h5⟩
theorem cf_pu (hok:∀ b,lo≤b→b<w.heap.size→ok b) {v:Value} {c:Cf} (h:IsCf lo w v c):Pu F w ok (.agg (cCg c)) v:=by
  obtain ⟨u0,u1,u3,u4,rfl,h0,h1,_,h3,h4,_⟩:=h
  refine .agg rfl fun j hj => ?_
  match j,hj with
  | 0,_=>exact YA hok h0
  | 1,_=>exact YA hok h1
  | 2,_=>exact .v _
  | 3,_=>exact YA hok h3
  | 4,_=>exact YA hok h4
  | 5,_=>exact .v _
theorem cf_of {v:Value} {c:Cf} (H:CgIn c) (h:Pu F w ok (.agg (cCg c)) v):IsCf 0 w v c:=by
  obtain ⟨vs,rfl,hl,hv⟩:=Kb h
  match vs,hl,hv with
  | [v0,v1,v2,v3,v4,v5],_,hv =>
    have e2:=(hv 2 (by simp [cCg])).v_inv
    have e5:=(hv 5 (by simp [cCg])).v_inv
    simp only [List.getD_cons_succ,List.getD_cons_zero] at e2 e5
    subst e2 e5
    exact ⟨v0,v1,v3,v4,rfl,YN H.sh (fun _ _=>Nat.zero_le _) (hv 0 (by simp [cCg])),YN H.st (fun _ _=>Nat.zero_le _) (hv 1 (by simp [cCg])),H.cor,YN H.se (fun _ _=>Nat.zero_le _) (hv 3 (by simp [cCg])),YN H.fa (fun _ _=>Nat.zero_le _) (hv 4 (by simp [cCg])),H.val⟩
theorem agg_app {cs ds:List AV} {us vs:List Value} (h1:Pu F w ok (.agg cs) (.agg us.toArray)) (h2:Pu F w ok (.agg ds) (.agg vs.toArray)):Pu F w ok (.agg (cs++ds)) (.agg (us++vs).toArray):=by
  obtain ⟨us',e1,l1,p1⟩:=Kb h1
  obtain ⟨vs',e2,l2,p2⟩:=Kb h2
  obtain rfl:us=us':=by simpa using e1
  obtain rfl:vs=vs':=by simpa using e2
  refine .agg (by simp [l1,l2]) fun j hj => ?_
  by_cases hj':j<cs.length
  · rw [List.getElem_append_left hj']
    have:=p1 j hj'
    simpa [Array.getD_eq_getD_getElem?,List.getD_eq_getElem?_getD,List.getElem?_append_left (show j<us.length by omega)] using this
  rw [List.getElem_append_right (by omega)]
  have:=p2 (j-cs.length) (by simp at hj;omega)
  simpa [Array.getD_eq_getD_getElem?,List.getD_eq_getElem?_getD,List.getElem?_append_right (show us.length≤j by omega),l1] using this
theorem at_pu {v:Value} {q:Fm} {n t f:Int} {c:Cf} (h:IsAt w v q n t f c):Pu (fun _=>True) w (fun b=>b<w.heap.size) (.agg (cFm q++(cSz n t f++cCg c))) v:=by
  obtain ⟨fs,cs,rfl,hF,hC⟩:=h
  refine agg_app (famw hF) (agg_app (.agg rfl fun j hj => ?_) (cf_pu (fun _ _ h=>h) hC))
  match j,hj with
  | 0,_=>exact .v _
  | 1,_=>exact .v _
  | 2,_=>exact .v _
theorem Wide_c {c:Cf} (H:CgIn c):Ctr Try.prog J 7 [.agg (cCg c)] (bv (wideCf c)):=ctr1 fun w v _ h=>(Wide_any (cf_of H h)).mono fun _ _=>ret_sc
theorem cmpCf_same (c:Cf):cmpCf c c=0:=by
  have h:cmpCf c c = -cmpCf c c:=by
    conv=>lhs;unfold cmpCf
    unfold cmpCf
    rw [← orL_neg]
    simp only [List.map_cons,List.map_nil]
    rw [← cmpI_anti c.sh c.sh,← cmpI_anti c.st c.st,← cmpI_anti c.se c.se,← cmpI_anti c.fa c.fa,← cmpN_anti c.cor c.cor,← cmpN_anti c.val c.val]
  omega
theorem cg_ok {c:Cf} (H:CgIn c) (h:wideCf c=false):CgOk c:=by
  unfold wideCf at h
  simp only [Bool.or_eq_false_iff,decide_eq_false_iff_not] at h
  exact ⟨H.sh,H.st,H.se,H.fa,by omega,by omega,by omega,by omega⟩
end
end Rd
namespace Pe
open En Ap
def oth (i a b:Int):Int:=if i=a then b else if i=b then a else i
def sg (a b i:Nat):Nat:=if i=a then b else if i=b then a else i
def swL (l:List Int) (a b:Nat):List Int:=(l.set a (l.getD b 0)).set b (l.getD a 0)
def swC (c:Cf) (a b:Nat):Cf:=⟨c.sh,swL c.st a b,c.cor,c.se,c.fa,c.val⟩
def ix (s cor:Int):Nat:=(uN s).toNat % cor.toNat
theorem ix_lt {s cor:Int} (h:0<cor):((ix s cor:Nat):Int)<cor:=by
  unfold ix
  have:=Nat.mod_lt (uN s).toNat (show 0<cor.toNat by omega)
  omega
theorem ix_rem {s cor:Int} (h:0<cor):(uN s).tmod cor=(ix s cor:Nat):=by
  have h1:=uN_nonneg s
  rw [Int.tmod_eq_emod_of_nonneg h1]
  unfold ix
  rw [Int.natCast_emod,Int.toNat_of_nonneg h1,Int.toNat_of_nonneg (by omega)]
theorem u64_int {x:Int} (h0:0≤x) (h:x≤1048576):IntKind.u64.wrap x=x:=by
  show x % 18446744073709551616=x;omega
section
variable {a b:Nat}
theorem oth_nat (i:Nat):oth ((i:Nat):Int) a b=((sg a b i:Nat):Int):=by
  unfold oth sg
  by_cases h:i=a
  · rw [if_pos h,if_pos (by omega)]
  rw [if_neg h,if_neg (by omega)]
  by_cases h2:i=b
  · rw [if_pos h2,if_pos (by omega)]
  rw [if_neg h2,if_neg (by omega)]
theorem oth_oth (x:Int):oth (oth x a b) a b=x:=by
  unfold oth
  by_cases h:x=(a:Int)
  · rw [if_pos h]
    by_cases h2:(b:Int)=a
    · rw [if_pos h2];omega
    rw [if_neg h2,if_pos rfl];exact h.symm
  rw [if_neg h]
  by_cases h2:x=(b:Int)
  · rw [if_pos h2,if_pos rfl];exact h2.symm
  rw [if_neg h2,if_neg h,if_neg h2]
theorem sg_sg (i:Nat):sg a b (sg a b i)=i:=by
  have h:=oth_oth (a:=a) (b:=b) ((i:Nat):Int)
  rw [oth_nat,oth_nat] at h
  omega
theorem sg_eq {i j:Nat}:sg a b i=sg a b j↔i=j:=⟨fun h=>by have:=congrArg (sg a b) h;simpa only [sg_sg] using this,fun h=>by rw [h]⟩
theorem sg_lt {i m:Nat} (ha:a<m) (hb:b<m) (h:i<m):sg a b i<m:=by unfold sg;split;exact hb;split;exact ha;exact h
theorem sg_cor {i:Nat} {cor:Int} (ha:((a:Nat):Int)<cor) (hb:((b:Nat):Int)<cor):((sg a b i:Nat):Int)<cor↔((i:Nat):Int)<cor:=by
  unfold sg
  by_cases h:i=a
  · rw [if_pos h,h];exact ⟨fun _=>ha,fun _=>hb⟩
  rw [if_neg h]
  by_cases h2:i=b
  · rw [if_pos h2,h2];exact ⟨fun _=>hb,fun _=>ha⟩
  rw [if_neg h2]
theorem isP_oth {m:Nat} {x:Int} (ha:a<m) (hb:b<m):isP m (oth x a b)=isP m x:=by
  unfold isP oth
  by_cases h:x=(a:Int)
  · rw [if_pos h,h,decide_eq_true (by omega),decide_eq_true (by omega),decide_eq_true (by omega),decide_eq_true (by omega)]
  rw [if_neg h]
  by_cases h2:x=(b:Int)
  · rw [if_pos h2,h2,decide_eq_true (by omega),decide_eq_true (by omega),decide_eq_true (by omega),decide_eq_true (by omega)]
  rw [if_neg h2]
theorem swL_len (l:List Int) (a b:Nat):(swL l a b).length=l.length:=by unfold swL;rw [List.length_set,List.length_set]
theorem swL_get {l:List Int} (ha:a<l.length) (hb:b<l.length) (j:Nat):(swL l a b).getD j 0=l.getD (sg a b j) 0:=by
  unfold swL
  rw [getD_set (by rw [List.length_set];exact hb),getD_set ha]
  unfold sg
  by_cases h:j=a
  · rw [if_pos h]
    by_cases h2:b=j
    · rw [if_pos h2];congr 1;omega
    rw [if_neg h2,if_pos h.symm]
  rw [if_neg h]
  by_cases h2:j=b
  · rw [if_pos h2,if_pos h2.symm]
  rw [if_neg h2,if_neg (fun e=>h2 e.symm),if_neg (fun e=>h e.symm)]
theorem ext_getD {l l':List Int} (hl:l.length=l'.length) (h:∀ j,j<l.length→l.getD j 0=l'.getD j 0):l=l' :=
  List.ext_getElem hl fun j h1 h2=>by
    have:=h j h1
    rwa [Ct.getD_at h1,Ct.getD_at h2] at this
theorem swL_set {l:List Int} {i:Nat} {x:Int} (ha:a<l.length) (hb:b<l.length) (hi:i<l.length):(swL l a b).set (sg a b i) x=swL (l.set i x) a b:=by
  refine ext_getD (by rw [List.length_set,swL_len,swL_len,List.length_set]) fun j _ => ?_
  rw [getD_set (by rw [swL_len];exact sg_lt ha hb hi),swL_get ha hb,swL_get (by rw [List.length_set];exact ha) (by rw [List.length_set];exact hb),getD_set hi]
  by_cases h:sg a b i=j
  · rw [if_pos h,if_pos (by rw [← h,sg_sg])]
  rw [if_neg h,if_neg fun e=>h (by rw [e,sg_sg])]
theorem map_getD {l:List Int} {g:Int→Int} {j:Nat} (h:j<l.length):(l.map g).getD j 0=g (l.getD j 0):=by
  rw [Ct.getD_at (by rw [List.length_map];exact h),Ct.getD_at h,List.getElem_map]
theorem swL_map {l:List Int} {g:Int→Int} (ha:a<l.length) (hb:b<l.length):(swL l a b).map g=swL (l.map g) a b:=by
  refine ext_getD (by rw [List.length_map,swL_len,swL_len,List.length_map]) fun j hj => ?_
  rw [List.length_map,swL_len] at hj
  rw [map_getD (by rw [swL_len];exact hj),swL_get ha hb,swL_get (by rw [List.length_map];exact ha) (by rw [List.length_map];exact hb),map_getD (sg_lt ha hb hj)]
theorem any_sg {m:Nat} {P Q:Nat→Bool} (ha:a<m) (hb:b<m) (h:∀ j,P (sg a b j)=Q j):(List.range m).any P=(List.range m).any Q:=by
  rw [Bool.eq_iff_iff,List.any_eq_true,List.any_eq_true]
  constructor
  · rintro ⟨j,hj,hP⟩
    exact ⟨sg a b j,List.mem_range.2 (sg_lt ha hb (List.mem_range.1 hj)),by rw [← h,sg_sg];exact hP⟩
  rintro ⟨j,hj,hQ⟩
  exact ⟨sg a b j,List.mem_range.2 (sg_lt ha hb (List.mem_range.1 hj)),by rw [h];exact hQ⟩
end
section
variable {a b:Nat} {c:Cf} (ha:a<c.st.length) (hb:b<c.st.length)
include ha hb
theorem st_sw (j:Nat):(swC c a b).st.getD j 0=c.st.getD (sg a b j) 0:=swL_get ha hb j
theorem st_sg (j:Nat):(swC c a b).st.getD (sg a b j) 0=c.st.getD j 0:=by rw [st_sw ha hb,sg_sg]
theorem faN_sw {r:Ru} {i j:Nat}:faN (swC c a b) r (sg a b i) (sg a b j)=faN c r i j:=by
  unfold faN
  rw [st_sg ha hb]
  simp only [sg_eq]
theorem exY_sw {r:Ru} {i j:Nat}:exY (swC c a b) r (sg a b i) (sg a b j)=exY c r i j:=by
  unfold exY
  rw [st_sg ha hb]
  simp only [sg_eq]
theorem loB_sw {n t f:Int} {r:Ru} {g:Nat→Int} {i:Nat}:loB n t f (swC c a b) r g (sg a b i)=loB n t f c r g i:=by
  unfold loB
  have e:(swC c a b).st.length=c.st.length:=swL_len _ _ _
  have e1:rdN (swC c a b) r=rdN c r:=rfl
  have e2:(List.range c.st.length).any (faN (swC c a b) r (sg a b i))=(List.range c.st.length).any (faN c r i):=any_sg ha hb fun j=>faN_sw ha hb
  have e3:exU (swC c a b) r (sg a b i) c.st.length=exU c r i c.st.length:=by
    unfold exU
    rw [any_sg ha hb fun j=>exY_sw ha hb]
  rw [e,e1,e2,e3]
theorem ptB_sw {r:Ru} {i:Nat} {k:Int}:ptB (swC c a b) r (sg a b i) (oth k a b)=ptB c r i k:=by
  unfold ptB
  have e:(swC c a b).st.length=c.st.length:=swL_len _ _ _
  by_cases h:r.kind=2∨r.kind=5
  · rw [if_pos h,if_pos h,e,isP_oth ha hb]
    cases hk:isP c.st.length k with
    | false=>rfl
    | true =>
      have hk2:0≤k:=by
        unfold isP at hk
        simp only [Bool.and_eq_true,decide_eq_true_eq] at hk
        exact hk.1
      obtain ⟨q,rfl⟩:=Int.eq_ofNat_of_zero_le hk2
      rw [oth_nat,Int.toNat_natCast,Int.toNat_natCast,st_sg ha hb]
      have e4:decide (((sg a b q:Nat):Int)=((sg a b i:Nat):Int))=decide (((q:Nat):Int)=((i:Nat):Int)):=by
        by_cases e5:q=i
        · rw [e5];simp
        rw [decide_eq_false (fun e6:((sg a b q:Nat):Int)=((sg a b i:Nat):Int)=>e5 ((sg_eq (a:=a) (b:=b)).1 (Int.ofNat.inj e6))),decide_eq_false (by omega)]
      rw [e4]
  rw [if_neg h,if_neg h]
  have e1:oth (-1) a b = -1:=by unfold oth;rw [if_neg (by omega),if_neg (by omega)]
  by_cases e2:k = -1
  · rw [e2,e1]
  rw [decide_eq_false e2,decide_eq_false (fun e3=>e2 (by rw [← oth_oth (a:=a) (b:=b) k,e3,e1]))]
theorem enR_sw {top n t f:Int} {r:Ru} {g:Nat→Int} {i:Nat} {k:Int} (hk:r.kind≤3):enR top n t f (swC c a b) g r (sg a b i) (oth k a b)=enR top n t f c g r i k:=by
  unfold enR
  rw [st_sg ha hb,ptB_sw ha hb,loB_sw ha hb]
  rw [if_neg (c:=r.kind=4) (by omega),if_neg (c:=r.kind=4) (by omega),if_neg (c:=r.kind=5) (by omega),if_neg (c:=r.kind=5) (by omega)]
  rfl
theorem enB_sw {p:Fm} {n t f:Int} {g:Nat→Int} {x y k:Int} (hv:valE p=0) (ht:p.top=1):enB p n t f (swC c a b) g x (oth y a b) (oth k a b)=enB p n t f c g x y k:=by
  unfold enB
  have e:(swC c a b).st.length=c.st.length:=swL_len _ _ _
  rw [e,isP_oth ha hb]
  cases hx:isP p.rules.length x with
  | false=>rfl
  | true =>
    cases hy:isP c.st.length y with
    | false=>rfl
    | true =>
      have hx2:0≤x∧x<((p.rules.length:Nat):Int):=by
        unfold isP at hx
        simp only [Bool.and_eq_true,decide_eq_true_eq] at hx
        exact hx
      have hy2:0≤y:=by
        unfold isP at hy
        simp only [Bool.and_eq_true,decide_eq_true_eq] at hy
        exact hy.1
      obtain ⟨i,rfl⟩:=Int.eq_ofNat_of_zero_le hy2
      obtain ⟨r,rfl⟩:=Int.eq_ofNat_of_zero_le hx2.1
      have hr:r<p.rules.length:=by omega
      rw [oth_nat,Int.toNat_natCast,Int.toNat_natCast,Int.toNat_natCast,rule_get hr,enR_sw ha hb ((val_in hv (List.getElem_mem hr)).kt.2 ht)]
theorem st0_sw {r:Ru}:st0 (swC c a b) r=swL (st0 c r) a b:=by
  unfold st0
  split
  · exact swL_map ha hb
  rfl
theorem st1_sw {r:Ru} {i:Nat} (hi:i<c.st.length):st1 (swC c a b) r (sg a b i)=swL (st1 c r i) a b:=by
  unfold st1
  rw [st0_sw ha hb]
  exact swL_set (by rw [st0_len];exact ha) (by rw [st0_len];exact hb) (by rw [st0_len];exact hi)
theorem stA_sw {r:Ru} {i:Nat} {k:Int} (hi:i<c.st.length) (hk:r.kind=2∨r.kind=5→0≤k∧k<((c.st.length:Nat):Int)):stA (swC c a b) r (sg a b i) (oth k a b)=swL (stA c r i k) a b:=by
  unfold stA
  rw [st1_sw ha hb hi]
  split
  · rename_i h
    obtain ⟨q,rfl⟩:=Int.eq_ofNat_of_zero_le (hk h).1
    have hq:=(hk h).2
    rw [oth_nat,Int.toNat_natCast,Int.toNat_natCast]
    exact swL_set (by rw [st1_len];exact ha) (by rw [st1_len];exact hb) (by rw [st1_len];omega)
  rfl
theorem af_sw {r:Ru} {cor:Int} {i:Nat} {k:Int} (hi:i<c.st.length) (hk:r.kind=2∨r.kind=5→0≤k∧k<((c.st.length:Nat):Int)) (h1:((a:Nat):Int)<cor) (h2:((b:Nat):Int)<cor):af cor (swC c a b) r (sg a b i) (oth k a b)=swC (af cor c r i k) a b:=by
  have e1:seA cor (swC c a b) r (sg a b i) r.send.length=seA cor c r i r.send.length:=by
    unfold seA
    by_cases h:((i:Nat):Int)<cor
    · rw [if_pos h,if_pos ((sg_cor h1 h2).2 h)];rfl
    rw [if_neg h,if_neg (fun e=>h ((sg_cor h1 h2).1 e))];rfl
  have e2:faA cor (swC c a b) r (sg a b i) r.send.length=faA cor c r i r.send.length:=by
    unfold faA
    by_cases h:((i:Nat):Int)<cor
    · rw [if_pos h,if_pos ((sg_cor h1 h2).2 h)];rfl
    rw [if_neg h,if_neg (fun e=>h ((sg_cor h1 h2).1 e))];rfl
  unfold af
  rw [stA_sw ha hb hi hk,e1,e2]
  rfl
theorem sw_mem {x:Int} (h:x∈(swC c a b).st):x∈c.st:=by
  rcases mem_set h with h | rfl
  · rcases mem_set h with h | rfl
    · exact h
    rw [Ct.getD_at hb];exact List.getElem_mem hb
  rw [Ct.getD_at ha];exact List.getElem_mem ha
theorem ok_sw (H:Rd.CgOk c):Rd.CgOk (swC c a b):=⟨H.sh,fun x hx=>H.st x (sw_mem ha hb hx),H.se,H.fa,H.lsh,by show (swL _ _ _).length≤100;rw [swL_len];exact H.lst,H.lse,H.lfa⟩
theorem in_sw (H:Rd.CgIn c):Rd.CgIn (swC c a b):=⟨H.sh,fun x hx=>H.st x (sw_mem ha hb hx),H.se,H.fa,H.cor,H.val⟩
theorem vc_sw {p:Fm} {n t f:Int} (h:Rd.vcE p n t f c=0):Rd.vcE p n t f (swC c a b)=0:=by
  obtain ⟨hs,hx⟩:=vc_ok h
  have hx':Rd.rdX p n f (swC c a b)=true:=by
    unfold Rd.rdX Rd.rdB at hx ⊢
    simp only [Bool.and_eq_true] at hx ⊢
    obtain ⟨⟨⟨⟨⟨⟨⟨⟨⟨a1,a2⟩,a3⟩,a4⟩,a5⟩,a6⟩,a7⟩,a8⟩,a9⟩,a10⟩:=hx
    refine ⟨⟨⟨⟨⟨⟨⟨⟨⟨a1,?_⟩,?_⟩,a4⟩,a5⟩,a6⟩,a7⟩,a8⟩,a9⟩,a10⟩
    · rw [show (swC c a b).st.length=c.st.length from swL_len _ _ _];exact a2
    have h3:=bel_in a3
    unfold Rd.belB
    rw [Bool.not_eq_true',List.any_eq_false]
    intro x hx
    have:=h3 x (sw_mem ha hb hx)
    unfold Rd.outB
    simp only [Bool.or_eq_true,decide_eq_true_eq,not_or]
    omega
  unfold Rd.vcE
  rw [if_pos hs,if_pos hx']
theorem ap_sw {p:Fm} {n t f:Int} {x y k:Int} (hz:Rd.vcE p n t f c=0) (ht:p.top=1) (h1:((a:Nat):Int)<n-f) (h2:((b:Nat):Int)<n-f) :
    apE p n t f (swC c a b) x (oth y a b) (oth k a b)=apE p n t f c x y k∧(apE p n t f c x y k=0→apC p n t f (swC c a b) x (oth y a b) (oth k a b)=swC (apC p n t f c x y k) a b):=by
  obtain ⟨hs,hx⟩:=vc_ok hz
  obtain ⟨hv,_,_⟩:=Ns.sys_ok hs
  have e1:hdJ p f (swC c a b) p.msgs.length=hdJ p f c p.msgs.length:=rfl
  have e2:enB p n t f (swC c a b) (hdJ p f (swC c a b) p.msgs.length) x (oth y a b) (oth k a b)=enB p n t f c (hdJ p f c p.msgs.length) x y k:=by rw [e1];exact enB_sw ha hb hv ht
  have hz':=vc_sw ha hb hz
  cases he:enB p n t f c (hdJ p f c p.msgs.length) x y k with
  | false =>
    rw [apE_no hz he,apE_no hz' (e2.trans he)]
    exact ⟨rfl,fun h=>absurd h (by decide)⟩
  | true =>
    obtain ⟨r,i,hr,hi,rfl,rfl⟩:=en_at he
    have e3:=af_sw ha hb (r:=p.rules[r]) (cor:=n-f) (k:=k) hi (hpt_of he) h1 h2
    have e4:afX p n f (swC c a b) ((r:Nat):Int) (oth ((i:Nat):Int) a b) (oth k a b)=swC (afX p n f c ((r:Nat):Int) ((i:Nat):Int) k) a b:=by
      rw [oth_nat,afX_at hr,afX_at hr,e3]
    have e5:apE p n t f (swC c a b) ((r:Nat):Int) (oth ((i:Nat):Int) a b) (oth k a b)=apE p n t f c ((r:Nat):Int) ((i:Nat):Int) k:=by
      unfold apE
      rw [if_pos hz,if_pos hz',if_pos he,if_pos (e2.trans he),e4]
      rfl
    refine ⟨e5,fun h => ?_⟩
    unfold apC
    rw [e5,if_pos h,if_pos h,e4]
end
theorem set_one {l:List Int} {i:Nat} {x:Int}:setAll (l.map iv) (i*1) [iv x]=(l.set i x).map iv:=by
  show (l.map iv).set (i*1) (iv x)=_
  rw [Nat.mul_one,List.map_set]
theorem set_at {l l':List Int} {i b:Nat} (h:b<l.length):setAll (l'.map iv) (i*1) [iv l[b]]=(l'.set i (l.getD b 0)).map iv:=by
  rw [Ct.getD_at h];exact set_one
theorem cor_le {p:Fm} {n f:Int} {c:Cf} (h:CfV p n f c) (h0:0≤f):c.cor≤((c.st.length:Nat):Int):=by
  rw [h.ln,h.co]
  unfold Ns.cntE
  split<;>omega
theorem in_ap {p:Fm} {n t f:Int} {c:Cf} {x y k:Int} (HL:FamLen p) (HC:Rd.CgOk c) (HI:Rd.CgIn c):Rd.CgIn (apC p n t f c x y k)∧Rd.CgOk (apC p n t f c x y k)∧(apE p n t f c x y k=0→(apC p n t f c x y k).st.length=c.st.length):=by
  by_cases h:apE p n t f c x y k=0
  · have hz:Rd.vcE p n t f c=0:=by
      by_cases hz:Rd.vcE p n t f c=0
      · exact hz
      rw [apE_err hz] at h;exact absurd h hz
    obtain ⟨hs,hx⟩:=vc_ok hz
    obtain ⟨hv,hadm,h8⟩:=Ns.sys_ok hs
    have hc:=cf_in hx
    have hai:=Ns.adm_in hadm
    have l8:=cf_len hc hai h8
    cases he:enB p n t f c (hdJ p f c p.msgs.length) x y k with
    | false=>rw [apE_no hz he] at h;cases h
    | true =>
      obtain ⟨r,i,hr,hi,rfl,rfl⟩:=en_at he
      have e:apC p n t f c ((r:Nat):Int) ((i:Nat):Int) k=af (n-f) c p.rules[r] i k:=by unfold apC;rw [if_pos h,afX_at hr]
      rw [e]
      have ok:=af_ok HL hc hv HC l8 hr hi (kp:=k)
      have hv2:I64 (af (n-f) c p.rules[r] i k).val:=by
        show I64 (if 0≤p.rules[r].wr then p.rules[r].wr else c.val)
        split
        · have R:=val_in hv (List.getElem_mem hr)
          have hsz:=val_sizes hv
          have:=R.wr
          unfold I64;omega
        exact HI.val
      exact ⟨⟨ok.sh,ok.st,ok.se,ok.fa,HI.cor,hv2⟩,ok,fun _=>stA_len _ _ _ _⟩
  have e:apC p n t f c x y k=zC:=by unfold apC;rw [if_neg h]
  rw [e]
  have hn:∀ x∈([]:List Int),I64 x:=fun x hx=>absurd hx (List.not_mem_nil)
  exact ⟨⟨hn,hn,hn,hn,by show I64 0;unfold I64;omega,by show I64 0;unfold I64;omega⟩,⟨hn,hn,hn,hn,by decide,by decide,by decide,by decide⟩,fun h2=>absurd h2 h⟩
end Pe
variable {J:World→Prop}
set_option maxRecDepth 100000 in
set_option maxHeartbeats 6400000 in
theorem CopyInts_u (xs:List Int) (hx:xs.length≤17592186044416):Ctr Try.prog J 34 [Zc xs] (Zc xs):=by
 refine Zy Try.func34 rfl (by intro X hX;simp at hX;subst hX;exact Z7 _) (n:=6) rfl (by simp) (fun w0 => ?_)
 refine kW 6 [] [(0,Zc xs)] (Zb (Za (pM (Yb (.const (.slice none 0 0)) (.v (.slice none 0 0)) rfl) (Ze (Zd (Zb (Za (ZF rfl (sp_build0 (z:=1) (k:=1) true rfl U24 (by kernel_rfl)) T0 T0 rfl (pM (mT 0 (Zc xs)) (ZF rfl (sp_append (n:=0) (cs:=[]) (fr:=true) (m:=xs.length) (ds:=(xs.map iv)) (⟨U24,by kernel_rfl,by decide⟩:Elt Try.prog 24 3 1 8) (.tmp 3) (.tmp 4) rfl (fun _ d hd=>by obtain ⟨x,_,rfl⟩:=List.mem_map.1 hd;rfl) (by unfold maxLen;omega) (by omega) (fun d hd=>by obtain ⟨x,_,rfl⟩:=List.mem_map.1 hd;rfl) (es:=(xs.map iv)) (by rw [unfr_ints];rfl)) ⟨I0,I0,T0⟩ ⟨rfl,T0⟩ rfl (pM (aT 5 (.own 1)) (Ze (Zd (Zk ?_))))))))))))))
 refine Zs Try.results34 (.tmp rfl) ?_
 show AV.sl 1 (0+xs.length) (xs.map iv)=Zc xs
 rw [Nat.zero_add];rfl
set_option maxHeartbeats 12800000
set_option maxRecDepth 100000 in
theorem CopyInts_n (xs:List Int) (hx:xs.length≤17592186044416) (k:Nat):CtrO Try.prog J 34 [Zc xs] k (.row true 3 1 (0+xs.length) (xs.map iv)) (.own k):=by
 refine ctrO_of_tri Try.func34 rfl (by intro X hX;simp at hX;subst hX;exact Z7 _) (n:=6) rfl (by simp) (fun w0 => ?_)
 refine kW 6 [] [(0,Zc xs)] (Zb (Za (pM (Yb (.const (.slice none 0 0)) (.v (.slice none 0 0)) rfl) (Ze (Zd (Zb (Za (ZF rfl (sp_build0 (z:=1) (k:=1) true rfl U24 (by kernel_rfl)) T0 T0 rfl (pM (mT 0 (Zc xs)) (ZF rfl (sp_append (n:=0) (cs:=[]) (fr:=true) (m:=xs.length) (ds:=(xs.map iv)) (⟨U24,by kernel_rfl,by decide⟩:Elt Try.prog 24 3 1 8) (.tmp 3) (.tmp 4) rfl (fun _ d hd=>by obtain ⟨x,_,rfl⟩:=List.mem_map.1 hd;rfl) (by unfold maxLen;omega) (by omega) (fun d hd=>by obtain ⟨x,_,rfl⟩:=List.mem_map.1 hd;rfl) (es:=(xs.map iv)) (by rw [unfr_ints];rfl)) ⟨I0,I0,T0⟩ ⟨rfl,T0⟩ rfl (pM (aT 5 (.own 1)) (Ze (Zd (Zk ?_))))))))))))))
 refine tri_give1 1 Try.results34 (.tmp rfl) rfl rfl
set_option maxRecDepth 100000 in
theorem CopyCf_o {c:Cf} (HC:Rd.CgOk c) (k:Nat):CtrO Try.prog J 17 [.agg (Rd.cCg c)] k (.row true 3 1 (0+c.st.length) (c.st.map iv)) (.agg [.fr (Zc c.sh),.own k,iv c.cor,.fr (Zc c.se),.fr (Zc c.fa),iv c.val]):=by
 refine ctrO_of_tri Try.func17 rfl (by intro X hX;simp only [List.mem_cons,List.not_mem_nil,or_false] at hX;rcases hX with rfl;exact Zi (Rd.plain_cg c)) (n:=20) rfl (by simp) (fun w0 => ?_)
 refine kW 20 [] [(0,.agg (Rd.cCg c))] (Zb (Za (ZF rfl (Yi (X := .agg (Rd.cCg c)) (k:=1) (.tmp 0) rfl rfl) ⟨I0,T0⟩ T0 rfl (ZF rfl (ZJ (z := .agg #[.slice none 0 0,.slice none 0 0,.int .i64 0,.slice none 0 0,.slice none 0 0,.int .i64 0]) (k:=2) rfl (by kernel_rfl)) T0 T0 rfl (Ze (Zd (Zb ?_)))))))
 refine Zo (dA (fb 0 1 U31 1) I0 (dB (lb (Zc c.sh) 3 U24) I0 rfl (dC (sc #[.tmp 4] [] (CopyInts_u c.sh (Nat.le_trans HC.lsh (by decide))) [Zc c.sh] rfl rfl rfl) I0 I0 (dA (fb 1 1 U31 1) I0 (dB (lb (Zc c.st) 6 U24) I0 rfl (dR (sp_callO (c := .func 34) (xs := #[.tmp 7]) [] (CopyInts_n c.st (Nat.le_trans HC.lst (by decide)) 3) rfl (by kernel_rfl) rfl (Xs:=[Zc c.st]) rfl rfl rfl) ⟨I0,I0,T0⟩ T0 rfl (dA (fb 2 1 U31 1) I0 (dB (lb (iv c.cor) 9 U3) I0 rfl (dA (fb 3 1 U31 1) I0 (dB (lb (Zc c.se) 11 U24) I0 rfl (dC (sc #[.tmp 12] [] (CopyInts_u c.se (Nat.le_trans HC.lse (by decide))) [Zc c.se] rfl rfl rfl) I0 I0 (dA (fb 4 1 U31 1) I0 (dB (lb (Zc c.fa) 14 U24) I0 rfl (dC (sc #[.tmp 15] [] (CopyInts_u c.fa (Nat.le_trans HC.lfa (by decide))) [Zc c.fa] rfl rfl rfl) I0 I0 (dA (fb 5 1 U31 1) I0 (dB (lb (iv c.val) 17 U3) I0 rfl (dR (sp_bldN [0,1,2,3,4,5] [.tmp 5,.tmp 8,.tmp 10,.tmp 13,.tmp 16,.tmp 18] [.fr (Zc c.sh),.own 3,iv c.cor,.fr (Zc c.se),.fr (Zc c.fa),iv c.val] [.inr 0,.inr 1,.inr 2,.inr 3,.inr 4,.inr 5] rfl rfl rfl rfl rfl (fun _=>by kernel_rfl) rfl (ds:=[.fr (Zc c.sh),.own 3,iv c.cor,.fr (Zc c.se),.fr (Zc c.fa),iv c.val]) rfl) ⟨I0,I0,I0,I0,I0,I0,T0⟩ T0 T0 (dR (sB 6 2 (.tmp 19) (.agg [.fr (Zc c.sh),.own 3,iv c.cor,.fr (Zc c.se),.fr (Zc c.fa),iv c.val])) ⟨I0,I0,T0⟩ ⟨rfl,T0⟩ rfl (dE ?_))))))))))))))))))) (by kernel_rfl)
 show ETri J w0 _ _ _
 refine Zd (Zk ?_)
 refine tri_give1 3 Try.results17 (.cellS rfl rfl U31 rfl (z:=6) (by kernel_rfl) rfl (by decide)) rfl rfl
end Go.Proofs.Ytengacodacejiaa
