import Derived.Test.YtengacodacejiaaGrpmflcamkl
import Derived.Test.YtengacodacejiaaGrphnnnpkih
import Derived.Test.YtengacodacejiaaGrpigjeemdo
import Derived.Test.YtengacodacejiaaGrppafemefo
import Derived.Test.YtengacodacejiaaGrpckdhecpf
set_option linter.all false
namespace Go.Proofs.Ytengacodacejiaa
open Go.RowKit Go.Deep
set_option maxRecDepth 100000
set_option maxHeartbeats 6400000
variable {J:World→Prop}
theorem other_c {x u v:Int}:Ctr Try.prog J 14 [iv x,iv u,iv v] (iv (Pe.oth x u v)):=by
 refine Zy Try.func14 rfl (by intro X hX;simp only [List.mem_cons,List.not_mem_nil,or_false] at hX;rcases hX with rfl | rfl | rfl;exact .v _;exact .v _;exact .v _) (n:=16) rfl (by simp) (fun w0 => ?_)
 refine kW 16 [] [(0,iv x),(1,iv u),(2,iv v)] (Zb (Za (pM (aC (.int .i64 0)) (Ze (Zd (Zb (Zb ?_)))))))
 by_cases hs1:x=u
 refine Za (pM (mT 0 (iv x)) (pM (mT 1 (iv u)) (oC (ZA rfl (dT hs1)) I0 I0 (Ze (Zd (Zm rfl (Zb (Za (pM (mT 2 (iv v)) (pM (aT 10 (iv v)) (Ze (Zd (Zk (Zj ?_))))))))))))))
 refine Zs Try.results14 (.tmp rfl) ?_
 exact (congrArg iv (show Pe.oth x u v=_ from (if_pos hs1))).symm
 refine Za (pM (mT 0 (iv x)) (pM (mT 1 (iv u)) (oC (ZA rfl (dF hs1)) I0 I0 (Ze (Zd (Zp rfl (Zn (Zd (Zb (Zb ?_))))))))))
 by_cases hs2:x=v
 refine Za (pM (mT 0 (iv x)) (pM (mT 2 (iv v)) (oC (ZA rfl (dT hs2)) I0 I0 (Ze (Zd (Zm rfl (Zb (Za (pM (mT 1 (iv u)) (pM (aT 14 (iv u)) (Ze (Zd (Zk (Zj ?_))))))))))))))
 refine Zs Try.results14 (.tmp rfl) ?_
 exact (congrArg iv (show Pe.oth x u v=_ from (if_neg hs1).trans (if_pos hs2))).symm
 refine Za (pM (mT 0 (iv x)) (pM (mT 2 (iv v)) (oC (ZA rfl (dF hs2)) I0 I0 (Ze (Zd (Zp rfl (Zn (Zd (Zb (Za (pM (mT 0 (iv x)) (pM (aT 15 (iv x)) (Ze (Zd (Zk ?_)))))))))))))))
 refine Zs Try.results14 (.tmp rfl) ?_
 exact (congrArg iv (show Pe.oth x u v=_ from (if_neg hs1).trans (if_neg hs2))).symm
theorem swapped_c {c:Cf} (HC:Rd.CgOk c) {a b:Nat} (ha:a<c.st.length) (hb:b<c.st.length):Ctr Try.prog J 13 [.agg (Rd.cCg c),iv a,iv b] (.agg (Rd.cCg (Pe.swC c a b))):=by
 refine Zy Try.func13 rfl (by intro X hX;simp only [List.mem_cons,List.not_mem_nil,or_false] at hX;rcases hX with rfl | rfl | rfl;exact Zi (Rd.plain_cg c);exact .v _;exact .v _) (n:=29) rfl (by simp) (fun w0 => ?_)
 refine kW 29 [] [(0,.agg (Rd.cCg c)),(1,iv a),(2,iv b)] (Zb (Za (ZF rfl (Yi (X := .agg (Rd.cCg c)) (k:=1) (.tmp 0) rfl rfl) ⟨I0,T0⟩ T0 rfl (ZF rfl (ZJ (z := .agg #[.slice none 0 0,.slice none 0 0,.int .i64 0,.slice none 0 0,.slice none 0 0,.int .i64 0]) (k:=2) rfl (by kernel_rfl)) T0 T0 rfl (Ze (Zd (Zb (Za (oB (lS (Rd.cCg c) 6 3 U31) I0 rfl (ZF rfl (sp_callO (c := .func 17) (xs := #[.tmp 8]) [] (CopyCf_o HC 3) rfl (by kernel_rfl) rfl (Xs:=[.agg (Rd.cCg c)]) rfl rfl rfl) ⟨I0,I0,T0⟩ T0 rfl (ZF rfl (ZJ (z := .agg #[.slice none 0 0,.slice none 0 0,.int .i64 0,.slice none 0 0,.slice none 0 0,.int .i64 0]) (k:=4) rfl (by kernel_rfl)) T0 T0 rfl (ZF rfl (sB 6 7 (.tmp 9) (.agg [.fr (Zc c.sh),.own 3,iv c.cor,.fr (Zc c.se),.fr (Zc c.fa),iv c.val])) ⟨I0,I0,T0⟩ ⟨rfl,T0⟩ rfl (Ze (Zd (Zb ?_)))))))))))))))
 refine Zo (dA (fb 1 7 U31 1) I0 (dB (lb (.own 3) 10 U24) I0 rfl (dM (mT 1 (iv a)) (dA (fb 1 7 U31 1) I0 (dB (lb (.own 3) 13 U24) I0 rfl (dM (mT 2 (iv b)) (dA (fb 1 3 U31 1) I0 (dB (lb (Zc c.st) 16 U24) I0 rfl (dM (mT 2 (iv b)) (dC (xS (b*1) 17 18 U24) I0 I0 (dA (lE (iv c.st[b]) 19 U3 (map_at1 c.st (by omega))) I0 (dA (fb 1 3 U31 1) I0 (dB (lb (Zc c.st) 21 U24) I0 rfl (dM (mT 1 (iv a)) (dC (xS (a*1) 22 23 U24) I0 I0 (dA (lE (iv c.st[a]) 24 U3 (map_at1 c.st (by omega))) I0 (dR (sp_indexOwn (off:=a*1) (.tmp 11) (.tmp 12) rfl U24 (by kernel_rfl) (by omega) (by omega) rfl) ⟨I0,I0,T0⟩ ⟨rfl,T0⟩ T0 (dR (sp_storeRow (X:=iv c.st[b]) (off:=a*1) (cs:=(c.st.map iv)) (ds:=((c.st.set a (c.st.getD b 0)).map iv)) (zz:=1) (.tmp 26) (.tmp 20) rfl (by kernel_rfl) (by kernel_rfl) (fun _ d hd=>by simp only [AV.cellsOf,List.mem_cons,List.not_mem_nil,or_false] at hd;subst hd;rfl) (by kernel_rfl) (by simp;omega) (Pe.set_at hb)) ⟨I0,I0,T0⟩ ⟨rfl,T0⟩ rfl (dR (sp_indexOwn (off:=b*1) (.tmp 14) (.tmp 15) rfl U24 (by kernel_rfl) (by omega) (by omega) rfl) ⟨I0,I0,T0⟩ ⟨rfl,T0⟩ T0 (dR (sp_storeRow (X:=iv c.st[a]) (off:=b*1) (cs:=((c.st.set a (c.st.getD b 0)).map iv)) (ds:=((Pe.swL c.st a b).map iv)) (zz:=1) (.tmp 27) (.tmp 25) rfl (by kernel_rfl) (by kernel_rfl) (fun _ d hd=>by simp only [AV.cellsOf,List.mem_cons,List.not_mem_nil,or_false] at hd;subst hd;rfl) (by kernel_rfl) (by simp;omega) (Pe.set_at ha)) ⟨I0,I0,T0⟩ ⟨rfl,T0⟩ rfl (dE ?_))))))))))))))))))))) (by kernel_rfl)
 show ETri J w0 _ _ _
 refine kW 29 [(2,.box 31 [.v (.slice none 0 0),.v (.slice none 0 0),iv 0,.v (.slice none 0 0),.v (.slice none 0 0),iv 0]),(3,.row true 3 1 (0+c.st.length) ((Pe.swL c.st a b).map iv)),(4,.box 31 [.fr (Zc c.sh),.own 3,iv c.cor,.fr (Zc c.se),.fr (Zc c.fa),iv c.val])] [(6,.box 2 0),(7,.box 4 0)] (Zd (Zb (Za (oB (lS ([.fr (Zc c.sh),.own 3,iv c.cor,.fr (Zc c.se),.fr (Zc c.fa),iv c.val]) 6 7 U31) I0 rfl (ZF rfl (sB 6 6 (.tmp 28) (.agg [.fr (Zc c.sh),.own 3,iv c.cor,.fr (Zc c.se),.fr (Zc c.fa),iv c.val])) ⟨I0,I0,T0⟩ ⟨rfl,T0⟩ rfl (Ze (Zd (Zk ?_))))))))
 refine Zs Try.results13 (.cellS rfl rfl U31 rfl (z:=6) (by kernel_rfl) rfl (by decide)) ?_
 exact congrArg (fun q=>AV.agg [Zc c.sh,.sl 1 q ((Pe.swL c.st a b).map iv),iv c.cor,Zc c.se,Zc c.fa,iv c.val]) (by show 0+c.st.length=(Pe.swL c.st a b).length;rw [Pe.swL_len,Nat.zero_add])
theorem applySw {p:Fm} (HP:FmOk p) (HL:FamLen p) {n t f:Int} {c:Cf} (HC:Rd.CgOk c) (hz:Rd.vcE p n t f c=0) (ht:p.top=1) {a b:Nat} (hab:a<c.st.length∧b<c.st.length∧((a:Nat):Int)<n-f∧((b:Nat):Int)<n-f) {x y kp:Int}:Ctr Try.prog J 10 [.agg (cFm p),.agg (cSz n t f),.agg (Rd.cCg (Pe.swC c a b)),.agg [iv x,iv (Pe.oth y a b),iv (Pe.oth kp a b)]] (.tup [.agg (Rd.cCg (Ap.apC p n t f (Pe.swC c a b) x (Pe.oth y a b) (Pe.oth kp a b))),iv (Ap.apE p n t f c x y kp)]):=by
  rw [← (Pe.ap_sw hab.1 hab.2.1 hz ht hab.2.2.1 hab.2.2.2).1]
  exact Apply_c HP HL (Pe.ok_sw hab.1 hab.2.1 HC)
theorem uCompare_s {c:Cf} (H:Rd.CgIn c):Ctr Try.prog J 15 [.agg (Rd.cCg c),.agg (Rd.cCg c)] (iv 0):=ctr2 fun w v v' _ h h'=>by
  have:=cfCompare_any (Rd.cf_of H h) (Rd.cf_of H h')
  rw [Rd.cmpCf_same] at this
  exact this.mono fun _ _=>ret_sc
theorem cmpSw {p:Fm} (HL:FamLen p) {n t f:Int} {c:Cf} (HC:Rd.CgOk c) (HI:Rd.CgIn c) (hz:Rd.vcE p n t f c=0) (ht:p.top=1) {a b:Nat} (hab:a<c.st.length∧b<c.st.length∧((a:Nat):Int)<n-f∧((b:Nat):Int)<n-f) {x y kp:Int} (he:Ap.apE p n t f c x y kp=0):Ctr Try.prog J 15 [.agg (Rd.cCg (Pe.swC (Ap.apC p n t f c x y kp) a b)),.agg (Rd.cCg (Ap.apC p n t f (Pe.swC c a b) x (Pe.oth y a b) (Pe.oth kp a b)))] (iv 0):=by
  have hI:=Pe.in_ap (n:=n) (t:=t) (f:=f) (x:=x) (y:=y) (k:=kp) HL HC HI
  rw [(Pe.ap_sw hab.1 hab.2.1 hz ht hab.2.2.1 hab.2.2.2).2 he]
  exact uCompare_s (Pe.in_sw (by rw [hI.2.2 he];exact hab.1) (by rw [hI.2.2 he];exact hab.2.1) hI.1)
theorem lawPermutes_c {p:Fm} (HP:FmOk p) {n t f:Int} {c:Cf} (HI:Rd.CgIn c) {x y kp wa wb:Int}:Ctr Try.prog J 4 [.agg (cFm p++(cSz n t f++Rd.cCg c)),.agg [iv x,iv y,iv kp],.agg [iv wa,iv wb]] bT:=by
 refine Zy Try.func4 rfl (by intro X hX;simp only [List.mem_cons,List.not_mem_nil,or_false] at hX;rcases hX with rfl | rfl | rfl;exact Zi (fun X hX=>by rcases List.mem_append.1 hX with h | h;exact YC p X h;rcases List.mem_append.1 h with h | h;exact YT n t f X h;exact Rd.plain_cg c X h);exact Zi (fun X hX=>by simp only [List.mem_cons,List.not_mem_nil,or_false] at hX;rcases hX with rfl | rfl | rfl<;>exact .v _);exact Zi (fun X hX=>by simp only [List.mem_cons,List.not_mem_nil,or_false] at hX;rcases hX with rfl | rfl<;>exact .v _)) (n:=137) rfl (by simp) (fun w0 => ?_)
 refine kW 137 [] [(0,.agg (cFm p++(cSz n t f++Rd.cCg c))),(1,.agg [iv x,iv y,iv kp]),(2,.agg [iv wa,iv wb])] (Zb (Za (ZF rfl (Yi (X := .agg (cFm p++(cSz n t f++Rd.cCg c))) (k:=1) (.tmp 0) rfl rfl) ⟨I0,T0⟩ T0 rfl (ZF rfl (Yi (X := .agg [iv x,iv y,iv kp]) (k:=2) (.tmp 1) rfl rfl) ⟨I0,T0⟩ T0 rfl (ZF rfl (Yi (X := .agg [iv wa,iv wb]) (k:=3) (.tmp 2) rfl rfl) ⟨I0,T0⟩ T0 rfl (pM (aC (.bool false)) (Ze (Zd (Zb (Zb ?_))))))))))
 by_cases hs1:(bigF p)=true
 refine Za (oA (fb 0 3 U33 10) I0 (oB (lS (cFm p) 10 15 U27) I0 rfl (oC (sc #[.tmp 16] [] (Yd (Big_c HP) hs1) [.agg (cFm p)] rfl rfl rfl) I0 I0 (pM (mT 17 bT) (qK (qK (qK (pP (pk true bT (.v (.tuple #[])) rfl) (pM (mT 22 bT) (qK (qK (qK (qK (pP (pk true bT (.v (.tuple #[])) rfl) (pM (mT 28 bT) (qK (qK (qK (qK (qK (qK (qK (qK ?_)))))))))))))))))))))))
 refine pP (pk true bT (.v (.tuple #[])) rfl) (pM (mT 38 bT) (qK (qK (qK (qK (pP (pk true bT (.v (.tuple #[])) rfl) (Ze (Zd (Zm rfl (Zb (Za (oA (sc #[] [] Sh.zknown_c [] rfl rfl rfl) I0 (pM (aT 45 bT) (Ze (Zd (Zk (Zj ?_)))))))))))))))))
 refine Zs Try.results4 (.tmp rfl) ?_
 exact rfl
 have hs1f:(bigF p)=false:=by simpa using hs1
 by_cases hs2:(wideCf c)=true
 refine Za (oA (fb 0 3 U33 10) I0 (oB (lS (cFm p) 10 15 U27) I0 rfl (oC (sc #[.tmp 16] [] (Yd (Big_c HP) hs1f) [.agg (cFm p)] rfl rfl rfl) I0 I0 (pM (mT 17 bF) (gA (fb 13 3 U33 6) I0 (gB (lS (Rd.cCg c) 6 19 U31) I0 rfl (gC (sc #[.tmp 20] [] (Yd (Rd.Wide_c HI) hs2) [.agg (Rd.cCg c)] rfl rfl rfl) I0 I0 (pP (pk false bT bT rfl) (pM (mT 22 bT) (qK (qK (qK (qK (pP (pk true bT (.v (.tuple #[])) rfl) (pM (mT 28 bT) (qK (qK (qK (qK (qK (qK (qK (qK ?_)))))))))))))))))))))))
 refine pP (pk true bT (.v (.tuple #[])) rfl) (pM (mT 38 bT) (qK (qK (qK (qK (pP (pk true bT (.v (.tuple #[])) rfl) (Ze (Zd (Zm rfl (Zb (Za (oA (sc #[] [] Sh.zknown_c [] rfl rfl rfl) I0 (pM (aT 45 bT) (Ze (Zd (Zk (Zj ?_)))))))))))))))))
 refine Zs Try.results4 (.tmp rfl) ?_
 exact rfl
 have hs2f:(wideCf c)=false:=by simpa using hs2
 by_cases hs3:p.top=1
 by_cases hs4:(Rd.vcE p n t f c)=0
 have hvk:=En.vc_ok hs4
 have hcf:=En.cf_in hvk.2
 have hai:=Ns.adm_in (Ns.sys_ok hvk.1).2.1
 have hco:=hcf.co
 have hcl:=Pe.cor_le hcf (by omega)
 have h8s:=(Ns.sys_ok hvk.1).2.2
 by_cases hs5:c.cor<2
 refine Za (oA (fb 0 3 U33 10) I0 (oB (lS (cFm p) 10 15 U27) I0 rfl (oC (sc #[.tmp 16] [] (Yd (Big_c HP) hs1f) [.agg (cFm p)] rfl rfl rfl) I0 I0 (pM (mT 17 bF) (gA (fb 13 3 U33 6) I0 (gB (lS (Rd.cCg c) 6 19 U31) I0 rfl (gC (sc #[.tmp 20] [] (Yd (Rd.Wide_c HI) hs2f) [.agg (Rd.cCg c)] rfl rfl rfl) I0 I0 (pP (pk false bT bF rfl) (pM (mT 22 bF) (gA (fb 0 3 U33 10) I0 (gA (fb 1 24 U27 1) I0 (gB (lb (iv p.top) 25 U3) I0 rfl (gC (Z0 rfl (dT' hs3)) I0 I0 (pP (pk false bT bF rfl) (pM (mT 28 bF) (gA (fb 0 3 U33 10) I0 (gB (lS (cFm p) 10 30 U27) I0 rfl (gA (fb 10 3 U33 3) I0 (gB (lS (cSz n t f) 3 32 U29) I0 rfl (gA (fb 13 3 U33 6) I0 (gB (lS (Rd.cCg c) 6 34 U31) I0 rfl (t_opG rfl (sc #[.tmp 31,.tmp 33,.tmp 35] [] (ValidConfig_c HP (Rd.cg_ok HI hs2f)) [.agg (cFm p),.agg (cSz n t f),.agg (Rd.cCg c)] rfl rfl rfl) ⟨I0,I0,I0,I0,T0⟩ T0 T0 (gC (Z0 rfl (dT' hs4)) I0 I0 ?_)))))))))))))))))))))))
 refine pP (pk false bT bF rfl) (pM (mT 38 bF) (gA (fb 13 3 U33 6) I0 (gA (fb 15 40 U31 1) I0 (gB (lb (iv c.cor) 41 U3) I0 rfl (gC (ZY rfl (dT hs5)) I0 I0 (pP (pk false bT bT rfl) (Ze (Zd (Zm rfl (Zb (Za (oA (sc #[] [] Sh.zknown_c [] rfl rfl rfl) I0 (pM (aT 45 bT) (Ze (Zd (Zk (Zj ?_)))))))))))))))))
 refine Zs Try.results4 (.tmp rfl) ?_
 exact rfl
 have hia:=Pe.ix_lt (s:=wa) (cor:=c.cor) (by omega)
 have hib:=Pe.ix_lt (s:=wb) (cor:=c.cor) (by omega)
 have hab:(Pe.ix wa c.cor)<c.st.length∧(Pe.ix wb c.cor)<c.st.length∧(((Pe.ix wa c.cor):Nat):Int)<n-f∧(((Pe.ix wb c.cor):Nat):Int)<n-f:=⟨by omega,by omega,by omega,by omega⟩
 refine Za (oA (fb 0 3 U33 10) I0 (oB (lS (cFm p) 10 15 U27) I0 rfl (oC (sc #[.tmp 16] [] (Yd (Big_c HP) hs1f) [.agg (cFm p)] rfl rfl rfl) I0 I0 (pM (mT 17 bF) (gA (fb 13 3 U33 6) I0 (gB (lS (Rd.cCg c) 6 19 U31) I0 rfl (gC (sc #[.tmp 20] [] (Yd (Rd.Wide_c HI) hs2f) [.agg (Rd.cCg c)] rfl rfl rfl) I0 I0 (pP (pk false bT bF rfl) (pM (mT 22 bF) (gA (fb 0 3 U33 10) I0 (gA (fb 1 24 U27 1) I0 (gB (lb (iv p.top) 25 U3) I0 rfl (gC (Z0 rfl (dT' hs3)) I0 I0 (pP (pk false bT bF rfl) (pM (mT 28 bF) (gA (fb 0 3 U33 10) I0 (gB (lS (cFm p) 10 30 U27) I0 rfl (gA (fb 10 3 U33 3) I0 (gB (lS (cSz n t f) 3 32 U29) I0 rfl (gA (fb 13 3 U33 6) I0 (gB (lS (Rd.cCg c) 6 34 U31) I0 rfl (t_opG rfl (sc #[.tmp 31,.tmp 33,.tmp 35] [] (ValidConfig_c HP (Rd.cg_ok HI hs2f)) [.agg (cFm p),.agg (cSz n t f),.agg (Rd.cCg c)] rfl rfl rfl) ⟨I0,I0,I0,I0,T0⟩ T0 T0 (gC (Z0 rfl (dT' hs4)) I0 I0 ?_)))))))))))))))))))))))
 refine pP (pk false bT bF rfl) (pM (mT 38 bF) (gA (fb 13 3 U33 6) I0 (gA (fb 15 40 U31 1) I0 (gB (lb (iv c.cor) 41 U3) I0 rfl (gC (ZY rfl (dF hs5)) I0 I0 (pP (pk false bT bF rfl) (Ze (Zd (Zp rfl (Zn (Zd (Zb (Zb (Za (oA (fb 13 3 U33 6) I0 (oA (fb 15 46 U31 1) I0 (oB (lb (iv c.cor) 47 U3) I0 rfl (oA (fb 13 3 U33 6) I0 (oA (fb 14 49 U31 1) I0 (oB (lb (Zc c.st) 50 U24) I0 rfl (oA (nS 51 U24) I0 (oC (sp_gtr rfl (dF (by omega))) I0 I0 (Ze ?_)))))))))))))))))))))))
 refine Zd (Zp rfl (Zn (Zd (Zb ?_))))
 refine Zo (dA (fb 0 5 U50 1) I0 (dB (lb (iv wa) 54 U3) I0 rfl (dA (sp_conv (c:=uN wa) rfl U3 U51 rfl) I0 (dA (fb 13 3 U33 6) I0 (dA (fb 15 57 U31 1) I0 (dB (lb (iv c.cor) 58 U3) I0 rfl (dA (sp_conv (c:=c.cor) rfl U3 U51 (Pe.u64_int (by omega) (by omega))) I0 (dC (sp_rem (c:=(((Pe.ix wa c.cor):Nat):Int)) rfl (by omega) (Pe.ix_rem (by omega))) I0 I0 (dA (sp_conv (c:=(((Pe.ix wa c.cor):Nat):Int)) rfl U51 U3 (i64_small (by omega))) I0 (dA (fb 1 5 U50 1) I0 (dB (lb (iv wb) 63 U3) I0 rfl (dA (sp_conv (c:=uN wb) rfl U3 U51 rfl) I0 (dA (fb 13 3 U33 6) I0 (dA (fb 15 66 U31 1) I0 (dB (lb (iv c.cor) 67 U3) I0 rfl (dA (sp_conv (c:=c.cor) rfl U3 U51 (Pe.u64_int (by omega) (by omega))) I0 (dC (sp_rem (c:=(((Pe.ix wb c.cor):Nat):Int)) rfl (by omega) (Pe.ix_rem (by omega))) I0 I0 (dA (sp_conv (c:=(((Pe.ix wb c.cor):Nat):Int)) rfl U51 U3 (i64_small (by omega))) I0 (dM (aT 62 (iv ((Pe.ix wa c.cor):Nat))) (dM (aT 71 (iv ((Pe.ix wb c.cor):Nat))) (dE ?_))))))))))))))))))))) (by kernel_rfl)
 show ETri J w0 _ _ _
 refine kW 137 [(1,.box 33 (cFm p++(cSz n t f++Rd.cCg c))),(2,.box 35 [iv x,iv y,iv kp])] [(3,.box 1 0),(4,.box 2 0),(6,bF),(7,iv ((Pe.ix wa c.cor):Nat)),(8,iv ((Pe.ix wb c.cor):Nat))] (Zd (Zb ?_))
 refine Zo (dA (fb 13 3 U33 6) I0 (dB (lS (Rd.cCg c) 6 72 U31) I0 rfl (dM (mT 7 (iv ((Pe.ix wa c.cor):Nat))) (dM (mT 8 (iv ((Pe.ix wb c.cor):Nat))) (dR (sc #[.tmp 73,.tmp 74,.tmp 75] [] (swapped_c (Rd.cg_ok HI hs2f) hab.1 hab.2.1) [.agg (Rd.cCg c),iv ((Pe.ix wa c.cor):Nat),iv ((Pe.ix wb c.cor):Nat)] rfl rfl rfl) ⟨I0,I0,I0,I0,T0⟩ T0 T0 (dB (lS ([iv x,iv y,iv kp]) 3 4 U35) I0 rfl (dR (ZJ (z := .agg #[.slice none 0 0,.slice none 0 0,.int .i64 0,.slice none 0 0,.slice none 0 0,.int .i64 0]) (k:=4) rfl (by kernel_rfl)) T0 T0 rfl (dR (ZJ (z := .agg #[.int .i64 0,.int .i64 0,.int .i64 0]) (k:=5) rfl (by kernel_rfl)) T0 T0 rfl (dR (sB 6 9 (.tmp 76) (.agg [.fr (Zc ((Pe.swC c (Pe.ix wa c.cor) (Pe.ix wb c.cor)).sh)),.fr (Zc ((Pe.swC c (Pe.ix wa c.cor) (Pe.ix wb c.cor)).st)),iv ((Pe.swC c (Pe.ix wa c.cor) (Pe.ix wb c.cor)).cor),.fr (Zc ((Pe.swC c (Pe.ix wa c.cor) (Pe.ix wb c.cor)).se)),.fr (Zc ((Pe.swC c (Pe.ix wa c.cor) (Pe.ix wb c.cor)).fa)),iv ((Pe.swC c (Pe.ix wa c.cor) (Pe.ix wb c.cor)).val)])) ⟨I0,.inr (.inr (.inl ⟨_,rfl,rfl⟩)),T0⟩ ⟨rfl,T0⟩ rfl (dR (sB 3 10 (.tmp 77) (.agg [iv x,iv y,iv kp])) ⟨I0,I0,T0⟩ ⟨rfl,T0⟩ rfl (dE ?_))))))))))) (by kernel_rfl)
 show ETri J w0 _ _ _
 refine kW 137 [(1,.box 33 (cFm p++(cSz n t f++Rd.cCg c))),(2,.box 35 [iv x,iv y,iv kp]),(4,.box 31 [.fr (Zc ((Pe.swC c (Pe.ix wa c.cor) (Pe.ix wb c.cor)).sh)),.fr (Zc ((Pe.swC c (Pe.ix wa c.cor) (Pe.ix wb c.cor)).st)),iv ((Pe.swC c (Pe.ix wa c.cor) (Pe.ix wb c.cor)).cor),.fr (Zc ((Pe.swC c (Pe.ix wa c.cor) (Pe.ix wb c.cor)).se)),.fr (Zc ((Pe.swC c (Pe.ix wa c.cor) (Pe.ix wb c.cor)).fa)),iv ((Pe.swC c (Pe.ix wa c.cor) (Pe.ix wb c.cor)).val)]),(5,.box 35 [iv x,iv y,iv kp])] [(3,.box 1 0),(4,.box 2 0),(6,bF),(7,iv ((Pe.ix wa c.cor):Nat)),(8,iv ((Pe.ix wb c.cor):Nat)),(9,.box 4 0),(10,.box 5 0)] (Zd (Zb (Za (oA (fb 1 4 U35 1) I0 (oB (lb (iv y) 78 U3) I0 rfl (pM (mT 7 (iv ((Pe.ix wa c.cor):Nat))) (pM (mT 8 (iv ((Pe.ix wb c.cor):Nat))) (ZF rfl (sc #[.tmp 79,.tmp 80,.tmp 81] [] (other_c) [iv y,iv ((Pe.ix wa c.cor):Nat),iv ((Pe.ix wb c.cor):Nat)] rfl rfl rfl) ⟨I0,I0,I0,I0,T0⟩ T0 T0 (oA (fb 1 10 U35 1) I0 (ZF rfl (sB 1 83 (.tmp 82) (iv (Pe.oth y (Pe.ix wa c.cor) (Pe.ix wb c.cor)))) ⟨I0,I0,T0⟩ ⟨rfl,T0⟩ rfl (Ze (Zd (Zb (Za (oA (fb 2 4 U35 1) I0 (oB (lb (iv kp) 84 U3) I0 rfl (pM (mT 7 (iv ((Pe.ix wa c.cor):Nat))) (pM (mT 8 (iv ((Pe.ix wb c.cor):Nat))) (ZF rfl (sc #[.tmp 85,.tmp 86,.tmp 87] [] (other_c) [iv kp,iv ((Pe.ix wa c.cor):Nat),iv ((Pe.ix wb c.cor):Nat)] rfl rfl rfl) ⟨I0,I0,I0,I0,T0⟩ T0 T0 (oA (fb 2 10 U35 1) I0 (ZF rfl (sB 1 89 (.tmp 88) (iv (Pe.oth kp (Pe.ix wa c.cor) (Pe.ix wb c.cor)))) ⟨I0,I0,T0⟩ ⟨rfl,T0⟩ rfl (Ze (Zd ?_)))))))))))))))))))))))
 refine Zb (Za (oA (fb 0 3 U33 10) I0 (oB (lS (cFm p) 10 91 U27) I0 rfl (oA (fb 10 3 U33 3) I0 (oB (lS (cSz n t f) 3 93 U29) I0 rfl (oA (fb 13 3 U33 6) I0 (oB (lS (Rd.cCg c) 6 95 U31) I0 rfl (oB (lS ([iv x,iv y,iv kp]) 3 4 U35) I0 rfl (ZF rfl (sc #[.tmp 92,.tmp 94,.tmp 96,.tmp 97] [] (Apply_c HP (famLen hs1f) (Rd.cg_ok HI hs2f)) [.agg (cFm p),.agg (cSz n t f),.agg (Rd.cCg c),.agg [iv x,iv y,iv kp]] rfl rfl rfl) ⟨I0,I0,I0,I0,I0,T0⟩ T0 T0 (pM (mT 98 (.tup [.fr (.agg (Rd.cCg (Ap.apC p n t f c x y kp))),iv (Ap.apE p n t f c x y kp)])) (oA (Zt (X := .fr (.agg (Rd.cCg (Ap.apC p n t f c x y kp)))) (.tmp 90) rfl rfl) I0 (oA (Zt (X:=iv (Ap.apE p n t f c x y kp)) (.tmp 90) rfl rfl) I0 (ZF rfl (ZJ (z := .agg #[.slice none 0 0,.slice none 0 0,.int .i64 0,.slice none 0 0,.slice none 0 0,.int .i64 0]) (k:=6) rfl (by kernel_rfl)) T0 T0 rfl (ZF rfl (sB 6 11 (.tmp 99) (.agg [.fr (Zc ((Ap.apC p n t f c x y kp).sh)),.fr (Zc ((Ap.apC p n t f c x y kp).st)),iv ((Ap.apC p n t f c x y kp).cor),.fr (Zc ((Ap.apC p n t f c x y kp).se)),.fr (Zc ((Ap.apC p n t f c x y kp).fa)),iv ((Ap.apC p n t f c x y kp).val)])) ⟨I0,.inr (.inr (.inl ⟨_,rfl,rfl⟩)),T0⟩ ⟨rfl,T0⟩ rfl (pM (aT 100 (iv (Ap.apE p n t f c x y kp))) (Ze (Zd (Zb (Za (oA (fb 0 3 U33 10) I0 (oB (lS (cFm p) 10 102 U27) I0 rfl (oA (fb 10 3 U33 3) I0 (oB (lS (cSz n t f) 3 104 U29) I0 rfl ?_)))))))))))))))))))))))
 refine oB (lS ([.fr (Zc ((Pe.swC c (Pe.ix wa c.cor) (Pe.ix wb c.cor)).sh)),.fr (Zc ((Pe.swC c (Pe.ix wa c.cor) (Pe.ix wb c.cor)).st)),iv ((Pe.swC c (Pe.ix wa c.cor) (Pe.ix wb c.cor)).cor),.fr (Zc ((Pe.swC c (Pe.ix wa c.cor) (Pe.ix wb c.cor)).se)),.fr (Zc ((Pe.swC c (Pe.ix wa c.cor) (Pe.ix wb c.cor)).fa)),iv ((Pe.swC c (Pe.ix wa c.cor) (Pe.ix wb c.cor)).val)]) 6 9 U31) I0 rfl (oB (lS ([iv x,iv (Pe.oth y (Pe.ix wa c.cor) (Pe.ix wb c.cor)),iv (Pe.oth kp (Pe.ix wa c.cor) (Pe.ix wb c.cor))]) 3 10 U35) I0 rfl (ZF rfl (sc #[.tmp 103,.tmp 105,.tmp 106,.tmp 107] [] (applySw HP (famLen hs1f) (Rd.cg_ok HI hs2f) hs4 hs3 hab) [.agg (cFm p),.agg (cSz n t f),.agg [.fr (Zc ((Pe.swC c (Pe.ix wa c.cor) (Pe.ix wb c.cor)).sh)),.fr (Zc ((Pe.swC c (Pe.ix wa c.cor) (Pe.ix wb c.cor)).st)),iv ((Pe.swC c (Pe.ix wa c.cor) (Pe.ix wb c.cor)).cor),.fr (Zc ((Pe.swC c (Pe.ix wa c.cor) (Pe.ix wb c.cor)).se)),.fr (Zc ((Pe.swC c (Pe.ix wa c.cor) (Pe.ix wb c.cor)).fa)),iv ((Pe.swC c (Pe.ix wa c.cor) (Pe.ix wb c.cor)).val)],.agg [iv x,iv (Pe.oth y (Pe.ix wa c.cor) (Pe.ix wb c.cor)),iv (Pe.oth kp (Pe.ix wa c.cor) (Pe.ix wb c.cor))]] rfl rfl rfl) ⟨I0,I0,I0,I0,I0,T0⟩ T0 T0 (pM (mT 108 (.tup [.fr (.agg (Rd.cCg (Ap.apC p n t f (Pe.swC c (Pe.ix wa c.cor) (Pe.ix wb c.cor)) x (Pe.oth y (Pe.ix wa c.cor) (Pe.ix wb c.cor)) (Pe.oth kp (Pe.ix wa c.cor) (Pe.ix wb c.cor))))),iv (Ap.apE p n t f c x y kp)])) (oA (Zt (X := .fr (.agg (Rd.cCg (Ap.apC p n t f (Pe.swC c (Pe.ix wa c.cor) (Pe.ix wb c.cor)) x (Pe.oth y (Pe.ix wa c.cor) (Pe.ix wb c.cor)) (Pe.oth kp (Pe.ix wa c.cor) (Pe.ix wb c.cor)))))) (.tmp 101) rfl rfl) I0 (oA (Zt (X:=iv (Ap.apE p n t f c x y kp)) (.tmp 101) rfl rfl) I0 (ZF rfl (ZJ (z := .agg #[.slice none 0 0,.slice none 0 0,.int .i64 0,.slice none 0 0,.slice none 0 0,.int .i64 0]) (k:=7) rfl (by kernel_rfl)) T0 T0 rfl (ZF rfl (sB 6 13 (.tmp 109) (.agg [.fr (Zc ((Ap.apC p n t f (Pe.swC c (Pe.ix wa c.cor) (Pe.ix wb c.cor)) x (Pe.oth y (Pe.ix wa c.cor) (Pe.ix wb c.cor)) (Pe.oth kp (Pe.ix wa c.cor) (Pe.ix wb c.cor))).sh)),.fr (Zc ((Ap.apC p n t f (Pe.swC c (Pe.ix wa c.cor) (Pe.ix wb c.cor)) x (Pe.oth y (Pe.ix wa c.cor) (Pe.ix wb c.cor)) (Pe.oth kp (Pe.ix wa c.cor) (Pe.ix wb c.cor))).st)),iv ((Ap.apC p n t f (Pe.swC c (Pe.ix wa c.cor) (Pe.ix wb c.cor)) x (Pe.oth y (Pe.ix wa c.cor) (Pe.ix wb c.cor)) (Pe.oth kp (Pe.ix wa c.cor) (Pe.ix wb c.cor))).cor),.fr (Zc ((Ap.apC p n t f (Pe.swC c (Pe.ix wa c.cor) (Pe.ix wb c.cor)) x (Pe.oth y (Pe.ix wa c.cor) (Pe.ix wb c.cor)) (Pe.oth kp (Pe.ix wa c.cor) (Pe.ix wb c.cor))).se)),.fr (Zc ((Ap.apC p n t f (Pe.swC c (Pe.ix wa c.cor) (Pe.ix wb c.cor)) x (Pe.oth y (Pe.ix wa c.cor) (Pe.ix wb c.cor)) (Pe.oth kp (Pe.ix wa c.cor) (Pe.ix wb c.cor))).fa)),iv ((Ap.apC p n t f (Pe.swC c (Pe.ix wa c.cor) (Pe.ix wb c.cor)) x (Pe.oth y (Pe.ix wa c.cor) (Pe.ix wb c.cor)) (Pe.oth kp (Pe.ix wa c.cor) (Pe.ix wb c.cor))).val)])) ⟨I0,.inr (.inr (.inl ⟨_,rfl,rfl⟩)),T0⟩ ⟨rfl,T0⟩ rfl (pM (aT 110 (iv (Ap.apE p n t f c x y kp))) (Ze (Zd (Zb (Zb (Za (pM (mT 12 (iv (Ap.apE p n t f c x y kp))) (pM (mT 14 (iv (Ap.apE p n t f c x y kp))) (oC (Z0 rfl (dT' rfl)) I0 I0 (Ze (Zd (Zp rfl (Zn (Zd (Zb (Zb ?_)))))))))))))))))))))))
 by_cases hs6:(Ap.apE p n t f c x y kp)=0
 refine Za (pM (mT 12 (iv (Ap.apE p n t f c x y kp))) (oC (Z0 rfl (dT' hs6)) I0 I0 (Ze (Zd (Zp rfl (Zn (Zd (Zb ?_))))))))
 refine Zo (dA (fb 1 11 U31 1) I0 (dB (lb (.fr (Zc ((Ap.apC p n t f c x y kp).st))) 117 U24) I0 rfl (dR (nS 118 U24) ⟨.inr (.inl rfl),T0⟩ T0 T0 (dA (fb 13 3 U33 6) I0 (dA (fb 14 120 U31 1) I0 (dB (lb (Zc c.st) 121 U24) I0 rfl (dA (nS 122 U24) I0 (dC (ZA rfl (dT (by rw [(Pe.in_ap (famLen hs1f) (Rd.cg_ok HI hs2f) HI).2.2 hs6]))) I0 I0 (dM (mT 124 bT) (dB (lS ([.fr (Zc ((Ap.apC p n t f c x y kp).sh)),.fr (Zc ((Ap.apC p n t f c x y kp).st)),iv ((Ap.apC p n t f c x y kp).cor),.fr (Zc ((Ap.apC p n t f c x y kp).se)),.fr (Zc ((Ap.apC p n t f c x y kp).fa)),iv ((Ap.apC p n t f c x y kp).val)]) 6 11 U31) I0 rfl (dM (mT 7 (iv ((Pe.ix wa c.cor):Nat))) (dM (mT 8 (iv ((Pe.ix wb c.cor):Nat))) (dR (sc #[.tmp 126,.tmp 127,.tmp 128] [] (swapped_c (Pe.in_ap (famLen hs1f) (Rd.cg_ok HI hs2f) HI).2.1 (by rw [(Pe.in_ap (famLen hs1f) (Rd.cg_ok HI hs2f) HI).2.2 hs6];exact hab.1) (by rw [(Pe.in_ap (famLen hs1f) (Rd.cg_ok HI hs2f) HI).2.2 hs6];exact hab.2.1)) [.agg [.fr (Zc ((Ap.apC p n t f c x y kp).sh)),.fr (Zc ((Ap.apC p n t f c x y kp).st)),iv ((Ap.apC p n t f c x y kp).cor),.fr (Zc ((Ap.apC p n t f c x y kp).se)),.fr (Zc ((Ap.apC p n t f c x y kp).fa)),iv ((Ap.apC p n t f c x y kp).val)],iv ((Pe.ix wa c.cor):Nat),iv ((Pe.ix wb c.cor):Nat)] rfl rfl rfl) ⟨I0,I0,I0,I0,T0⟩ T0 T0 (dB (lS ([.fr (Zc ((Ap.apC p n t f (Pe.swC c (Pe.ix wa c.cor) (Pe.ix wb c.cor)) x (Pe.oth y (Pe.ix wa c.cor) (Pe.ix wb c.cor)) (Pe.oth kp (Pe.ix wa c.cor) (Pe.ix wb c.cor))).sh)),.fr (Zc ((Ap.apC p n t f (Pe.swC c (Pe.ix wa c.cor) (Pe.ix wb c.cor)) x (Pe.oth y (Pe.ix wa c.cor) (Pe.ix wb c.cor)) (Pe.oth kp (Pe.ix wa c.cor) (Pe.ix wb c.cor))).st)),iv ((Ap.apC p n t f (Pe.swC c (Pe.ix wa c.cor) (Pe.ix wb c.cor)) x (Pe.oth y (Pe.ix wa c.cor) (Pe.ix wb c.cor)) (Pe.oth kp (Pe.ix wa c.cor) (Pe.ix wb c.cor))).cor),.fr (Zc ((Ap.apC p n t f (Pe.swC c (Pe.ix wa c.cor) (Pe.ix wb c.cor)) x (Pe.oth y (Pe.ix wa c.cor) (Pe.ix wb c.cor)) (Pe.oth kp (Pe.ix wa c.cor) (Pe.ix wb c.cor))).se)),.fr (Zc ((Ap.apC p n t f (Pe.swC c (Pe.ix wa c.cor) (Pe.ix wb c.cor)) x (Pe.oth y (Pe.ix wa c.cor) (Pe.ix wb c.cor)) (Pe.oth kp (Pe.ix wa c.cor) (Pe.ix wb c.cor))).fa)),iv ((Ap.apC p n t f (Pe.swC c (Pe.ix wa c.cor) (Pe.ix wb c.cor)) x (Pe.oth y (Pe.ix wa c.cor) (Pe.ix wb c.cor)) (Pe.oth kp (Pe.ix wa c.cor) (Pe.ix wb c.cor))).val)]) 6 13 U31) I0 rfl (dR (sc #[.tmp 129,.tmp 130] [] (cmpSw (famLen hs1f) (Rd.cg_ok HI hs2f) HI hs4 hs3 hab hs6) [.agg (Rd.cCg (Pe.swC (Ap.apC p n t f c x y kp) (Pe.ix wa c.cor) (Pe.ix wb c.cor))),.agg [.fr (Zc ((Ap.apC p n t f (Pe.swC c (Pe.ix wa c.cor) (Pe.ix wb c.cor)) x (Pe.oth y (Pe.ix wa c.cor) (Pe.ix wb c.cor)) (Pe.oth kp (Pe.ix wa c.cor) (Pe.ix wb c.cor))).sh)),.fr (Zc ((Ap.apC p n t f (Pe.swC c (Pe.ix wa c.cor) (Pe.ix wb c.cor)) x (Pe.oth y (Pe.ix wa c.cor) (Pe.ix wb c.cor)) (Pe.oth kp (Pe.ix wa c.cor) (Pe.ix wb c.cor))).st)),iv ((Ap.apC p n t f (Pe.swC c (Pe.ix wa c.cor) (Pe.ix wb c.cor)) x (Pe.oth y (Pe.ix wa c.cor) (Pe.ix wb c.cor)) (Pe.oth kp (Pe.ix wa c.cor) (Pe.ix wb c.cor))).cor),.fr (Zc ((Ap.apC p n t f (Pe.swC c (Pe.ix wa c.cor) (Pe.ix wb c.cor)) x (Pe.oth y (Pe.ix wa c.cor) (Pe.ix wb c.cor)) (Pe.oth kp (Pe.ix wa c.cor) (Pe.ix wb c.cor))).se)),.fr (Zc ((Ap.apC p n t f (Pe.swC c (Pe.ix wa c.cor) (Pe.ix wb c.cor)) x (Pe.oth y (Pe.ix wa c.cor) (Pe.ix wb c.cor)) (Pe.oth kp (Pe.ix wa c.cor) (Pe.ix wb c.cor))).fa)),iv ((Ap.apC p n t f (Pe.swC c (Pe.ix wa c.cor) (Pe.ix wb c.cor)) x (Pe.oth y (Pe.ix wa c.cor) (Pe.ix wb c.cor)) (Pe.oth kp (Pe.ix wa c.cor) (Pe.ix wb c.cor))).val)]] rfl rfl rfl) ⟨I0,.inr (.inl rfl),I0,T0⟩ T0 T0 (dC (ZA (r:=true) rfl (by decide)) I0 I0 (dP (pk true bT bF rfl) (dM (mT 133 bT) (dA (sc #[] [] Sh.zknown_c [] rfl rfl rfl) I0 (dP (pk true bT bF rfl) (dM (aT 136 bT) (dE ?_)))))))))))))))))))))) (by kernel_rfl)
 show ETri J w0 _ _ _
 refine Zd (Zk ?_)
 refine Zs Try.results4 (.tmp rfl) ?_
 exact rfl
 refine Za (pM (mT 12 (iv (Ap.apE p n t f c x y kp))) (oC (Z0 rfl (dF' hs6)) I0 I0 (Ze (Zd (Zm rfl (Zb (Za (oA (sc #[] [] Sh.zknown_c [] rfl rfl rfl) I0 (pM (aT 116 bT) (Ze (Zd (Zk (Zj ?_)))))))))))))
 refine Zs Try.results4 (.tmp rfl) ?_
 exact rfl
 refine Za (oA (fb 0 3 U33 10) I0 (oB (lS (cFm p) 10 15 U27) I0 rfl (oC (sc #[.tmp 16] [] (Yd (Big_c HP) hs1f) [.agg (cFm p)] rfl rfl rfl) I0 I0 (pM (mT 17 bF) (gA (fb 13 3 U33 6) I0 (gB (lS (Rd.cCg c) 6 19 U31) I0 rfl (gC (sc #[.tmp 20] [] (Yd (Rd.Wide_c HI) hs2f) [.agg (Rd.cCg c)] rfl rfl rfl) I0 I0 (pP (pk false bT bF rfl) (pM (mT 22 bF) (gA (fb 0 3 U33 10) I0 (gA (fb 1 24 U27 1) I0 (gB (lb (iv p.top) 25 U3) I0 rfl (gC (Z0 rfl (dT' hs3)) I0 I0 (pP (pk false bT bF rfl) (pM (mT 28 bF) (gA (fb 0 3 U33 10) I0 (gB (lS (cFm p) 10 30 U27) I0 rfl (gA (fb 10 3 U33 3) I0 (gB (lS (cSz n t f) 3 32 U29) I0 rfl (gA (fb 13 3 U33 6) I0 (gB (lS (Rd.cCg c) 6 34 U31) I0 rfl (t_opG rfl (sc #[.tmp 31,.tmp 33,.tmp 35] [] (ValidConfig_c HP (Rd.cg_ok HI hs2f)) [.agg (cFm p),.agg (cSz n t f),.agg (Rd.cCg c)] rfl rfl rfl) ⟨I0,I0,I0,I0,T0⟩ T0 T0 (gC (Z0 rfl (dF' hs4)) I0 I0 ?_)))))))))))))))))))))))
 refine pP (pk false bT bT rfl) (pM (mT 38 bT) (qK (qK (qK (qK (pP (pk true bT (.v (.tuple #[])) rfl) (Ze (Zd (Zm rfl (Zb (Za (oA (sc #[] [] Sh.zknown_c [] rfl rfl rfl) I0 (pM (aT 45 bT) (Ze (Zd (Zk (Zj ?_)))))))))))))))))
 refine Zs Try.results4 (.tmp rfl) ?_
 exact rfl
 refine Za (oA (fb 0 3 U33 10) I0 (oB (lS (cFm p) 10 15 U27) I0 rfl (oC (sc #[.tmp 16] [] (Yd (Big_c HP) hs1f) [.agg (cFm p)] rfl rfl rfl) I0 I0 (pM (mT 17 bF) (gA (fb 13 3 U33 6) I0 (gB (lS (Rd.cCg c) 6 19 U31) I0 rfl (gC (sc #[.tmp 20] [] (Yd (Rd.Wide_c HI) hs2f) [.agg (Rd.cCg c)] rfl rfl rfl) I0 I0 (pP (pk false bT bF rfl) (pM (mT 22 bF) (gA (fb 0 3 U33 10) I0 (gA (fb 1 24 U27 1) I0 (gB (lb (iv p.top) 25 U3) I0 rfl (gC (Z0 rfl (dF' hs3)) I0 I0 (pP (pk false bT bT rfl) (pM (mT 28 bT) (qK (qK (qK (qK (qK (qK (qK (qK ?_)))))))))))))))))))))))
 refine pP (pk true bT (.v (.tuple #[])) rfl) (pM (mT 38 bT) (qK (qK (qK (qK (pP (pk true bT (.v (.tuple #[])) rfl) (Ze (Zd (Zm rfl (Zb (Za (oA (sc #[] [] Sh.zknown_c [] rfl rfl rfl) I0 (pM (aT 45 bT) (Ze (Zd (Zk (Zj ?_)))))))))))))))))
 refine Zs Try.results4 (.tmp rfl) ?_
 exact rfl
theorem walk_UnfoldPermutes {v:Value} {p:Fm} {n t f:Int} {c:Cf} {x y kp wa wb:Int} (w:World) (h:IsAt w v p n t f c) (_:I64 x) (_:I64 y) (_:I64 kp) (_:I64 wa) (_:I64 wb) :
    Calls Try.prog 4 #[v,.agg #[.int .i64 x,.int .i64 y,.int .i64 kp],.agg #[.int .i64 wa,.int .i64 wb]] w fun e w'=>e = .returned (.bool true)∧Below w.heap.size w w':=by
  have hp:=Rd.at_pu h
  obtain ⟨fs,cs,_,hF,hC⟩:=h
  exact (lawPermutes_c (J:=fun _=>True) hF.ok (Rd.cf_in hC) w #[v,.agg #[.int .i64 x,.int .i64 y,.int .i64 kp],.agg #[.int .i64 wa,.int .i64 wb]] (fun _ _=>T0) rfl fun j hj=>(match j,hj with
    | 0,_=>hp
    | 1,_ => .agg rfl fun j hj=>(match j,hj with | 0,_ => .v _ | 1,_ => .v _ | 2,_ => .v _)
    | 2,_ => .agg rfl fun j hj=>(match j,hj with | 0,_ => .v _ | 1,_ => .v _))).mono fun _ _ ⟨_,he,hp,hb⟩=>⟨by rw [he,hp.v_inv],hb⟩
end Go.Proofs.Ytengacodacejiaa
namespace Go.Proofs.Ytengacodacejiaa
open Go.RowKit Go.Deep Go.ChangeShapes Go.WideShapes Go.ChangeAt Go.Joins
theorem cells_step:Try.prog.cellsOf 35=3:=by kernel_rfl
set_option maxRecDepth 100000 in
theorem step_of_trod {H:Type} {enc:TypeId × Value→H} {w:World} {base:Nat} {sp:Nat→Bool} {held:Bool} {n:Nat} {cs:List Value} {x:DataW H × List MemPlace} (h:DataW.trod enc Try.prog w base sp held n 35 cs=some x) :
    ∃ c0 c1 c2,cs=[.int .i64 c0,.int .i64 c1,.int .i64 c2]∧I64 c0∧I64 c1∧I64 c2:=by
  obtain ⟨ys,m,_,_,hlen,_,hf⟩:=DataW.trod_struct Try.underlying35 h
  rw [cells_step] at hlen
  match cs,hlen with
  | [v0,v1,v2],_ =>
    have h0:DataW.trod enc Try.prog w base sp held m 3 (([v0,v1,v2].drop 0).take (Try.prog.cellsOf 3))=ys[0]? := hf 0 _ rfl
    have h1:DataW.trod enc Try.prog w base sp held m 3 (([v0,v1,v2].drop 1).take (Try.prog.cellsOf 3))=ys[1]? := hf 1 _ rfl
    have h2:DataW.trod enc Try.prog w base sp held m 3 (([v0,v1,v2].drop 2).take (Try.prog.cellsOf 3))=ys[2]? := hf 2 _ rfl
    rw [ZW] at h0 h1 h2
    simp only [List.drop_zero,List.take_succ_cons,List.take_zero] at h0
    simp only [List.drop_succ_cons,List.drop_zero,List.take_succ_cons,List.take_zero] at h1 h2
    have hx:∀ i,i<3→∃ y,ys[i]? = some y:=fun i hi=>⟨ys[i]'(by simp at *;omega),List.getElem?_eq_getElem _⟩
    obtain ⟨y0,e0⟩:=hx 0 (by omega)
    rw [e0] at h0
    obtain ⟨c0,rfl,q0⟩:=ZK h0
    obtain ⟨y1,e1⟩:=hx 1 (by omega)
    rw [e1] at h1
    obtain ⟨c1,rfl,q1⟩:=ZK h1
    obtain ⟨y2,e2⟩:=hx 2 (by omega)
    rw [e2] at h2
    obtain ⟨c2,rfl,q2⟩:=ZK h2
    exact ⟨c0,c1,c2,rfl,q0,q1,q2⟩
set_option maxRecDepth 100000 in
theorem arg_step {H:Type} {enc:TypeId × Value→H} {w:World} {r:Reach} {b0:Nat} {v:Value} {d:DataW H} {p:List MemPlace} (hv:Value.okWide Try.prog w r b0 35 v) (h:DataW.Trod enc Try.prog w 0 (fun _=>true) true 35 v d p) :
    ∃ c0 c1 c2,v = .agg #[.int .i64 c0,.int .i64 c1,.int .i64 c2]∧I64 c0∧I64 c1∧I64 c2:=by
  obtain ⟨cs,rfl,_⟩:=okWide_struct Try.underlying35 hv
  obtain ⟨fuel,hf⟩:=h
  obtain ⟨c0,c1,c2,e,q⟩:=step_of_trod hf
  have e2:cs = #[.int .i64 c0,.int .i64 c1,.int .i64 c2]:=by obtain ⟨l⟩:=cs;simp [Value.cells] at e;simpa using e
  exact ⟨c0,c1,c2,by rw [e2],q⟩
theorem cells_swap:Try.prog.cellsOf 50=2:=by kernel_rfl
set_option maxRecDepth 100000 in
theorem swap_of_trod {H:Type} {enc:TypeId × Value→H} {w:World} {base:Nat} {sp:Nat→Bool} {held:Bool} {n:Nat} {cs:List Value} {x:DataW H × List MemPlace} (h:DataW.trod enc Try.prog w base sp held n 50 cs=some x) :
    ∃ c0 c1,cs=[.int .i64 c0,.int .i64 c1]∧I64 c0∧I64 c1:=by
  obtain ⟨ys,m,_,_,hlen,_,hf⟩:=DataW.trod_struct Try.underlying50 h
  rw [cells_swap] at hlen
  match cs,hlen with
  | [v0,v1],_ =>
    have h0:DataW.trod enc Try.prog w base sp held m 3 (([v0,v1].drop 0).take (Try.prog.cellsOf 3))=ys[0]? := hf 0 _ rfl
    have h1:DataW.trod enc Try.prog w base sp held m 3 (([v0,v1].drop 1).take (Try.prog.cellsOf 3))=ys[1]? := hf 1 _ rfl
    rw [ZW] at h0 h1
    simp only [List.drop_zero,List.take_succ_cons,List.take_zero] at h0
    simp only [List.drop_succ_cons,List.drop_zero,List.take_succ_cons,List.take_zero] at h1
    have hx:∀ i,i<2→∃ y,ys[i]? = some y:=fun i hi=>⟨ys[i]'(by simp at *;omega),List.getElem?_eq_getElem _⟩
    obtain ⟨y0,e0⟩:=hx 0 (by omega)
    rw [e0] at h0
    obtain ⟨c0,rfl,q0⟩:=ZK h0
    obtain ⟨y1,e1⟩:=hx 1 (by omega)
    rw [e1] at h1
    obtain ⟨c1,rfl,q1⟩:=ZK h1
    exact ⟨c0,c1,rfl,q0,q1⟩
set_option maxRecDepth 100000 in
theorem arg_swap {H:Type} {enc:TypeId × Value→H} {w:World} {r:Reach} {b0:Nat} {v:Value} {d:DataW H} {p:List MemPlace} (hv:Value.okWide Try.prog w r b0 50 v) (h:DataW.Trod enc Try.prog w 0 (fun _=>true) true 50 v d p) :
    ∃ c0 c1,v = .agg #[.int .i64 c0,.int .i64 c1]∧I64 c0∧I64 c1:=by
  obtain ⟨cs,rfl,_⟩:=okWide_struct Try.underlying50 hv
  obtain ⟨fuel,hf⟩:=h
  obtain ⟨c0,c1,e,q⟩:=swap_of_trod hf
  have e2:cs = #[.int .i64 c0,.int .i64 c1]:=by obtain ⟨l⟩:=cs;simp [Value.cells] at e;simpa using e
  exact ⟨c0,c1,by rw [e2],q⟩
end Go.Proofs.Ytengacodacejiaa
