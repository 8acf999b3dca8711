import Derived.Test.YtdbehgbggaaipaaGreatGrppclnemjd
import Derived.Test.YtdbehgbggaaipaaGreatGrpjljjncbf
import Derived.Test.YtdbehgbggaaipaaGreatGrpebeobalj
import Derived.Test.YtdbehgbggaaipaaGreatGrphcbildpf
import Derived.Test.YtdbehgbggaaipaaGreatGrplepkmfdd
import Derived.Test.YtdbehgbggaaipaaGreatGrpghglnpgc
import Derived.Test.YtdbehgbggaaipaaGreatGrppibiedhl
import Derived.Test.YtdbehgbggaaipaaGreatGrpinmkkjpe
import Derived.Test.YtdbehgbggaaipaaGreatGrpkdeckmpc
set_option linter.all false
namespace Go.Proofs.YtdbehgbggaaipaaGreat
open Go.RowKit Go.Deep
set_option maxRecDepth 100000
set_option maxHeartbeats 6400000
variable {J:World→Prop}
namespace En
end En
abbrev Ze5 (x0:Fm) (x1:Int) (x2:Int) (x3:Int) (x4:Cf) (x5:List Rp.Sp):List (Nat × AV):=[(0,.agg (cFm x0)),(1,.agg (cSz x1 x2 x3)),(2,.agg (Rp.cRun x4 x5))]
variable {p:Fm}{n t f:Int}{c:Cf}
theorem Replay_sys (HP:FmOk p) (HL:FamLen p) (HC:Rd.CgOk c) {ss:List Rp.Sp} (hs:¬ Ns.sysE p n t f=0):Ctr Tryz.prog J 13 [.agg (cFm p),.agg (cSz n t f),.agg (Rp.cRun c ss)] (.tup [slA 6 Rd.cCg (Rp.rpL p n t f c ss),iv (Rp.rpE p n t f c ss)]):=by
 refine Zm Tryz.func13 rfl (pN (Zh (ZS p)) (pN (Zh (Ya n t f)) (pN (Zh (fun X hX=>by rcases List.mem_append.1 hX with h | h;exact Rd.plain_cg c X h;rw [List.mem_singleton.1 h];exact Yx Rp.plain_cSp _)) pZ))) (n:=62) rfl (by simp) (fun w0 => ?_)
 refine kW 62 [] (Ze5 p n t f c ss) (jB (oA (ZD (X := .agg (cFm p)) (.tmp 0) rfl rfl rfl) I0 (oA (ZD (X := .agg (cSz n t f)) (.tmp 1) rfl rfl rfl) I0 (oA (ZD (X := .agg (Rp.cRun c ss)) (.tmp 2) rfl rfl rfl) I0 (oS (nz) (oS (iv 0) (jD (Za (oA (Zj (z:=10) (.tmp 3) rfl U27 rfl (by kernel_rfl) rfl rfl) I0 (oA (Zj (z:=3) (.tmp 4) rfl U29 rfl (by kernel_rfl) rfl rfl) I0 (oD (Zbb (c := .func 29) (xs := #[.tmp 16,.tmp 17]) (ZcW HP hs) rfl (by kernel_rfl) rfl (Xs:=[.agg (cFm p),.agg (cSz n t f)]) rfl rfl) I0 I0 I0 (oS (.tup [.v (.pointer none),iv (Ns.sysE p n t f)]) (oW (oW (oS (.v (.pointer none)) (oS (iv (Ns.sysE p n t f)) (jD (Zl ?_))))))))))))))))))
 refine Za (oS (iv (Ns.sysE p n t f)) (oC (YJ rfl (dF' hs)) I0 I0 (jG (oW (oS (nz) (oS (iv (Ns.sysE p n t f)) (jE (Zc ?_))))))))
 refine Yk (Zaa 6 1 true 31 6 rfl rfl rfl) ?_
 refine ZQ Tryz.results13 (.tmp rfl) (.tmp rfl) ?_
 have e1:=Rp.rp_sys (c:=c) (ss:=ss) hs
 rw [Rp.rpL_no (by rw [e1];exact hs),e1]
 exact rfl
theorem Replay_run (HP:FmOk p) (HL:FamLen p) (HC:Rd.CgOk c) {ss:List Rp.Sp} (hs:Ns.sysE p n t f=0) (hx:Rd.rdX p n f c=false):Ctr Tryz.prog J 13 [.agg (cFm p),.agg (cSz n t f),.agg (Rp.cRun c ss)] (.tup [slA 6 Rd.cCg (Rp.rpL p n t f c ss),iv (Rp.rpE p n t f c ss)]):=by
 refine Zm Tryz.func13 rfl (pN (Zh (ZS p)) (pN (Zh (Ya n t f)) (pN (Zh (fun X hX=>by rcases List.mem_append.1 hX with h | h;exact Rd.plain_cg c X h;rw [List.mem_singleton.1 h];exact Yx Rp.plain_cSp _)) pZ))) (n:=62) rfl (by simp) (fun w0 => ?_)
 refine kW 62 [] (Ze5 p n t f c ss) (jB (oA (ZD (X := .agg (cFm p)) (.tmp 0) rfl rfl rfl) I0 (oA (ZD (X := .agg (cSz n t f)) (.tmp 1) rfl rfl rfl) I0 (oA (ZD (X := .agg (Rp.cRun c ss)) (.tmp 2) rfl rfl rfl) I0 (oS (nz) (oS (iv 0) (jD (Za (oA (Zj (z:=10) (.tmp 3) rfl U27 rfl (by kernel_rfl) rfl rfl) I0 (oA (Zj (z:=3) (.tmp 4) rfl U29 rfl (by kernel_rfl) rfl rfl) I0 (oD (Zbb (c := .func 29) (xs := #[.tmp 16,.tmp 17]) (ZbH HP hs) rfl (by kernel_rfl) rfl (Xs:=[.agg (cFm p),.agg (cSz n t f)]) rfl rfl) I0 I0 I0 (oS (.tup [.el (En.sysP p n t f) 0,iv 0]) (oW (oW (oS (.el (En.sysP p n t f) 0) (oS (iv 0) (jD (Zl ?_))))))))))))))))))
 refine Za (oS (iv 0) (oC (YJ (r:=false) rfl (by decide)) I0 I0 (jF (jB (oW (oS (.el (Rp.cRun c ss) 0) (oA (Zj (z:=6) (ds:=[Zb c.sh,Zb c.st,iv c.cor,Zb c.se,Zb c.fa,iv c.val]) (.tmp 26) rfl U31 rfl (by kernel_rfl) (by kernel_rfl) rfl) I0 (oK (En.read_q HC hx) [.el (En.sysP p n t f) 0,.agg [Zb c.sh,Zb c.st,iv c.cor,Zb c.se,Zb c.fa,iv c.val]] rfl rfl (oS (.tup [.fr (.agg (Rd.cfZ false (Rd.shI p.top (Ns.shT p.top (Ns.cntE p n f)) c.sh) c)),bF]) (oS (.fr (.agg (Rd.cfZ false (Rd.shI p.top (Ns.shT p.top (Ns.cntE p n f)) c.sh) c))) (oW (oZ 1 Z71 (Y6 rfl (sB 16 10 (.tmp 29) (.agg [iv (Rd.zz false (Rd.shI p.top (Ns.shT p.top (Ns.cntE p n f)) c.sh)),iv (Rd.zz false (c.st.getD 0 0)),iv (Rd.zz false (c.st.getD 1 0)),iv (Rd.zz false (c.st.getD 2 0)),iv (Rd.zz false (c.st.getD 3 0)),iv (Rd.zz false (c.st.getD 4 0)),iv (Rd.zz false (c.st.getD 5 0)),iv (Rd.zz false (c.st.getD 6 0)),iv (Rd.zz false (c.st.getD 7 0)),iv (Rd.zz false (c.se.getD 0 0)),iv (Rd.zz false (c.se.getD 1 0)),iv (Rd.zz false (c.se.getD 2 0)),iv (Rd.zz false (c.fa.getD 0 0)),iv (Rd.zz false (c.fa.getD 1 0)),iv (Rd.zz false (c.fa.getD 2 0)),iv (Rd.zz false c.val)])) ⟨I0,.inr (.inr (.inl ⟨_,rfl,rfl⟩)),T0⟩ ⟨rfl,T0⟩ rfl (oS bF (jD (Zl ?_))))))))))))))))
 refine Za (oF bT (jG (oS (nz) (oS (iv 10) (jE (Zc ?_))))))
 refine Yk (Zaa 6 2 true 31 6 rfl rfl rfl) ?_
 refine ZQ Tryz.results13 (.tmp rfl) (.tmp rfl) ?_
 have e1:=Rp.rp_run (ss:=ss) hs hx
 rw [Rp.rpL_no (by rw [e1];decide),e1]
 exact rfl
theorem Replay_go (HP:FmOk p) (HL:FamLen p) (HC:Rd.CgOk c) {ss:List Rp.Sp} (hs:Ns.sysE p n t f=0) (hx:Rd.rdX p n f c=true) (hl:ss.length≤300):Ctr Tryz.prog J 13 [.agg (cFm p),.agg (cSz n t f),.agg (Rp.cRun c ss)] (.tup [slA 6 Rd.cCg (Rp.rpL p n t f c ss),iv (Rp.rpE p n t f c ss)]):=by
 have hc:=En.cf_in hx
 refine Zm Tryz.func13 rfl (pN (Zh (ZS p)) (pN (Zh (Ya n t f)) (pN (Zh (fun X hX=>by rcases List.mem_append.1 hX with h | h;exact Rd.plain_cg c X h;rw [List.mem_singleton.1 h];exact Yx Rp.plain_cSp _)) pZ))) (n:=62) rfl (by simp) (fun w0 => ?_)
 refine kW 62 [] (Ze5 p n t f c ss) (jB (oA (ZD (X := .agg (cFm p)) (.tmp 0) rfl rfl rfl) I0 (oA (ZD (X := .agg (cSz n t f)) (.tmp 1) rfl rfl rfl) I0 (oA (ZD (X := .agg (Rp.cRun c ss)) (.tmp 2) rfl rfl rfl) I0 (oS (nz) (oS (iv 0) (jD (Za (oA (Zj (z:=10) (.tmp 3) rfl U27 rfl (by kernel_rfl) rfl rfl) I0 (oA (Zj (z:=3) (.tmp 4) rfl U29 rfl (by kernel_rfl) rfl rfl) I0 (oD (Zbb (c := .func 29) (xs := #[.tmp 16,.tmp 17]) (ZbH HP hs) rfl (by kernel_rfl) rfl (Xs:=[.agg (cFm p),.agg (cSz n t f)]) rfl rfl) I0 I0 I0 (oS (.tup [.el (En.sysP p n t f) 0,iv 0]) (oW (oW (oS (.el (En.sysP p n t f) 0) (oS (iv 0) (jD (Zl ?_))))))))))))))))))
 refine Za (oS (iv 0) (oC (YJ (r:=false) rfl (by decide)) I0 I0 (jF (jB (oW (oS (.el (Rp.cRun c ss) 0) (oA (Zj (z:=6) (ds:=[Zb c.sh,Zb c.st,iv c.cor,Zb c.se,Zb c.fa,iv c.val]) (.tmp 26) rfl U31 rfl (by kernel_rfl) (by kernel_rfl) rfl) I0 (oK (En.read_p HC hx) [.el (En.sysP p n t f) 0,.agg [Zb c.sh,Zb c.st,iv c.cor,Zb c.se,Zb c.fa,iv c.val]] rfl rfl (oS (.tup [.fr (.agg (En.cfV (Rd.shI p.top (Ns.shT p.top (Ns.cntE p n f)) c.sh) c)),bT]) (oS (.fr (.agg (En.cfV (Rd.shI p.top (Ns.shT p.top (Ns.cntE p n f)) c.sh) c))) (oW (oZ 1 Z71 (Y6 rfl (sB 16 10 (.tmp 29) (.agg [iv (Rd.shI p.top (Ns.shT p.top (Ns.cntE p n f)) c.sh),iv (c.st.getD 0 0),iv (c.st.getD 1 0),iv (c.st.getD 2 0),iv (c.st.getD 3 0),iv (c.st.getD 4 0),iv (c.st.getD 5 0),iv (c.st.getD 6 0),iv (c.st.getD 7 0),iv (c.se.getD 0 0),iv (c.se.getD 1 0),iv (c.se.getD 2 0),iv (c.fa.getD 0 0),iv (c.fa.getD 1 0),iv (c.fa.getD 2 0),iv c.val])) ⟨I0,.inr (.inr (.inl ⟨_,rfl,rfl⟩)),T0⟩ ⟨rfl,T0⟩ rfl (oS bT (jD (Zl ?_))))))))))))))))
 refine Za (oF bF (jF (jB (oW (oW (oK (writeK HL HC hs hc (k:=0) (Nat.zero_le _) Rp.ok_zero) [.el (En.sysP p n t f) 0,.agg [iv (Rd.shI p.top (Ns.shT p.top (Ns.cntE p n f)) c.sh),iv (c.st.getD 0 0),iv (c.st.getD 1 0),iv (c.st.getD 2 0),iv (c.st.getD 3 0),iv (c.st.getD 4 0),iv (c.st.getD 5 0),iv (c.st.getD 6 0),iv (c.st.getD 7 0),iv (c.se.getD 0 0),iv (c.se.getD 1 0),iv (c.se.getD 2 0),iv (c.fa.getD 0 0),iv (c.fa.getD 1 0),iv (c.fa.getD 2 0),iv c.val]] rfl rfl (Y6 rfl (Wv (z:=6) (k:=2) (fr:=true) (cs:=[Zb ((Rp.cK p n f c ss 0).sh),Zb ((Rp.cK p n f c ss 0).st),iv ((Rp.cK p n f c ss 0).cor),Zb ((Rp.cK p n f c ss 0).se),Zb ((Rp.cK p n f c ss 0).fa),iv ((Rp.cK p n f c ss 0).val)]) [.tmp 35] [.agg [.fr (Zb ((Rp.cK p n f c ss 0).sh)),.fr (Zb ((Rp.cK p n f c ss 0).st)),iv ((Rp.cK p n f c ss 0).cor),.fr (Zb ((Rp.cK p n f c ss 0).se)),.fr (Zb ((Rp.cK p n f c ss 0).fa)),iv ((Rp.cK p n f c ss 0).val)]] rfl U49 (by kernel_rfl) (by decide) (by decide) rfl rfl rfl (by kernel_rfl) (by decide) (fun _=>by simp [AV.cellsOf,AV.isNew,cLn,cTh]) (by kernel_rfl)) ⟨.inr (.inr (.inl ⟨_,rfl,rfl⟩)),T0⟩ T0 rfl (oS (.own 2) (jD (jB (oF (slA 3 Rp.cSp ss) (oS (iv ss.length) (oS (iv 0) (kN 62 [(1,.box 71 [iv (Rd.shI p.top (Ns.shT p.top (Ns.cntE p n f)) c.sh),iv (c.st.getD 0 0),iv (c.st.getD 1 0),iv (c.st.getD 2 0),iv (c.st.getD 3 0),iv (c.st.getD 4 0),iv (c.st.getD 5 0),iv (c.st.getD 6 0),iv (c.st.getD 7 0),iv (c.se.getD 0 0),iv (c.se.getD 1 0),iv (c.se.getD 2 0),iv (c.fa.getD 0 0),iv (c.fa.getD 1 0),iv (c.fa.getD 2 0),iv c.val]),(2,.row true 31 6 1 ([Zb ((Rp.cK p n f c ss 0).sh),Zb ((Rp.cK p n f c ss 0).st),iv ((Rp.cK p n f c ss 0).cor),Zb ((Rp.cK p n f c ss 0).se),Zb ((Rp.cK p n f c ss 0).fa),iv ((Rp.cK p n f c ss 0).val)]))] [(6,nz),(7,iv 0),(8,.el (En.sysP p n t f) 0),(9,iv 0),(10,bx 1),(12,.own 2),(38,slA 3 Rp.cSp ss),(39,iv ss.length),(40,iv 0)] (Zf ?_)))))))))))))))
 refine Zo ?_
 refine ZL (σ:={k:Nat // k≤ss.length∧Rp.okK p n t f c ss k}) (fun s=>(ofL [(1,.box 71 (En.cfV (Rd.shI p.top (Ns.shT p.top (Ns.cntE p n f)) c.sh) (Rp.cK p n f c ss s.1))),(2,.row true 31 6 (s.1+1) ((Rp.rpK p n f c ss s.1).flatMap Rd.cCg))],ofT 62 [(8,.el (En.sysP p n t f) 0),(10,bx 1),(12,.own 2),(38,slA 3 Rp.cSp ss),(39,iv ss.length),(40,iv s.1)])) (fun s=>ss.length-s.1) ⟨0,Nat.zero_le _,Rp.ok_zero⟩ (Zp _ _) (fun s => ?_)
 obtain ⟨k,hk0,ok⟩:=s
 show ETri J w0 (ofL [(1,.box 71 (En.cfV (Rd.shI p.top (Ns.shT p.top (Ns.cntE p n f)) c.sh) (Rp.cK p n f c ss k))),(2,.row true 31 6 (k+1) ((Rp.rpK p n f c ss k).flatMap Rd.cCg))]) (ofT 62 [(8,.el (En.sysP p n t f) 0),(10,bx 1),(12,.own 2),(38,slA 3 Rp.cSp ss),(39,iv ss.length),(40,iv k)]) _
 refine Zl ?_
 by_cases hs1:(k:Int)<(ss.length:Int)
 have hk1:k<ss.length:=by omega
 refine Za (ol (dT hs1) (jD (Yb rfl (Zq (jC (Zo (jB (oC (xS (k*3) 38 40 U45) I0 I0 (oA (Zj (z:=3) (.tmp 42) rfl U35 rfl (by kernel_rfl) (Z9 Rp.len_cSp ss k (by omega)) rfl) I0 (oZ 3 Z35 (oY (kN 62 [(1,.box 71 (En.cfV (Rd.shI p.top (Ns.shT p.top (Ns.cntE p n f)) c.sh) (Rp.cK p n f c ss k))),(2,.row true 31 6 (k+1) ((Rp.rpK p n f c ss k).flatMap Rd.cCg)),(3,.box 35 (Rp.cSp ss[k]))] [(8,.el (En.sysP p n t f) 0),(10,bx 1),(12,.own 2),(14,bx 3),(38,slA 3 Rp.cSp ss),(39,iv ss.length),(40,iv k),(41,bT)] (jC (Zl ?_))))))))))))))
 by_cases hs2:(Rp.ee p n t f (Rp.cK p n f c ss k) ss[k])=0
 refine Za (oW (oW (oW (oK (applyK0 HL HC hs hc hk0 ok hk1 hs2) [.el (En.sysP p n t f) 0,.agg (En.cfV (Rd.shI p.top (Ns.shT p.top (Ns.cntE p n f)) c.sh) (Rp.cK p n f c ss k)),.agg (Rp.cSp ss[k])] rfl rfl (oS (.tup [.fr (.agg (En.cfV (Rd.shI p.top (Ns.shT p.top (Ns.cntE p n f)) c.sh) (Rp.cK p n f c ss (k+1)))),iv 0]) (oS (.fr (.agg (En.cfV (Rd.shI p.top (Ns.shT p.top (Ns.cntE p n f)) c.sh) (Rp.cK p n f c ss (k+1))))) (oW (Y6 rfl (sB 16 10 (.tmp 49) (.agg [iv (Rd.shI p.top (Ns.shT p.top (Ns.cntE p n f)) c.sh),iv ((Rp.cK p n f c ss (k+1)).st.getD 0 0),iv ((Rp.cK p n f c ss (k+1)).st.getD 1 0),iv ((Rp.cK p n f c ss (k+1)).st.getD 2 0),iv ((Rp.cK p n f c ss (k+1)).st.getD 3 0),iv ((Rp.cK p n f c ss (k+1)).st.getD 4 0),iv ((Rp.cK p n f c ss (k+1)).st.getD 5 0),iv ((Rp.cK p n f c ss (k+1)).st.getD 6 0),iv ((Rp.cK p n f c ss (k+1)).st.getD 7 0),iv ((Rp.cK p n f c ss (k+1)).se.getD 0 0),iv ((Rp.cK p n f c ss (k+1)).se.getD 1 0),iv ((Rp.cK p n f c ss (k+1)).se.getD 2 0),iv ((Rp.cK p n f c ss (k+1)).fa.getD 0 0),iv ((Rp.cK p n f c ss (k+1)).fa.getD 1 0),iv ((Rp.cK p n f c ss (k+1)).fa.getD 2 0),iv ((Rp.cK p n f c ss (k+1)).val)])) ⟨I0,.inr (.inr (.inl ⟨_,rfl,rfl⟩)),T0⟩ ⟨rfl,T0⟩ rfl (oS (iv 0) (jD (Za (oS (iv 0) (oC (YJ (r:=false) rfl (by decide)) I0 I0 (jF (Za (oS (.own 2) (oW ?_)))))))))))))))))
 refine oW (oK (writeK HL HC hs hc (by omega) (Rp.ok_succ hk1 ok hs2)) [.el (En.sysP p n t f) 0,.agg [iv (Rd.shI p.top (Ns.shT p.top (Ns.cntE p n f)) c.sh),iv ((Rp.cK p n f c ss (k+1)).st.getD 0 0),iv ((Rp.cK p n f c ss (k+1)).st.getD 1 0),iv ((Rp.cK p n f c ss (k+1)).st.getD 2 0),iv ((Rp.cK p n f c ss (k+1)).st.getD 3 0),iv ((Rp.cK p n f c ss (k+1)).st.getD 4 0),iv ((Rp.cK p n f c ss (k+1)).st.getD 5 0),iv ((Rp.cK p n f c ss (k+1)).st.getD 6 0),iv ((Rp.cK p n f c ss (k+1)).st.getD 7 0),iv ((Rp.cK p n f c ss (k+1)).se.getD 0 0),iv ((Rp.cK p n f c ss (k+1)).se.getD 1 0),iv ((Rp.cK p n f c ss (k+1)).se.getD 2 0),iv ((Rp.cK p n f c ss (k+1)).fa.getD 0 0),iv ((Rp.cK p n f c ss (k+1)).fa.getD 1 0),iv ((Rp.cK p n f c ss (k+1)).fa.getD 2 0),iv ((Rp.cK p n f c ss (k+1)).val)]] rfl rfl (Y6 rfl (Wv (z:=6) (k:=4) (fr:=false) (cs:=[.fr (Zb ((Rp.cK p n f c ss (k+1)).sh)),.fr (Zb ((Rp.cK p n f c ss (k+1)).st)),iv ((Rp.cK p n f c ss (k+1)).cor),.fr (Zb ((Rp.cK p n f c ss (k+1)).se)),.fr (Zb ((Rp.cK p n f c ss (k+1)).fa)),iv ((Rp.cK p n f c ss (k+1)).val)]) [.tmp 57] [.agg [.fr (Zb ((Rp.cK p n f c ss (k+1)).sh)),.fr (Zb ((Rp.cK p n f c ss (k+1)).st)),iv ((Rp.cK p n f c ss (k+1)).cor),.fr (Zb ((Rp.cK p n f c ss (k+1)).se)),.fr (Zb ((Rp.cK p n f c ss (k+1)).fa)),iv ((Rp.cK p n f c ss (k+1)).val)]] rfl U49 (by kernel_rfl) (by decide) (by decide) rfl rfl rfl (by kernel_rfl) (by decide) (fun h=>Bool.noConfusion h) (by kernel_rfl)) ⟨.inr (.inr (.inl ⟨_,rfl,rfl⟩)),T0⟩ T0 rfl (Y6 rfl (WU (n:=(k+1)) (cs:=((Rp.rpK p n f c ss k).flatMap Rd.cCg)) (fr:=true) (m:=1) (ds:=[.fr (Zb ((Rp.cK p n f c ss (k+1)).sh)),.fr (Zb ((Rp.cK p n f c ss (k+1)).st)),iv ((Rp.cK p n f c ss (k+1)).cor),.fr (Zb ((Rp.cK p n f c ss (k+1)).se)),.fr (Zb ((Rp.cK p n f c ss (k+1)).fa)),iv ((Rp.cK p n f c ss (k+1)).val)]) (⟨U49,by kernel_rfl,by decide⟩:Elt Tryz.prog 49 31 6 112) (.tmp 54) (.tmp 58) rfl (fun _=>Rp.newCg _) (by unfold maxLen;omega) (by omega) (Rp.cellCg _) (es:=((Rp.rpK p n f c ss (k+1)).flatMap Rd.cCg)) Rp.snocCg) ⟨I0,I0,T0⟩ ⟨rfl,rfl,T0⟩ rfl (oS (.own 2) (Yh (Zv (Zf (Za (oV ((k+1:Nat):Int) (oS (iv (k+1:Nat)) (kN 62 [(1,.box 71 [iv (Rd.shI p.top (Ns.shT p.top (Ns.cntE p n f)) c.sh),iv ((Rp.cK p n f c ss (k+1)).st.getD 0 0),iv ((Rp.cK p n f c ss (k+1)).st.getD 1 0),iv ((Rp.cK p n f c ss (k+1)).st.getD 2 0),iv ((Rp.cK p n f c ss (k+1)).st.getD 3 0),iv ((Rp.cK p n f c ss (k+1)).st.getD 4 0),iv ((Rp.cK p n f c ss (k+1)).st.getD 5 0),iv ((Rp.cK p n f c ss (k+1)).st.getD 6 0),iv ((Rp.cK p n f c ss (k+1)).st.getD 7 0),iv ((Rp.cK p n f c ss (k+1)).se.getD 0 0),iv ((Rp.cK p n f c ss (k+1)).se.getD 1 0),iv ((Rp.cK p n f c ss (k+1)).se.getD 2 0),iv ((Rp.cK p n f c ss (k+1)).fa.getD 0 0),iv ((Rp.cK p n f c ss (k+1)).fa.getD 1 0),iv ((Rp.cK p n f c ss (k+1)).fa.getD 2 0),iv ((Rp.cK p n f c ss (k+1)).val)]),(2,.row true 31 6 (k+1+1) ((Rp.rpK p n f c ss (k+1)).flatMap Rd.cCg)),(3,.box 35 (Rp.cSp ss[k]))] [(8,.el (En.sysP p n t f) 0),(9,iv 0),(10,bx 1),(12,.own 2),(14,bx 3),(38,slA 3 Rp.cSp ss),(39,iv ss.length),(40,iv (k+1:Nat)),(41,bT),(52,bF)] (Zf ?_))))))))))))
 refine Zs ⟨k+1,by omega,Rp.ok_succ hk1 ok hs2⟩ (show ss.length-(k+1)<ss.length-k by omega) ?_
 show Wk _ _ (ofL [(1,.box 71 (En.cfV (Rd.shI p.top (Ns.shT p.top (Ns.cntE p n f)) c.sh) (Rp.cK p n f c ss (k+1)))),(2,.row true 31 6 ((k+1)+1) ((Rp.rpK p n f c ss (k+1)).flatMap Rd.cCg))]) (ofT 62 [(8,.el (En.sysP p n t f) 0),(10,bx 1),(12,.own 2),(38,slA 3 Rp.cSp ss),(39,iv ss.length),(40,iv ((k+1):Nat))])
 exact Zp _ _
 refine Za (oW (oW (oW (oK (applyK1 HL HC hs hc hk0 ok hk1 hs2) [.el (En.sysP p n t f) 0,.agg (En.cfV (Rd.shI p.top (Ns.shT p.top (Ns.cntE p n f)) c.sh) (Rp.cK p n f c ss k)),.agg (Rp.cSp ss[k])] rfl rfl (oS (.tup [.fr (.agg Ap.z16),iv (Rp.ee p n t f (Rp.cK p n f c ss k) ss[k])]) (oS (.fr (.agg Ap.z16)) (oW (Y6 rfl (sB 16 10 (.tmp 49) (.agg [iv 0,iv 0,iv 0,iv 0,iv 0,iv 0,iv 0,iv 0,iv 0,iv 0,iv 0,iv 0,iv 0,iv 0,iv 0,iv 0])) ⟨I0,.inr (.inr (.inl ⟨_,rfl,rfl⟩)),T0⟩ ⟨rfl,T0⟩ rfl (oS (iv (Rp.ee p n t f (Rp.cK p n f c ss k) ss[k])) (jD (Za (oW (on (dF' hs2) (jG (oW (oS (nz) (oS (iv (Rp.ee p n t f (Rp.cK p n f c ss k) ss[k])) ?_)))))))))))))))))
 refine jE (Zc (Zn (Zc (Zc (Zn (Zc ?_))))))
 refine Yk (Zaa 6 4 true 31 6 rfl rfl rfl) ?_
 refine ZQ Tryz.results13 (.tmp rfl) (.tmp rfl) ?_
 have e1:=Rp.rp_err hs hx hk1 ok hs2
 rw [Rp.rpL_no (by rw [e1];exact hs2),e1]
 exact rfl
 refine Za (ol (dF hs1) (jD (ZA rfl (jO (jC (Za (oF (.own 2) (oS (iv 0) (jE ?_)))))))))
 refine ZQ Tryz.results13 (.tmp rfl) (.tmp rfl) ?_
 obtain rfl:k=ss.length:=by omega
 have e1:=Rp.rp_ok hs hx ok
 rw [Rp.rpL_yes e1,e1]
 unfold slA
 rw [Rp.rpK_len]
 exact rfl
theorem Replay_c (HP:FmOk p) (HL:FamLen p) (HC:Rd.CgOk c) {ss:List Rp.Sp} (hl:ss.length≤300):Ctr Tryz.prog J 13 [.agg (cFm p),.agg (cSz n t f),.agg (Rp.cRun c ss)] (.tup [slA 6 Rd.cCg (Rp.rpL p n t f c ss),iv (Rp.rpE p n t f c ss)]):=by
 by_cases hs:Ns.sysE p n t f=0
 ·cases hx:Rd.rdX p n f c with
  | true=>exact Replay_go HP HL HC hs hx hl
  | false=>exact Replay_run HP HL HC hs hx
 exact Replay_sys HP HL HC hs
theorem Kv {x lo hi:Int}:Ctr Tryz.prog J 42 [iv x,iv lo,iv hi] (bv (Rd.inW lo hi x)):=by
 refine Zm Tryz.func42 rfl (pN (.v _) (pN (.v _) (pN (.v _) pZ))) (n:=15) rfl (by simp) (fun w0 => ?_)
 refine kW 15 [] [(0,iv x),(1,iv lo),(2,iv hi)] (jB (oS bF (jD ?_)))
 by_cases hs1:lo≤x
 refine Za (oW (oW (oh (dT hs1) (oS bT (oS (iv x) (oS (iv hi) (gC (sp_leq rfl rfl) I0 I0 (oF (bv (decide (x≤hi))) (jE ?_)))))))))
 refine Zg Tryz.results42 (.tmp rfl) ?_
 exact cB ((by simp only [Rd.inW,hs1,decide_true,decide_false,Bool.and_true,Bool.true_and,Bool.false_and,Bool.and_false,Bool.not_true,Bool.not_false]))
 refine Za (oW (oW (oh (dF hs1) (oS bF (qK (qK (qK (oF bF (jE ?_)))))))))
 refine Zg Tryz.results42 (.tmp rfl) ?_
 exact cB ((by simp only [Rd.inW,hs1,decide_true,decide_false,Bool.and_true,Bool.true_and,Bool.false_and,Bool.and_false,Bool.not_true,Bool.not_false]))
abbrev ZaU (x0:Fm):List (Nat × ABlk):=[(1,.box 27 (cFm x0))]
theorem ZaA (lst:p.sz.length≤9223372036854775807) (xs:List Int) (lx:xs.length≤100):Ctr Tryz.prog J 54 [.agg (cFm p),Zb xs] (bv (Rd.belB xs (p.sz.length:Int))):=by
 refine Zm Tryz.func54 rfl (pN (Zh (ZS p)) (pN (ZK _) pZ)) (n:=22) rfl (by simp) (fun w0 => ?_)
 refine kW 22 [] [(0,.agg (cFm p)),(1,Zb xs)] (jB (oX 1 (.agg (cFm p)) (oS bF (jD (jB (oS (iv 0) (kN 22 (ZaU p) [(1,Zb xs),(2,bx 1),(4,bF),(5,iv 0)] (Zf (Zo ?_)))))))))
 refine ZL (σ:={k:Nat // k≤xs.length∧Rd.noP xs (Rd.outB (p.sz.length:Int)) k}) (fun s=>(ofL (ZaU p),ofT 22 [(1,Zb xs),(2,bx 1),(5,iv s.1)])) (fun s=>xs.length-s.1) ⟨0,Nat.zero_le _,Rd.noP_zero _ _⟩ (Zp _ _) (fun s => ?_)
 obtain ⟨k,hk0,hs0⟩:=s
 show ETri J w0 (ofL (ZaU p)) (ofT 22 [(1,Zb xs),(2,bx 1),(5,iv k)]) _
 refine jM ?_
 by_cases hs1:(k:Int)<(xs.length:Int)
 refine Za (oW (oW (oW (ol (dT hs1) (jH (Zq (jC (Zo (Zl ?_)))))))))
 by_cases hs2:(Rd.inW 0 ((p.sz.length:Int)-1) xs[k])=true
 refine tD (dS (Zb xs) (dS (iv k) (dC (xS (k*1) 12 13 U24) I0 I0 (dL (iv xs[k]) (Zw xs (by omega)) (dW (dW (dS (iv p.sz.length) (dC (Kq (c:=(p.sz.length:Int)-1) rfl (w64 (by omega) (by omega) (by omega))) I0 I0 (dk (Zr Kv hs2) [iv xs[k],iv 0,iv ((p.sz.length:Int)-1)] rfl rfl (dS bF (eD ?_)))))))))))
 refine kW 22 (ZaU p) [(1,Zb xs),(2,bx 1),(5,iv k),(9,bT),(21,bF)] (Zf (ZA rfl (Zq (Zv (Zf (Za (oS (iv k) (oV ((k+1:Nat):Int) (oS (iv (k+1:Nat)) (kN 22 (ZaU p) [(1,Zb xs),(2,bx 1),(5,iv (k+1:Nat)),(9,bT),(21,bF)] (Zf ?_)))))))))))
 refine Zs ⟨k+1,by omega,Rd.noP_succ (by omega) hs0 (Rd.inW_in hs2 (by omega))⟩ (show xs.length-(k+1)<xs.length-k by omega) ?_
 exact Zp _ _
 have hs2f:(Rd.inW 0 ((p.sz.length:Int)-1) xs[k])=false:=by simpa using hs2
 refine tD (dS (Zb xs) (dS (iv k) (dC (xS (k*1) 12 13 U24) I0 I0 (dL (iv xs[k]) (Zw xs (by omega)) (dW (dW (dS (iv p.sz.length) (dC (Kq (c:=(p.sz.length:Int)-1) rfl (w64 (by omega) (by omega) (by omega))) I0 I0 (dk (Zr Kv hs2f) [iv xs[k],iv 0,iv ((p.sz.length:Int)-1)] rfl rfl (dS bT (eD ?_)))))))))))
 refine kW 22 (ZaU p) [(1,Zb xs),(2,bx 1),(5,iv k),(9,bT),(21,bT)] (Zf (jK (oS bF (jE (Zn (Zc (Zc (Zn (Zc ?_)))))))))
 refine Zg Tryz.results54 (.tmp rfl) ?_
 exact cB ((Rd.bel_bad (by omega) (Rd.inW_out hs2f (by omega))).symm)
 refine Za (oW (oW (oW (ol (dF hs1) (jI (jO (jC (Za (oS bT (jE ?_))))))))))
 refine Zg Tryz.results54 (.tmp rfl) ?_
 exact cB ((Rd.bel_all (k:=k) (by omega) hs0).symm)
theorem WY (xs:List Int) (lx:xs.length≤100) {m:Int}:Ctr Tryz.prog J 55 [Zb xs,iv m] (bv (decide ((xs.length:Int)=m)&&Rd.belB xs 1048577)):=by
 refine Zm Tryz.func55 rfl (pN (ZK _) (pN (.v _) pZ)) (n:=22) rfl (by simp) (fun w0 => ?_)
 refine kW 22 [] [(0,Zb xs),(1,iv m)] (jB (oS bF (jD (Zl ?_))))
 by_cases hs1:(xs.length:Int)=m
 refine Za (oW (oW (oW (on (dT' hs1) (jF (jM (Za (oS (iv 0) (kN 22 [] [(0,Zb xs),(4,bF),(5,iv 0)] (Zf (Zo ?_)))))))))))
 refine ZL (σ:={k:Nat // k≤xs.length∧Rd.noP xs (Rd.outB 1048577) k}) (fun s=>(ofL [],ofT 22 [(0,Zb xs),(5,iv s.1)])) (fun s=>xs.length-s.1) ⟨0,Nat.zero_le _,Rd.noP_zero _ _⟩ (Zp [] _) (fun s => ?_)
 obtain ⟨k,hk0,hs0⟩:=s
 show ETri J w0 (ofL []) (ofT 22 [(0,Zb xs),(5,iv k)]) _
 refine jM ?_
 by_cases hs2:(k:Int)<(xs.length:Int)
 refine Za (oW (oW (oW (ol (dT hs2) (jH (Zq (jC (Zo (Zl ?_)))))))))
 by_cases hs3:(Rd.inW 0 1048576 xs[k])=true
 refine Za (oS (Zb xs) (oS (iv k) (oC (xS (k*1) 16 17 U24) I0 I0 (oL (iv xs[k]) (Zw xs (by omega)) (oK (Zr Kv hs3) [iv xs[k],iv 0,iv 1048576] rfl rfl (oS bF (jI (Zq (Zv (Zf (Za (oS (iv k) (oV ((k+1:Nat):Int) (oS (iv (k+1:Nat)) (kN 22 [] [(0,Zb xs),(5,iv (k+1:Nat)),(13,bT),(21,bF)] (Zf ?_))))))))))))))))
 refine Zs ⟨k+1,by omega,Rd.noP_succ (by omega) hs0 (Rd.inW_in hs3 (by omega))⟩ (show xs.length-(k+1)<xs.length-k by omega) ?_
 exact Zp [] _
 have hs3f:(Rd.inW 0 1048576 xs[k])=false:=by simpa using hs3
 refine Za (oS (Zb xs) (oS (iv k) (oC (xS (k*1) 16 17 U24) I0 I0 (oL (iv xs[k]) (Zw xs (by omega)) (oK (Zr Kv hs3f) [iv xs[k],iv 0,iv 1048576] rfl rfl (oS bT (jG (oS bF (jE (Zn (Zc (Zc (Zn (Zc ?_))))))))))))))
 refine Zg Tryz.results55 (.tmp rfl) ?_
 exact cB ((by rw [Rd.bel_bad (by omega) (Rd.inW_out hs3f (by omega)),Bool.and_false]))
 refine Za (oW (oW (oW (ol (dF hs2) (jI (jO (jC (Za (oS bT (jE ?_))))))))))
 refine Zg Tryz.results55 (.tmp rfl) ?_
 exact cB ((by rw [Rd.bel_all (k:=k) (by omega) hs0,decide_eq_true hs1];rfl))
 refine Za (oW (oW (oW (on (dF' hs1) (jG (oS bF (jE (Zc ?_))))))))
 refine Zg Tryz.results55 (.tmp rfl) ?_
 exact cB ((by rw [decide_eq_false hs1];rfl))
theorem loose_c :Ctr Tryz.prog J 56 [.agg (cFm p)] (bv (Rd.looseB p)):=by
 refine Zm Tryz.func56 rfl (pN (Zh (ZS p)) pZ) (n:=11) rfl (by simp) (fun w0 => ?_)
 refine kW 11 [] [(0,.agg (cFm p))] (jB (oX 1 (.agg (cFm p)) (oS bF (jD ?_))))
 by_cases hs1:p.fzz=1
 refine Za (oW (oW (oe (dT hs1) (oS bT (qK (qK (qK (oF bT (jE ?_)))))))))
 refine Zg Tryz.results56 (.tmp rfl) ?_
 exact cB ((by simp only [Rd.looseB,hs1,decide_true,decide_false,Bool.true_or,Bool.false_or,Bool.or_true]))
 refine Za (oW (oW (oe (dF hs1) (oS bF (oF (iv p.fzz) (gC (ZM rfl rfl) I0 I0 (oF (bv (decide (p.fzz=2))) (jE ?_))))))))
 refine Zg Tryz.results56 (.tmp rfl) ?_
 exact cB ((by simp only [Rd.looseB,hs1,decide_true,decide_false,Bool.true_or,Bool.false_or,Bool.or_true]))
theorem Sized_c (HP:FmOk p) :Ctr Tryz.prog J 31 [.agg (cFm p),.agg (cSz n t f)] (iv (Ns.sysE p n t f)):=by
 refine Zm Tryz.func31 rfl (pN (Zh (ZS p)) (pN (Zh (Ya n t f)) pZ)) (n:=18) rfl (by simp) (fun w0 => ?_)
 refine kW 18 [] [(0,.agg (cFm p)),(1,.agg (cSz n t f))] (jB (oX 1 (.agg (cFm p)) (oX 2 (.agg (cSz n t f)) (oS (iv 0) (jD (jB (oW (oK (ZeL HP) [.agg (cFm p)] rfl rfl (oS (iv (valE p)) (jD ?_))))))))))
 by_cases hs1:valE p=0
 refine Za (oW (on (dT' hs1) (jF (jM ?_))))
 by_cases hs2:(admB p n t f)=true
 refine Za (oW (oW (oK (Zr (ZaC HP n t f) hs2) [.agg (cFm p),.agg (cSz n t f)] rfl rfl (oS bF (jF (jM ?_))))))
 by_cases hs3:8<n
 refine Za (oW (oW (og (dT hs3) (kN 18 [] [(4,iv 0),(17,bT)] (Zf (jK (oS (iv 4) (jE (Zc ?_)))))))))
 refine Zg Tryz.results31 (.tmp rfl) ?_
 rw [Ns.sys_e3 hs1 hs2 hs3]
 exact rfl
 refine Za (oW (oW (og (dF hs3) (kN 18 [] [(4,iv 0),(17,bF)] (jJ (jB (oS (iv 0) (jE ?_))))))))
 refine Zg Tryz.results31 (.tmp rfl) ?_
 rw [Ns.sys_e4 hs1 hs2 hs3]
 exact rfl
 have hs2f:(admB p n t f)=false:=by simpa using hs2
 refine Za (oW (oW (oK (Zr (ZaC HP n t f) hs2f) [.agg (cFm p),.agg (cSz n t f)] rfl rfl (oS bT (jG (oS (iv 8) (jE (Zc ?_))))))))
 refine Zg Tryz.results31 (.tmp rfl) ?_
 rw [Ns.sys_e2 hs1 hs2f]
 exact rfl
 refine Za (oW (on (dF' hs1) (jG (oF (iv (valE p)) (jE (Zc ?_))))))
 refine Zg Tryz.results31 (.tmp rfl) ?_
 rw [Ns.sys_e1 hs1]
 exact rfl
theorem We (hai:1≤n∧n≤1048576∧0≤f∧f≤n):Ctr Tryz.prog J 53 [.agg (cFm p),.agg (cSz n t f)] (iv (Ns.cntE p n f)):=by
 refine Zm Tryz.func53 rfl (pN (Zh (ZS p)) (pN (Zh (Ya n t f)) pZ)) (n:=15) rfl (by simp) (fun w0 => ?_)
 refine kW 15 [] [(0,.agg (cFm p)),(1,.agg (cSz n t f))] (jB (oX 1 (.agg (cFm p)) (oX 2 (.agg (cSz n t f)) (oS (iv 0) (jD (Zl ?_))))))
 by_cases hs1:p.fzz=3
 refine Za (oW (oW (oe (dT hs1) (jG (oF (iv n) (oF (iv f) (oU (n-f) (oS (iv (n-f)) (jE (Zc ?_))))))))))
 refine Zg Tryz.results53 (.tmp rfl) ?_
 rw [show Ns.cntE p n f=n-f from if_pos hs1]
 exact rfl
 refine Za (oW (oW (oe (dF hs1) (jF (jB (oW (oF (iv n) (jE ?_))))))))
 refine Zg Tryz.results53 (.tmp rfl) ?_
 rw [show Ns.cntE p n f=n from if_neg hs1]
 exact rfl
set_option maxRecDepth 100000 in
set_option maxHeartbeats 6400000 in
theorem ZcG (HP:FmOk p) (HC:Rd.CgOk c) (hai:1≤n∧n≤1048576∧0≤f∧f≤n) (g0:¬ ((c.st.length:Int)=(Ns.cntE p n f))):Ctr Tryz.prog J 32 [.agg (cFm p),.agg (cSz n t f),.agg (Rd.cCg c)] (bv (Rd.rvB p n f c)):=by
 have hlv:=HP.lvals
 have hlf:=HC.lfa
 refine Zm Tryz.func32 rfl (pN (Zh (ZS p)) (pN (Zh (Ya n t f)) (pN (Zh (Rd.plain_cg c)) pZ))) (n:=95) rfl (by simp) (fun w0 => ?_)
 refine kW 95 [] [(0,.agg (cFm p)),(1,.agg (cSz n t f)),(2,.agg (Rd.cCg c))] (jB (oX 1 (.agg (cFm p)) (oX 2 (.agg (cSz n t f)) (oX 3 (.agg (Rd.cCg c)) (oS bF (jD (Zl ?_)))))))
 refine tD (dW (dW (dS (iv c.st.length) (dW (dW (dk (We hai) [.agg (cFm p),.agg (cSz n t f)] rfl rfl (dC (YJ rfl (dF' g0)) I0 I0 (dS bT (dK (dK (dK (dK (dK (dW (dS bT (dK (dK (dK (dK (dK (dK (dK (dK (dW (dS bT (dK (dK (dK (dK (dK (dK (dK (dW (dS bT (dK (dK (dK (dK (dK (dK (dK (dS bT (eD ?_)))))))))))))))))))))))))))))))))))))))))))
 refine kW 95 [(1,.box 27 (cFm p)),(2,.box 29 (cSz n t f)),(3,.box 31 (Rd.cCg c))] [(3,bx 1),(4,bx 2),(5,bx 3),(6,bF),(49,bT)] (Zf (jK (oS bF (jE (Zc ?_)))))
 refine Zg Tryz.results32 (.tmp rfl) ?_
 exact cB ((by simp only [Rd.rvB,g0,decide_true,decide_false,Bool.and_true,Bool.true_and,Bool.false_and,Bool.and_false,Bool.not_true,Bool.not_false,if_true,if_false,eq_self,ite_true,ite_false]))
set_option maxRecDepth 100000 in
set_option maxHeartbeats 6400000 in
theorem ZcF (HP:FmOk p) (HC:Rd.CgOk c) (hai:1≤n∧n≤1048576∧0≤f∧f≤n) (g0:(c.st.length:Int)=(Ns.cntE p n f)) (g1:Rd.belB c.st (p.sz.length:Int)=false):Ctr Tryz.prog J 32 [.agg (cFm p),.agg (cSz n t f),.agg (Rd.cCg c)] (bv (Rd.rvB p n f c)):=by
 have hlv:=HP.lvals
 have hlf:=HC.lfa
 refine Zm Tryz.func32 rfl (pN (Zh (ZS p)) (pN (Zh (Ya n t f)) (pN (Zh (Rd.plain_cg c)) pZ))) (n:=95) rfl (by simp) (fun w0 => ?_)
 refine kW 95 [] [(0,.agg (cFm p)),(1,.agg (cSz n t f)),(2,.agg (Rd.cCg c))] (jB (oX 1 (.agg (cFm p)) (oX 2 (.agg (cSz n t f)) (oX 3 (.agg (Rd.cCg c)) (oS bF (jD (Zl ?_)))))))
 refine tD (dW (dW (dS (iv c.st.length) (dW (dW (dk (We hai) [.agg (cFm p),.agg (cSz n t f)] rfl rfl (dC (YJ rfl (dT' g0)) I0 I0 (dS bF (dW (dW (dW (dk (Zr (ZaA HP.lstates c.st HC.lst) g1) [.agg (cFm p),Zb c.st] rfl rfl (dW (dW (dS bT (dK (dK (dK (dK (dK (dK (dK (dK (dW (dS bT (dK (dK (dK (dK (dK (dK (dK (dW (dS bT (dK (dK (dK (dK (dK (dK (dK (dS bT (eD ?_)))))))))))))))))))))))))))))))))))))))))))
 refine kW 95 [(1,.box 27 (cFm p)),(2,.box 29 (cSz n t f)),(3,.box 31 (Rd.cCg c))] [(3,bx 1),(4,bx 2),(5,bx 3),(6,bF),(49,bT)] (Zf (jK (oS bF (jE (Zc ?_)))))
 refine Zg Tryz.results32 (.tmp rfl) ?_
 exact cB ((by simp only [Rd.rvB,g0,g1,decide_true,decide_false,Bool.and_true,Bool.true_and,Bool.false_and,Bool.and_false,Bool.not_true,Bool.not_false,if_true,if_false,eq_self,ite_true,ite_false]))
set_option maxRecDepth 100000 in
set_option maxHeartbeats 6400000 in
theorem ZcE (HP:FmOk p) (HC:Rd.CgOk c) (hai:1≤n∧n≤1048576∧0≤f∧f≤n) (g0:(c.st.length:Int)=(Ns.cntE p n f)) (g1:Rd.belB c.st (p.sz.length:Int)=true) (g2:¬ (c.cor=n-f)):Ctr Tryz.prog J 32 [.agg (cFm p),.agg (cSz n t f),.agg (Rd.cCg c)] (bv (Rd.rvB p n f c)):=by
 have hlv:=HP.lvals
 have hlf:=HC.lfa
 refine Zm Tryz.func32 rfl (pN (Zh (ZS p)) (pN (Zh (Ya n t f)) (pN (Zh (Rd.plain_cg c)) pZ))) (n:=95) rfl (by simp) (fun w0 => ?_)
 refine kW 95 [] [(0,.agg (cFm p)),(1,.agg (cSz n t f)),(2,.agg (Rd.cCg c))] (jB (oX 1 (.agg (cFm p)) (oX 2 (.agg (cSz n t f)) (oX 3 (.agg (Rd.cCg c)) (oS bF (jD (Zl ?_)))))))
 refine tD (dW (dW (dS (iv c.st.length) (dW (dW (dk (We hai) [.agg (cFm p),.agg (cSz n t f)] rfl rfl (dC (YJ rfl (dT' g0)) I0 I0 (dS bF (dW (dW (dW (dk (Zr (ZaA HP.lstates c.st HC.lst) g1) [.agg (cFm p),Zb c.st] rfl rfl (dW (dW (dS bF (dW (dS (iv c.cor) (dW (dS (iv n) (dW (dS (iv f) (dC (Kq (c:=n-f) rfl (w64 (by omega) (by omega) (by omega))) I0 I0 (dC (YJ rfl (dF' g2)) I0 I0 (dW (dS bT (dK (dK (dK (dK (dK (dK (dK (dW (dS bT (dK (dK (dK (dK (dK (dK (dK (dS bT (eD ?_)))))))))))))))))))))))))))))))))))))))))))
 refine kW 95 [(1,.box 27 (cFm p)),(2,.box 29 (cSz n t f)),(3,.box 31 (Rd.cCg c))] [(3,bx 1),(4,bx 2),(5,bx 3),(6,bF),(49,bT)] (Zf (jK (oS bF (jE (Zc ?_)))))
 refine Zg Tryz.results32 (.tmp rfl) ?_
 exact cB ((by simp only [Rd.rvB,g0,g1,g2,decide_true,decide_false,Bool.and_true,Bool.true_and,Bool.false_and,Bool.and_false,Bool.not_true,Bool.not_false,if_true,if_false,eq_self,ite_true,ite_false]))
set_option maxRecDepth 100000 in
set_option maxHeartbeats 6400000 in
theorem ZcD (HP:FmOk p) (HC:Rd.CgOk c) (hai:1≤n∧n≤1048576∧0≤f∧f≤n) (g0:(c.st.length:Int)=(Ns.cntE p n f)) (g1:Rd.belB c.st (p.sz.length:Int)=true) (g2:c.cor=n-f) (g3:(decide ((c.se.length:Int)=(p.msgs.length:Int))&&Rd.belB c.se 1048577)=false):Ctr Tryz.prog J 32 [.agg (cFm p),.agg (cSz n t f),.agg (Rd.cCg c)] (bv (Rd.rvB p n f c)):=by
 have hlv:=HP.lvals
 have hlf:=HC.lfa
 refine Zm Tryz.func32 rfl (pN (Zh (ZS p)) (pN (Zh (Ya n t f)) (pN (Zh (Rd.plain_cg c)) pZ))) (n:=95) rfl (by simp) (fun w0 => ?_)
 refine kW 95 [] [(0,.agg (cFm p)),(1,.agg (cSz n t f)),(2,.agg (Rd.cCg c))] (jB (oX 1 (.agg (cFm p)) (oX 2 (.agg (cSz n t f)) (oX 3 (.agg (Rd.cCg c)) (oS bF (jD (Zl ?_)))))))
 refine tD (dW (dW (dS (iv c.st.length) (dW (dW (dk (We hai) [.agg (cFm p),.agg (cSz n t f)] rfl rfl (dC (YJ rfl (dT' g0)) I0 I0 (dS bF (dW (dW (dW (dk (Zr (ZaA HP.lstates c.st HC.lst) g1) [.agg (cFm p),Zb c.st] rfl rfl (dW (dW (dS bF (dW (dS (iv c.cor) (dW (dS (iv n) (dW (dS (iv f) (dC (Kq (c:=n-f) rfl (w64 (by omega) (by omega) (by omega))) I0 I0 (dC (YJ rfl (dT' g2)) I0 I0 (dW (dS bF (dW (dW (dW (dW (dW (dk (Zr (WY c.se HC.lse) g3) [Zb c.se,iv p.msgs.length] rfl rfl (dW (dW (dS bT (dK (dK (dK (dK (dK (dK (dK (dS bT (eD ?_)))))))))))))))))))))))))))))))))))))))))))
 refine kW 95 [(1,.box 27 (cFm p)),(2,.box 29 (cSz n t f)),(3,.box 31 (Rd.cCg c))] [(3,bx 1),(4,bx 2),(5,bx 3),(6,bF),(49,bT)] (Zf (jK (oS bF (jE (Zc ?_)))))
 refine Zg Tryz.results32 (.tmp rfl) ?_
 exact cB ((by simp only [Rd.rvB,g0,g1,g2,g3,decide_true,decide_false,Bool.and_true,Bool.true_and,Bool.false_and,Bool.and_false,Bool.not_true,Bool.not_false,if_true,if_false,eq_self,ite_true,ite_false]))
set_option maxRecDepth 100000 in
set_option maxHeartbeats 6400000 in
theorem ZcC (HP:FmOk p) (HC:Rd.CgOk c) (hai:1≤n∧n≤1048576∧0≤f∧f≤n) (g0:(c.st.length:Int)=(Ns.cntE p n f)) (g1:Rd.belB c.st (p.sz.length:Int)=true) (g2:c.cor=n-f) (g3:(decide ((c.se.length:Int)=(p.msgs.length:Int))&&Rd.belB c.se 1048577)=true) (g4:(decide ((c.fa.length:Int)=(p.msgs.length:Int))&&Rd.belB c.fa 1048577)=false):Ctr Tryz.prog J 32 [.agg (cFm p),.agg (cSz n t f),.agg (Rd.cCg c)] (bv (Rd.rvB p n f c)):=by
 have hlv:=HP.lvals
 have hlf:=HC.lfa
 refine Zm Tryz.func32 rfl (pN (Zh (ZS p)) (pN (Zh (Ya n t f)) (pN (Zh (Rd.plain_cg c)) pZ))) (n:=95) rfl (by simp) (fun w0 => ?_)
 refine kW 95 [] [(0,.agg (cFm p)),(1,.agg (cSz n t f)),(2,.agg (Rd.cCg c))] (jB (oX 1 (.agg (cFm p)) (oX 2 (.agg (cSz n t f)) (oX 3 (.agg (Rd.cCg c)) (oS bF (jD (Zl ?_)))))))
 refine tD (dW (dW (dS (iv c.st.length) (dW (dW (dk (We hai) [.agg (cFm p),.agg (cSz n t f)] rfl rfl (dC (YJ rfl (dT' g0)) I0 I0 (dS bF (dW (dW (dW (dk (Zr (ZaA HP.lstates c.st HC.lst) g1) [.agg (cFm p),Zb c.st] rfl rfl (dW (dW (dS bF (dW (dS (iv c.cor) (dW (dS (iv n) (dW (dS (iv f) (dC (Kq (c:=n-f) rfl (w64 (by omega) (by omega) (by omega))) I0 I0 (dC (YJ rfl (dT' g2)) I0 I0 (dW (dS bF (dW (dW (dW (dW (dW (dk (Zr (WY c.se HC.lse) g3) [Zb c.se,iv p.msgs.length] rfl rfl (dW (dW (dS bF (dW (dW (dW (dW (dW (dk (Zr (WY c.fa HC.lfa) g4) [Zb c.fa,iv p.msgs.length] rfl rfl (dW (dS bT (eD ?_)))))))))))))))))))))))))))))))))))))))))))
 refine kW 95 [(1,.box 27 (cFm p)),(2,.box 29 (cSz n t f)),(3,.box 31 (Rd.cCg c))] [(3,bx 1),(4,bx 2),(5,bx 3),(6,bF),(49,bT)] (Zf (jK (oS bF (jE (Zc ?_)))))
 refine Zg Tryz.results32 (.tmp rfl) ?_
 exact cB ((by simp only [Rd.rvB,g0,g1,g2,g3,g4,decide_true,decide_false,Bool.and_true,Bool.true_and,Bool.false_and,Bool.and_false,Bool.not_true,Bool.not_false,if_true,if_false,eq_self,ite_true,ite_false]))
abbrev ZaT (x0:Fm) (x1:Int) (x2:Int) (x3:Int) (x4:Cf):List (Nat × ABlk):=[(1,.box 27 (cFm x0)),(2,.box 29 (cSz x1 x2 x3)),(3,.box 31 (Rd.cCg x4))]
abbrev XRw5_h2 (x0:Nat):List (Nat × AV):=[(3,bx 1),(4,bx 2),(5,bx 3),(7,iv (x0+1:Nat)),(54,bT),(67,bF)]
set_option maxRecDepth 100000 in
set_option maxHeartbeats 6400000 in
theorem ZcB (HP:FmOk p) (HC:Rd.CgOk c) (hai:1≤n∧n≤1048576∧0≤f∧f≤n) (g0:(c.st.length:Int)=(Ns.cntE p n f)) (g1:Rd.belB c.st (p.sz.length:Int)=true) (g2:c.cor=n-f) (g3:(decide ((c.se.length:Int)=(p.msgs.length:Int))&&Rd.belB c.se 1048577)=true) (g4:(decide ((c.fa.length:Int)=(p.msgs.length:Int))&&Rd.belB c.fa 1048577)=true):Ctr Tryz.prog J 32 [.agg (cFm p),.agg (cSz n t f),.agg (Rd.cCg c)] (bv (Rd.rvB p n f c)):=by
 have hlv:=HP.lvals
 have hlf:=HC.lfa
 refine Zm Tryz.func32 rfl (pN (Zh (ZS p)) (pN (Zh (Ya n t f)) (pN (Zh (Rd.plain_cg c)) pZ))) (n:=95) rfl (by simp) (fun w0 => ?_)
 refine kW 95 [] [(0,.agg (cFm p)),(1,.agg (cSz n t f)),(2,.agg (Rd.cCg c))] (jB (oX 1 (.agg (cFm p)) (oX 2 (.agg (cSz n t f)) (oX 3 (.agg (Rd.cCg c)) (oS bF (jD (Zl ?_)))))))
 refine tD (dW (dW (dS (iv c.st.length) (dW (dW (dk (We hai) [.agg (cFm p),.agg (cSz n t f)] rfl rfl (dC (YJ rfl (dT' g0)) I0 I0 (dS bF (dW (dW (dW (dk (Zr (ZaA HP.lstates c.st HC.lst) g1) [.agg (cFm p),Zb c.st] rfl rfl (dW (dW (dS bF (dW (dS (iv c.cor) (dW (dS (iv n) (dW (dS (iv f) (dC (Kq (c:=n-f) rfl (w64 (by omega) (by omega) (by omega))) I0 I0 (dC (YJ rfl (dT' g2)) I0 I0 (dW (dS bF (dW (dW (dW (dW (dW (dk (Zr (WY c.se HC.lse) g3) [Zb c.se,iv p.msgs.length] rfl rfl (dW (dW (dS bF (dW (dW (dW (dW (dW (dk (Zr (WY c.fa HC.lfa) g4) [Zb c.fa,iv p.msgs.length] rfl rfl (dW (dS bF (eD ?_)))))))))))))))))))))))))))))))))))))))))))
 refine kW 95 (ZaT p n t f c) [(3,bx 1),(4,bx 2),(5,bx 3),(6,bF),(49,bF)] (jJ (jM (Za (oS (iv 0) (kN 95 (ZaT p n t f c) [(3,bx 1),(4,bx 2),(5,bx 3),(6,bF),(7,iv 0)] (Zf (Zo ?_)))))))
 refine ZL (σ:={k:Nat // k≤c.fa.length∧Rd.noP c.fa (Rd.badF p) k}) (fun s=>(ofL (ZaT p n t f c),ofT 95 [(3,bx 1),(4,bx 2),(5,bx 3),(7,iv s.1)])) (fun s=>c.fa.length-s.1) ⟨0,Nat.zero_le _,Rd.noP_zero _ _⟩ (Zp _ _) (fun s => ?_)
 obtain ⟨k,hk0,hs0⟩:=s
 show ETri J w0 (ofL (ZaT p n t f c)) (ofT 95 [(3,bx 1),(4,bx 2),(5,bx 3),(7,iv k)]) _
 refine jM ?_
 by_cases hs1:(k:Int)<(c.fa.length:Int)
 refine Za (oW (oW (oW (oW (ol (dT hs1) (jH (Zq (jC (Zo (Zl ?_))))))))))
 by_cases hs2:c.fa[k]=0
 refine Za (oF (Zb c.fa) (oS (iv k) (oC (xS (k*1) 58 59 U24) I0 I0 (oL (iv c.fa[k]) (Zw c.fa (by omega)) (on (dT' hs2) (oS bF (qK (qK (qK (oS bF (jI (Zq (Zv (Zf (Za (oS (iv k) (oV ((k+1:Nat):Int) (oS (iv (k+1:Nat)) (kN 95 (ZaT p n t f c) (XRw5_h2 k) (Zf ?_))))))))))))))))))))
 refine Zs ⟨k+1,by omega,Rd.noP_succ (by omega) hs0 (Rd.badF_z hs2)⟩ (show c.fa.length-(k+1)<c.fa.length-k by omega) ?_
 exact Zp _ _
 by_cases hs3:(Rd.looseB p)=true
 refine Za (oF (Zb c.fa) (oS (iv k) (oC (xS (k*1) 58 59 U24) I0 I0 (oL (iv c.fa[k]) (Zw c.fa (by omega)) (on (dF' hs2) (oS bT (oW (oK (Zr loose_c hs3) [.agg (cFm p)] rfl rfl (oW (oS bF (jI (Zq (Zv (Zf (Za (oS (iv k) (oV ((k+1:Nat):Int) (oS (iv (k+1:Nat)) (kN 95 (ZaT p n t f c) (XRw5_h2 k) (Zf ?_))))))))))))))))))))
 refine Zs ⟨k+1,by omega,Rd.noP_succ (by omega) hs0 (Rd.badF_l hs3)⟩ (show c.fa.length-(k+1)<c.fa.length-k by omega) ?_
 exact Zp _ _
 have hs3f:(Rd.looseB p)=false:=by simpa using hs3
 refine Za (oF (Zb c.fa) (oS (iv k) (oC (xS (k*1) 58 59 U24) I0 I0 (oL (iv c.fa[k]) (Zw c.fa (by omega)) (on (dF' hs2) (oS bT (oW (oK (Zr loose_c hs3f) [.agg (cFm p)] rfl rfl (oW (oS bT (jG (oS bF (jE (Zn (Zc (Zc (Zn ?_)))))))))))))))))
 refine Zc ?_
 refine Zg Tryz.results32 (.tmp rfl) ?_
 have hF:c.fa.any (Rd.badF p)=true:=Rd.any_one (by omega) (Rd.badF_y hs2 hs3f)
 exact cB ((by simp only [Rd.rvB,g0,g1,g2,g3,g4,hF,decide_true,decide_false,Bool.and_true,Bool.true_and,Bool.false_and,Bool.and_false,Bool.not_true,Bool.not_false,if_true,if_false,eq_self,ite_true,ite_false]))
 refine Za (oW (oW (oW (oW (ol (dF hs1) (jI (jO (jC (Zl ?_)))))))))
 by_cases hs4:(Rd.inW 0 (max 0 ((p.vals.length:Int)-1)) c.val)=true
 refine Za (oW (oW (oW (oF (iv p.vals.length) (oU ((p.vals.length:Int)-1) (oC (Zdv (.const (.int .i64 0)) (.tmp 73) rfl) I0 I0 (oK (Zr Kv hs4) [iv c.val,iv 0,iv (max 0 ((p.vals.length:Int)-1))] rfl rfl (oS bF (jF (jM ?_))))))))))
 by_cases hs5:p.top=4
 refine Za (oW (oW (oe (dT hs5) (jH (Zl ?_)))))
 by_cases hs6:(c.sh.length:Int)=n
 refine Za (oW (oW (oW (oW (oW (oe (dT hs6) (oS bT (oW (oW (oK (Rd.IsShape_c HC.sh HC.lsh) [Zb c.sh] rfl rfl (oF (bv (shp c.sh)) (jE (Zc ?_)))))))))))))
 refine Zg Tryz.results32 (.tmp rfl) ?_
 have hF:c.fa.any (Rd.badF p)=false:=Rd.any_none (k:=k) (by omega) hs0
 exact cB ((by simp only [Rd.rvB,g0,g1,g2,g3,g4,hs4,hs5,hs6,hF,decide_true,decide_false,Bool.and_true,Bool.true_and,Bool.false_and,Bool.and_false,Bool.not_true,Bool.not_false,if_true,if_false,eq_self,ite_true,ite_false]))
 refine Za (oW (oW (oW (oW (oW (oe (dF hs6) (oS bF (qK (qK (qK (oF bF (jE (Zc ?_)))))))))))))
 refine Zg Tryz.results32 (.tmp rfl) ?_
 have hF:c.fa.any (Rd.badF p)=false:=Rd.any_none (k:=k) (by omega) hs0
 exact cB ((by simp only [Rd.rvB,g0,g1,g2,g3,g4,hs4,hs5,hs6,hF,decide_true,decide_false,Bool.and_true,Bool.true_and,Bool.false_and,Bool.and_false,Bool.not_true,Bool.not_false,if_true,if_false,eq_self,ite_true,ite_false]))
 refine Za (oW (oW (oe (dF hs5) (jF (jB (oW (oF (iv c.sh.length) (oC (ZM rfl rfl) I0 I0 (oS (bv (decide ((c.sh.length:Int)=0))) (jE ?_))))))))))
 refine Zg Tryz.results32 (.tmp rfl) ?_
 have hF:c.fa.any (Rd.badF p)=false:=Rd.any_none (k:=k) (by omega) hs0
 exact cB ((by simp only [Rd.rvB,g0,g1,g2,g3,g4,hs4,hs5,hF,decide_true,decide_false,Bool.and_true,Bool.true_and,Bool.false_and,Bool.and_false,Bool.not_true,Bool.not_false,if_true,if_false,eq_self,ite_true,ite_false]))
 have hs4f:(Rd.inW 0 (max 0 ((p.vals.length:Int)-1)) c.val)=false:=by simpa using hs4
 refine Za (oW (oW (oW (oF (iv p.vals.length) (oU ((p.vals.length:Int)-1) (oC (Zdv (.const (.int .i64 0)) (.tmp 73) rfl) I0 I0 (oK (Zr Kv hs4f) [iv c.val,iv 0,iv (max 0 ((p.vals.length:Int)-1))] rfl rfl (oS bT (jG (oS bF (jE (Zc ?_))))))))))))
 refine Zg Tryz.results32 (.tmp rfl) ?_
 have hF:c.fa.any (Rd.badF p)=false:=Rd.any_none (k:=k) (by omega) hs0
 exact cB ((by simp only [Rd.rvB,g0,g1,g2,g3,g4,hs4f,hF,decide_true,decide_false,Bool.and_true,Bool.true_and,Bool.false_and,Bool.and_false,Bool.not_true,Bool.not_false,if_true,if_false,eq_self,ite_true,ite_false]))
theorem Kz (HP:FmOk p) (HC:Rd.CgOk c) (hai:1≤n∧n≤1048576∧0≤f∧f≤n):Ctr Tryz.prog J 32 [.agg (cFm p),.agg (cSz n t f),.agg (Rd.cCg c)] (bv (Rd.rvB p n f c)):=by
 by_cases g0:(c.st.length:Int)=(Ns.cntE p n f)
 case neg=>exact ZcG HP HC hai  g0
 by_cases g1:Rd.belB c.st (p.sz.length:Int)=true
 case neg=>exact ZcF HP HC hai g0 (by simpa only [Bool.not_eq_true] using g1)
 by_cases g2:c.cor=n-f
 case neg=>exact ZcE HP HC hai g0 g1 g2
 by_cases g3:(decide ((c.se.length:Int)=(p.msgs.length:Int))&&Rd.belB c.se 1048577)=true
 case neg=>exact ZcD HP HC hai g0 g1 g2 (by simpa only [Bool.not_eq_true] using g3)
 by_cases g4:(decide ((c.fa.length:Int)=(p.msgs.length:Int))&&Rd.belB c.fa 1048577)=true
 case neg=>exact ZcC HP HC hai g0 g1 g2 g3 (by simpa only [Bool.not_eq_true] using g4)
 exact ZcB HP HC hai g0 g1 g2 g3 g4
set_option maxRecDepth 100000 in
set_option maxHeartbeats 6400000 in
theorem Zb4 (HP:FmOk p) (HC:Rd.CgOk c):Ctr Tryz.prog J 25 [.agg (cFm p),.agg (cSz n t f),.agg (Rd.cCg c)] (iv (Rd.vcE p n t f c)):=by
 refine Zm Tryz.func25 rfl (pN (Zh (ZS p)) (pN (Zh (Ya n t f)) (pN (Zh (Rd.plain_cg c)) pZ))) (n:=19) rfl (by simp) (fun w0 => ?_)
 refine kW 19 [] [(0,.agg (cFm p)),(1,.agg (cSz n t f)),(2,.agg (Rd.cCg c))] (jB (oX 1 (.agg (cFm p)) (oX 2 (.agg (cSz n t f)) (oX 3 (.agg (Rd.cCg c)) (oS (iv 0) (jD (jB (oW (oW (oK (Sized_c HP) [.agg (cFm p),.agg (cSz n t f)] rfl rfl (oS (iv (Ns.sysE p n t f)) (jD ?_))))))))))))
 by_cases hs1:(Ns.sysE p n t f)=0
 refine Za (oW (on (dT' hs1) (jF (jM ?_))))
 by_cases hs2:(Rd.rvB p n f c)=true
 refine Za (oW (oW (oW (oK (Zr (Kz HP HC (Ns.adm_in (Ns.sys_ok hs1).2.1)) hs2) [.agg (cFm p),.agg (cSz n t f),.agg (Rd.cCg c)] rfl rfl (oS bF (kN 19 [] [(6,iv 0),(18,bF)] (jJ (jB (oS (iv 0) (jE ?_))))))))))
 refine Zg Tryz.results25 (.tmp rfl) ?_
 have hx:Rd.rdX p n f c=true:=by rw [← Rd.rv_rd hs1];simpa using hs2
 have hr:Rd.vcE p n t f c=0:=by unfold Rd.vcE;rw [if_pos hs1,hx];rfl
 rw [hr]
 exact rfl
 have hs2f:(Rd.rvB p n f c)=false:=by simpa using hs2
 refine Za (oW (oW (oW (oK (Zr (Kz HP HC (Ns.adm_in (Ns.sys_ok hs1).2.1)) hs2f) [.agg (cFm p),.agg (cSz n t f),.agg (Rd.cCg c)] rfl rfl (oS bT (kN 19 [] [(6,iv 0),(18,bT)] (Zf (jK (oS (iv 1) (jE (Zc ?_)))))))))))
 refine Zg Tryz.results25 (.tmp rfl) ?_
 have hx:Rd.rdX p n f c=false:=by rw [← Rd.rv_rd hs1];simpa using hs2f
 have hr:Rd.vcE p n t f c=1:=by unfold Rd.vcE;rw [if_pos hs1,hx];rfl
 rw [hr]
 exact rfl
 refine Za (oW (on (dF' hs1) (jG (oF (iv (Ns.sysE p n t f)) (jE (Zc ?_))))))
 refine Zg Tryz.results25 (.tmp rfl) ?_
 have hr:Rd.vcE p n t f c=Ns.sysE p n t f:=by unfold Rd.vcE;rw [if_neg hs1]
 rw [hr]
 exact rfl
theorem Ka (xs:List Int) (hx:xs.length≤17592186044416):Ctr Tryz.prog J 21 [Zb xs] (Zb xs):=by
 refine Zm Tryz.func21 rfl (by intro X hX;simp at hX;subst hX;exact ZK _) (n:=6) rfl (by simp) (fun w0 => ?_)
 refine kW 6 [] [(0,Zb xs)] (jB (oS (nz) (jD (Za (Y6 rfl (Zbr (z:=1) (k:=1) true rfl U24 (by kernel_rfl)) T0 T0 rfl (oS (Zb xs) (Y6 rfl (WV (n:=0) (cs:=[]) (fr:=true) (m:=xs.length) (ds:=(xs.map iv)) (⟨U24,by kernel_rfl,by decide⟩:Elt Tryz.prog 24 3 1 8) (.tmp 3) (.tmp 4) rfl (fun _ d hd=>by obtain ⟨x,_,rfl⟩:=List.mem_map.1 hd;rfl) (by unfold maxLen;omega) (by omega) (fun d hd=>by obtain ⟨x,_,rfl⟩:=List.mem_map.1 hd;rfl) (es:=(xs.map iv)) (by rw [Zdp];rfl)) ⟨I0,I0,T0⟩ ⟨rfl,T0⟩ rfl (oS (.own 1) (jE ?_)))))))))
 refine Zg Tryz.results21 (.tmp rfl) ?_
 show AV.sl 1 (0+xs.length) (xs.map iv)=Zb xs
 rw [Nat.zero_add];rfl
theorem CopyCf_c (HC:Rd.CgOk c):Ctr Tryz.prog J 8 [.agg (Rd.cCg c)] (.agg (Rd.cCg c)):=by
 refine Zm Tryz.func8 rfl (pN (Zh (Rd.plain_cg c)) pZ) (n:=20) rfl (by simp) (fun w0 => ?_)
 refine kW 20 [] [(0,.agg (Rd.cCg c))] (jB (oX 1 (.agg (Rd.cCg c)) (oZ 2 Z31 (jD ?_))))
 refine tD (dW (dW (dk (Ka c.sh (Nat.le_trans HC.lsh (by decide))) [Zb c.sh] rfl rfl (dW (dW (dk (Ka c.st (Nat.le_trans HC.lst (by decide))) [Zb c.st] rfl rfl (dW (dS (iv c.cor) (dW (dW (dk (Ka c.se (Nat.le_trans HC.lse (by decide))) [Zb c.se] rfl rfl (dW (dW (dk (Ka c.fa (Nat.le_trans HC.lfa (by decide))) [Zb c.fa] rfl rfl (dW (dS (iv c.val) (dR (ZcL [0,1,2,3,4,5] [.tmp 5,.tmp 8,.tmp 10,.tmp 13,.tmp 16,.tmp 18] [.fr (Zb c.sh),.fr (Zb c.st),iv c.cor,.fr (Zb c.se),.fr (Zb c.fa),iv c.val] [.inr 0,.inr 1,.inr 2,.inr 3,.inr 4,.inr 5] rfl rfl rfl rfl rfl (fun _=>by kernel_rfl) rfl (ds:=[.fr (Zb c.sh),.fr (Zb c.st),iv c.cor,.fr (Zb c.se),.fr (Zb c.fa),iv c.val]) rfl) ⟨I0,I0,I0,I0,I0,I0,T0⟩ T0 T0 (dY (eD ?_)))))))))))))))))))
 refine kW 20 [(2,.box 31 [.fr (Zb c.sh),.fr (Zb c.st),iv c.cor,.fr (Zb c.se),.fr (Zb c.fa),iv c.val])] [(2,bx 2)] (Zf (Z4 ?_))
 refine Zg Tryz.results8 (.cellS rfl rfl U31 rfl (z:=6) (by kernel_rfl) rfl (by decide)) ?_
 exact rfl
def pair (k:Nat) (nm:Nm) (k2:Nat) (nm2:Nm):Names:=⟨fun j=>if j=k then some nm else if j=k2 then some nm2 else none,fun _=>False⟩
section
variable {k k2:Nat} {nm nm2:Nm}
theorem pair_one:pair k nm k2 nm2 k=some nm:=if_pos rfl
theorem pair_two (h:k≠k2):pair k nm k2 nm2 k2=some nm2:=(if_neg fun e=>h e.symm).trans (if_pos rfl)
variable {j:Nat}
theorem ZeN {x:Nm} (h:pair k nm k2 nm2 j=some x):(j=k∧x=nm)∨(j=k2∧x=nm2):=by
 dsimp only [pair] at h
 split at h
 ·rename_i e;exact .inl ⟨e,(Option.some.inj h).symm⟩
 split at h
 ·rename_i e;exact .inr ⟨e,(Option.some.inj h).symm⟩
 cases h
end
def New2 (B:Nat) (w:World) (nm nm2:Nm):Prop:=(∀ b c n,nm = .at b c n→B≤b∧b<w.heap.size)∧(∀ b c n,nm2 = .at b c n→B≤b∧b<w.heap.size)∧∀ b c n c' n',nm = .at b c n→nm2 ≠ .at b c' n'
def CtrO2 (P:Program) (J:World→Prop) (f:FuncId) (args:List AV) (k:Nat) (Y:ABlk) (k2:Nat) (Y2:ABlk) (u:AV):Prop :=
 ∀ (w:World) (vs:Array Value),(∀ w',Below w.heap.size w w'→J w')→vs.size=args.length→(∀ j (hj:j<args.length),Pu (fun _=>True) w (fun b=>b<w.heap.size) args[j] (vs.getD j undef)) →
  Calls P f vs w fun e w'=>∃ v nm nm2,e = .returned v∧New2 w.heap.size w' nm nm2∧BlkR (pair k nm k2 nm2) w' w.heap.size nm Y∧BlkR (pair k nm k2 nm2) w' w.heap.size nm2 Y2∧Rel (pair k nm k2 nm2) w.heap.size w' u v∧Below w.heap.size w w'
section
variable {P:Program} {o:Oper}
variable {u:AV}{cs cs2:List AV}{k2 e2 z2 n2:Nat}
theorem Zdx {c:Operand} {xs:Array Operand} {ats:Array TypeId} {f:FuncId} {Xs Ys:List AV} {k e z n:Nat} (rd:List (Nat × ABlk)) (hC:CtrO2 P J f Ys k (.row true e z n cs) k2 (.row true e2 z2 n2 cs2) u) (ho:o.op = .call { callee := .value c,args:=xs,argTypes:=ats })
 (hf : (P.funcs[f]?).map (fun fn => (fn.name == "runtime.NumGoroutine") || fn.body.isNone) = some false) (hl : xs.size = Xs.length) (hv : Xs.map (AV.view rd) = Ys) (hfl : Xs.all AV.flat2 = true) (hs : u.safe3 = true) (hkk : Nat.beq k k2 = false := by rfl) :
 ASpec P J o ((c,.v (.func (.func f) #[] #[]))::xs.toList.zip Xs) rd u (.nws k (.row true e z n cs) k2 (.row true e2 z2 n2 cs2)):=by
 subst hv
 have hne:k≠k2:=fun e=>by rw [e,Nat.beq_refl] at hkk;cases hkk
 intro ρ B a w K Q hwf hB hJ ha hr hnew hk
 refine KZ ho (ha (c,.v (.func (.func f) #[] #[])) (by simp)).v_inv hf ?_
 rw [Array.append_empty]
 refine (hC w (xs.map a.eval) (fun w' h=>hJ w' (Ku h)) (by simpa using hl) fun j hj => ?_).mono fun e' w' ⟨v,nm,nm2,he,hnm,hblk,hblk2,hrel,hb⟩=>⟨v,he,hk (upd (upd ρ k nm) k2 nm2) w' v ?_⟩
 ·have hj1:j<Xs.length:=by simpa using hj
  have hj2:j<xs.size:=by omega
  rw [List.getElem_map]
  have hm:(xs[j],Xs[j])∈(c,AV.v (.func (.func f) #[] #[]))::xs.toList.zip Xs:=by
   refine List.mem_cons_of_mem _ ?_
   rw [List.mem_iff_getElem]
   exact ⟨j,by simp;omega,by simp⟩
  have:=(ha _ hm).view hwf hr (List.all_eq_true.1 hfl _ (List.getElem_mem hj1))
  simpa [Array.getD,hj2] using this
 have h1:upd (upd ρ k nm) k2 nm2 k=some nm:=(Z7 hne).trans (Yc _ _ _)
 have h2:upd (upd ρ k nm) k2 nm2 k2=some nm2:=Yc _ _ _
 have h3:∀ j,j≠k→j≠k2→upd (upd ρ k nm) k2 nm2 j=ρ j:=fun j e1 e2=>(Z7 e2).trans (Z7 e1)
 have hok:∀ b,okOf (pair k nm k2 nm2) b→w.heap.size≤b→okOf (upd (upd ρ k nm) k2 nm2) b:=fun b hb1 hb2 j c' n' hj=>by
  by_cases e1:j=k
  ·subst e1
   rw [h1] at hj
   exact hb1 j c' n' (by rw [pair_one];exact hj)
  by_cases e2:j=k2
  ·subst e2
   rw [h2] at hj
   exact hb1 j c' n' (by rw [pair_two hne];exact hj)
  rw [h3 j e1 e2] at hj
  have:=(hwf.lo _ _ _ _ hj).2
  omega
 have hn:∀ j x,pair k nm k2 nm2 j=some x→upd (upd ρ k nm) k2 nm2 j=some x:=fun j x hj=>by
  rcases ZeN hj with ⟨rfl,rfl⟩ | ⟨rfl,rfl⟩
  ·exact h1
  exact h2
 have hblkr:∀ {nm':Nm} {e z n:Nat} {cs:List AV},BlkR (pair k nm k2 nm2) w' w.heap.size nm' (.row true e z n cs)→BlkR (upd (upd ρ k nm) k2 nm2) w' B nm' (.row true e z n cs):=fun ⟨ys,q1,q2,q3⟩ =>
  ⟨ys,ZdT q1 (show rowB true B≤rowB true w.heap.size from hB),q2,fun j hj=>(q3 j hj).mono (fun b hb1 hw=>⟨⟨hok b hb1.1 (hb1.2 rfl).1,fun _=>⟨Nat.le_trans hB (hb1.2 rfl).1,(hb1.2 rfl).2⟩⟩,hw,rfl⟩) fun b _ h=>Nat.le_trans hB h⟩
 refine ⟨rfl,hb.os,hb.tape,hb.output,hb.size,fun b hb' _=>hb.block b hb',fun j hj hj2=>h3 j (fun e1=>hj (by rw [e1];rfl)) (fun e1=>hj2 (by rw [e1];rfl)),(fun _ _ h=>by cases h),fun k' X he' => ?_,ZdN (fun X x h => ?_) hn hs hrel,fun k' X he' => ?_⟩
 ·cases he'
  exact ⟨nm,h1,fun b c' n' e1=>⟨(hnm.1 b c' n' e1).2,.inl (Nat.le_trans hB (hnm.1 b c' n' e1).1),.inl (hnm.1 b c' n' e1).1⟩,hblkr hblk⟩
 ·cases h with
  | fr h=>exact .fr (h.mono (fun b hb1 hw=>⟨⟨hok b hb1.1 hb1.2.1,Nat.le_trans hB hb1.2.1,hb1.2.2⟩,hw,rfl⟩) fun b _ h=>Nat.le_trans hB h)
 cases he'
 refine ⟨nm2,h2,fun b c' n' e1=>⟨(hnm.2.1 b c' n' e1).2,Nat.le_trans hB (hnm.2.1 b c' n' e1).1,(hnm.2.1 b c' n' e1).1,fun k'' c'' n'' hk'' hat => ?_⟩,hblkr hblk2⟩
 cases hk''
 rw [h1] at hat
 exact hnm.2.2 b c'' n'' c' n' (Option.some.inj hat) e1
end
def AV.rep1 (k0 k j0 k2:Nat):AV→AV
 | .v x => .v x
 | .fr X => .fr X
 | .own j=>if j=k0 then .own k else if j=j0 then .own k2 else .any
 | _ => .any
def AV.rep2 (k0 k j0 k2:Nat):AV→AV
 | .agg cs => .agg (cs.map (AV.rep1 k0 k j0 k2))
 | X=>X.rep1 k0 k j0 k2
section
variable {w0:Wb} {ρ:Names} {h:AHeap} {t:ATm} {a:Act} {w:World} {k0 k j0 k2:Nat} {nm nm2:Nm}
variable {X:AV}
theorem rel_rep1 (hne:k≠k2) (hk:ρ k0=some nm) (hj:ρ j0=some nm2) {x:Value} (hr:Rel ρ w0.heap.size w X x):Rel (pair k nm k2 nm2) w0.heap.size w (X.rep1 k0 k j0 k2) x:=by
 cases hr with
 | pu hr =>
   cases hr with
   | v x=>exact .pu (.v x)
   | fr hr =>
     exact .pu (.fr (hr.weak fun b hb=>⟨fun j c n hj'=>by
      rcases ZeN hj' with ⟨rfl,e⟩ | ⟨rfl,e⟩
      ·exact hb.1 k0 c n (by rw [hk,← e])
      exact hb.1 j0 c n (by rw [hj,← e]),hb.2⟩))
   | _=>exact .anyR
 | own hj' =>
   rename_i j nm'
   simp only [AV.rep1]
   split
   ·rename_i e
    subst e
    rw [hk] at hj';cases hj'
    exact .own pair_one
   split
   ·rename_i e
    subst e
    rw [hj] at hj';cases hj'
    exact .own (pair_two hne)
   exact .anyR
 | _=>exact .anyR
theorem rel_rep2 (hne:k≠k2) (hk:ρ k0=some nm) (hj:ρ j0=some nm2) {x:Value} (hr:Rel ρ w0.heap.size w X x):Rel (pair k nm k2 nm2) w0.heap.size w (X.rep2 k0 k j0 k2) x:=by
 cases X with
 | agg cs =>
   obtain ⟨vs,rfl,hl,hc⟩:=hr.agg_inv
   exact .agg (by simpa using hl) fun j hj'=>by rw [List.getElem_map];exact rel_rep1 hne hk hj (hc j (by simpa using hj'))
 | _=>exact rel_rep1 hne hk hj hr
end
def AV.rep3 (k0 k j0 k2:Nat):AV→AV
 | .tup cs => .tup (cs.map (AV.rep2 k0 k j0 k2))
 | X=>X.rep2 k0 k j0 k2
variable {ρ:Names}{w:World}{k0 k j0 k2:Nat}{X:AV}
theorem rel_rep3 {w0:Wb} {nm nm2:Nm} (hne:k≠k2) (hk:ρ k0=some nm) (hj:ρ j0=some nm2) {x:Value} (hr:Rel ρ w0.heap.size w X x):Rel (pair k nm k2 nm2) w0.heap.size w (X.rep3 k0 k j0 k2) x:=by
 cases X with
 | tup cs =>
   obtain ⟨vs,rfl,hl,hc⟩:=hr.tup_inv
   exact .tup (by simpa using hl) fun j hj'=>by rw [List.getElem_map];exact rel_rep2 hne hk hj (hc j (by simpa using hj'))
 | _=>exact rel_rep2 hne hk hj hr
def RetO2 (w0:Wb) (k:Nat) (Y:ABlk) (k2:Nat) (Y2:ABlk) (u:AV) (e:Ending) (w':World):Prop :=
 ∃ v nm nm2,e = .returned v∧New2 w0.heap.size w' nm nm2∧BlkR (pair k nm k2 nm2) w' w0.heap.size nm Y∧BlkR (pair k nm k2 nm2) w' w0.heap.size nm2 Y2∧Rel (pair k nm k2 nm2) w0.heap.size w' u v∧Bel w0 w'
section
variable {P:Program} {w0:Wb} {h:AHeap} {t:ATm}
variable {cs cs2:List AV}{e2 z2 n2:Nat}{u:AV}
theorem Sat.give2 {a:Act} (s:Sat J w0 ρ h t a w) {k0 k e z n:Nat} (hne:k≠k2) (hkj:k0≠j0) (hk:h k0=some (.row true e z n cs)) (hj:h j0=some (.row true e2 z2 n2 cs2)) {x:Value} (hr:Rel ρ w0.heap.size w X x) (hu:X.rep3 k0 k j0 k2=u) :
 RetO2 w0 k (.row true e z n cs) k2 (.row true e2 z2 n2 cs2) u (.returned x) w:=by
 subst hu
 obtain ⟨nm,h1,hb0⟩:=s.hp _ _ hk
 obtain ⟨nm2,h2,hb2⟩:=s.hp _ _ hj
 have hw:∀ {nm':Nm} {e z n:Nat} {cs:List AV},BlkR ρ w w0.heap.size nm' (.row true e z n cs)→BlkR (pair k nm k2 nm2) w w0.heap.size nm' (.row true e z n cs):=fun ⟨ys,q1,q2,q3⟩ =>
  ⟨ys,q1,q2,fun j hj=>(q3 j hj).weak fun b hb=>⟨fun j c n hj'=>by
   rcases ZeN hj' with ⟨rfl,e⟩ | ⟨rfl,e⟩
   ·exact hb.1 k0 c n (by rw [h1,← e])
   exact hb.1 j0 c n (by rw [h2,← e]),hb.2⟩⟩
 refine ⟨x,nm,nm2,rfl,⟨fun b c n' e=>⟨hb0.lowR e,by subst e;exact (s.wf.lo _ _ _ _ h1).2⟩,fun b c n' e=>⟨hb2.lowR e,by subst e;exact (s.wf.lo _ _ _ _ h2).2⟩,fun b c n' c' n'' e1 e2 => ?_⟩,hw hb0,hw hb2,rel_rep3 hne h1 h2 hr,s.bel⟩
 subst e1 e2
 exact hkj (s.wf.inj _ _ _ _ _ _ _ h1 h2)
theorem Zdr {fn:Func} {r:ResultVar} (k0 j0:Nat) {k e z n:Nat} (hr:fn.results = #[r]) (h1:ResV P h t r X) (hk:h k0=some (.row true e z n cs)) (hj:h j0=some (.row true e2 z2 n2 cs2)) (hu:X.rep3 k0 k j0 k2=u) (hne:k≠k2) (hkj:Nat.beq k0 j0=false:=by rfl) :
 ETri J w0 h t (bodyPost P fn (RetO2 w0 k (.row true e z n cs) k2 (.row true e2 z2 n2 cs2) u) .ret):=fun ρ a w s=>by
 obtain ⟨v,g1,g2⟩:=KN s h1
 refine ⟨s.df,v,?_,s.give2 hne (fun e=>by rw [e,Nat.beq_refl] at hkj;cases hkj) hk hj g2 hu⟩
 unfold results
 rw [hr,Sem.run_bind,Zbe (v:=v) (by cases r<;>exact g1)]
 rfl
theorem Za5 {f:FuncId} {fn:Func} {c:Code} {args:List AV} {Y:ABlk} {Y2:ABlk} (hf:P.funcs[f]? = some fn) (hb:fn.body=some c) (hpl:∀ X∈args,Plain X) {n:Nat} (hnt:fn.ntmps=n) (hna:args.length≤n)
 (H:∀ w0,ETri J w0 (ofL []) (ofT n ((List.range args.length).zip args)) (c.wp P (bodyPost P fn (RetO2 w0 k Y k2 Y2 u)))):CtrO2 P J f args k Y k2 Y2 u:=fun w vs hJ hl hv=>by
 refine (calls_of_wp hf hb (H ⟨w,fun _=>False,fun _=>none⟩ ⟨fun _=>none,fun _=>False⟩ _ w ⟨⟨(fun _ _ _ _ _ _ _ h=>by cases h),(fun _ _ _ _ h=>by cases h)⟩,rfl,Bel.refl _,(fun w' h=>hJ w' (h.below fun _ h=>h)),(fun _ _ h=>by cases h),fun _ _ _=>rfl,fun _ _=>rfl,by simp [hl,hnt,ofT];omega,fun i hi => ?_,rfl,fun _ _=>rfl⟩)).mono fun e w' ⟨v,nm,nm2,q1,q2,q3,q4,q5,q6⟩=>⟨v,nm,nm2,q1,q2,q3,q4,q5,q6.below fun _ h=>h⟩
 simp only [ofT]
 cases hf:((List.range args.length).zip args).find? fun p=>p.1==i with
 | none=>exact .anyR
 | some p =>
   have hm:=List.mem_of_find?_eq_some hf
   have hk':p.1=i:=by have:=List.find?_some hf;simpa using this
   obtain ⟨j,hj,e⟩:=List.getElem_of_mem hm
   simp only [List.getElem_zip,List.getElem_range] at e
   subst e
   dsimp only at hk'
   subst hk'
   have hj1:j<args.length:=by simp at hj;omega
   simp only [Option.map_some,Option.getD_some]
   have:=(hv j hj1).plain (F':=(w.heap.size ≤ ·)) (hpl _ (List.getElem_mem hj1))
   have hj2:j<vs.size:=by omega
   have e:(vs++Array.replicate (fn.ntmps-vs.size) undef).getD j undef=vs.getD j undef:=by simp [Array.getD,hj2,Array.getElem_append_left hj2];omega
   rw [e]
   exact .pu (this.weak fun b _ k c n hk=>by cases hk)
end
namespace Ra
open En Ap
def stP (c:Cf) (r:Ru) (k:Int):List Int:=if r.kind=2∨r.kind=5 then (st0 c r).set k.toNat r.pt else st0 c r
theorem stP_len (c:Cf) (r:Ru) (k:Int):(stP c r k).length=c.st.length:=by unfold stP;split<;>simp [st0_len]
variable {r:Ru}{i:Nat}
theorem stP_fin {k:Int} (h:r.kind=2∨r.kind=5→k.toNat≠i):(stP c r k).set i r.to=stA c r i k:=by
 unfold stP stA st1
 by_cases h2:r.kind=2∨r.kind=5
 ·rw [if_pos h2,if_pos h2,List.set_comm _ _ (h h2)]
 rw [if_neg h2,if_neg h2]
def wv (c:Cf) (r:Ru):Int:=if 0≤r.wr then r.wr else c.val
variable {l:List Int}{x:Int}
theorem set_row :setAll (l.map iv) (i*1) [iv x]=(l.set i x).map iv:=by
 show (l.map iv).set (i*1) (iv x)=_
 rw [Nat.mul_one,List.map_set]
variable {j:Nat}
theorem br_row (hx:x=brd r (c.st.getD j 0)):setAll ((brL r c.st j).map iv) (j*1) [iv x]=(brL r c.st (j+1)).map iv:=by
 rw [set_row,hx,brL_set]
theorem fin_row {k:Int} (h:r.kind=2∨r.kind=5→k.toNat≠i):setAll ((stP c r k).map iv) (i*1) [iv r.to]=(stA c r i k).map iv:=by
 rw [set_row,stP_fin h]
variable {cor:Int}
theorem ZeD (hc:(i:Int)<cor) (hk:k<r.send.length):seA cor c r i (k+1)=(seA cor c r i k).set r.send[k].toNat ((seA cor c r i k).getD r.send[k].toNat 0+1):=by
 unfold seA;rw [if_pos hc,if_pos hc,Zbc _ _ hk]
theorem ZeX (hc:¬ (i:Int)<cor) (hk:k<r.send.length):faA cor c r i (k+1)=(faA cor c r i k).set r.send[k].toNat ((faA cor c r i k).getD r.send[k].toNat 0+1):=by
 unfold faA;rw [if_neg hc,if_neg hc,Zbc _ _ hk]
theorem se_row (hc:(i:Int)<cor) (hk:k<r.send.length):setAll ((seA cor c r i k).map iv) (r.send[k].toNat*1) [iv ((seA cor c r i k).getD r.send[k].toNat 0+1)]=(seA cor c r i (k+1)).map iv:=by
 rw [set_row,ZeD hc hk]
theorem fa_row (hc:¬ (i:Int)<cor) (hk:k<r.send.length):setAll ((faA cor c r i k).map iv) (r.send[k].toNat*1) [iv ((faA cor c r i k).getD r.send[k].toNat 0+1)]=(faA cor c r i (k+1)).map iv:=by
 rw [set_row,ZeX hc hk]
theorem bel_of {m:Int} (h:∀ x∈l,0≤x∧x<m):Rd.belB l m=true:=by
 unfold Rd.belB
 rw [Bool.not_eq_true',List.any_eq_false]
 intro x hx
 have:=h x hx
 unfold Rd.outB
 simp only [Bool.or_eq_true,decide_eq_true_eq,not_or]
 omega
variable {M:Int}{m:Nat}
theorem bel_set (hb:Rd.belB l M=true) (hm:m<l.length) (h0:0≤x):Rd.belB (l.set m x) M=decide (x<M):=by
 by_cases h:x<M
 ·rw [decide_eq_true h]
  refine bel_of fun y hy => ?_
  rcases ZeR hy with h1 | rfl
  ·exact Zal hb y h1
  exact ⟨h0,h⟩
 rw [decide_eq_false h,Bool.eq_false_iff]
 intro e
 have hx:x∈l.set m x:=List.mem_iff_getElem.2 ⟨m,by rw [List.length_set];exact hm,List.getElem_set_self (by rw [List.length_set];exact hm)⟩
 exact h (Zal e x hx).2
theorem bel_inc (hn:∀ x∈l,0≤x) (hb:Rd.belB l M=false):Rd.belB (l.set m (l.getD m 0+1)) M=false:=by
 rw [Bool.eq_false_iff] at hb ⊢
 intro e
 refine hb (bel_of fun y hy=>⟨hn y hy,?_⟩)
 obtain ⟨j,hj,rfl⟩:=List.getElem_of_mem hy
 by_cases a:m=j
 ·subst a
  have hx:l.getD m 0+1∈l.set m (l.getD m 0+1):=List.mem_iff_getElem.2 ⟨m,by rw [List.length_set];exact hj,List.getElem_set_self (by rw [List.length_set];exact hj)⟩
  have:=(Zal e _ hx).2
  rw [Ct.getD_at hj] at this
  omega
 have hx:l[j]∈l.set m (l.getD m 0+1):=List.mem_iff_getElem.2 ⟨j,by rw [List.length_set];exact hj,List.getElem_set_ne a (by rw [List.length_set];exact hj)⟩
 exact (Zal e _ hx).2
section
variable {p:Fm} {n f:Int} {c:Cf} {r:Ru} {i k:Nat} {cor:Int}
variable {b:Bool}
theorem se_yes (hc:CfV p n f c) (hi:(i:Int)<cor) (hk:k<r.send.length) (hm:r.send[k].toNat<c.se.length) (hb:b=Rd.belB (seA cor c r i k) 1048577) (ht:b=true):decide ((seA cor c r i (k+1)).getD r.send[k].toNat 0≤1048576)=Rd.belB (seA cor c r i (k+1)) 1048577:=by
 rw [ht] at hb
 have h0:=Ap.getD_in (seA_in (cor:=cor) (r:=r) (i:=i) (k:=k) hc.se) (by omega) r.send[k].toNat
 rw [ZeD hi hk,ZaJ (by rw [seA_len];exact hm),if_pos rfl,bel_set hb.symm (by rw [seA_len];exact hm) (by omega)]
 by_cases a:(seA cor c r i k).getD r.send[k].toNat 0+1≤1048576
 ·rw [decide_eq_true a,decide_eq_true (by omega)]
 rw [decide_eq_false a,decide_eq_false (by omega)]
theorem se_nope (hc:CfV p n f c) (hi:(i:Int)<cor) (hk:k<r.send.length) (hb:b=Rd.belB (seA cor c r i k) 1048577) (ht:b=false):false=Rd.belB (seA cor c r i (k+1)) 1048577:=by
 rw [ht] at hb
 rw [ZeD hi hk,bel_inc (fun x hx=>(seA_in hc.se x hx).1) hb.symm]
theorem fa_yes (hc:CfV p n f c) (hi:¬ (i:Int)<cor) (hk:k<r.send.length) (hm:r.send[k].toNat<c.fa.length) (hb:b=Rd.belB (faA cor c r i k) 1048577) (ht:b=true):decide ((faA cor c r i (k+1)).getD r.send[k].toNat 0≤1048576)=Rd.belB (faA cor c r i (k+1)) 1048577:=by
 rw [ht] at hb
 have h0:=Ap.getD_in (faA_in (cor:=cor) (r:=r) (i:=i) (k:=k) hc.fa) (by omega) r.send[k].toNat
 rw [ZeX hi hk,ZaJ (by rw [faA_len];exact hm),if_pos rfl,bel_set hb.symm (by rw [faA_len];exact hm) (by omega)]
 by_cases a:(faA cor c r i k).getD r.send[k].toNat 0+1≤1048576
 ·rw [decide_eq_true a,decide_eq_true (by omega)]
 rw [decide_eq_false a,decide_eq_false (by omega)]
theorem fa_nope (hc:CfV p n f c) (hi:¬ (i:Int)<cor) (hk:k<r.send.length) (hb:b=Rd.belB (faA cor c r i k) 1048577) (ht:b=false):false=Rd.belB (faA cor c r i (k+1)) 1048577:=by
 rw [ht] at hb
 rw [ZeX hi hk,bel_inc (fun x hx=>(faA_in hc.fa x hx).1) hb.symm]
theorem bel_se (hc:CfV p n f c):Rd.belB c.se 1048577=true:=bel_of fun x hx=>by have:=hc.se x hx;omega
theorem bel_fa (hc:CfV p n f c):Rd.belB c.fa 1048577=true:=bel_of fun x hx=>by have:=hc.fa x hx;omega
theorem se_start (hc:CfV p n f c):true=Rd.belB (seA cor c r i 0) 1048577:=by
 have e:seA cor c r i 0=c.se:=by unfold seA snd;split<;>simp
 rw [e,bel_se hc]
theorem fa_start (hc:CfV p n f c):true=Rd.belB (faA cor c r i 0) 1048577:=by
 have e:faA cor c r i 0=c.fa:=by unfold faA snd;split<;>simp
 rw [e,bel_fa hc]
variable {k':Int}
theorem lg_se (hc:CfV p n f c) (hi:(i:Int)<cor):lgB (af cor c r i k')=Rd.belB (seA cor c r i r.send.length) 1048577:=by
 have e:(af cor c r i k').fa=c.fa:=if_pos hi
 unfold lgB
 rw [e,bel_fa hc,Bool.and_true]
 rfl
theorem lg_fa (hc:CfV p n f c) (hi:¬ (i:Int)<cor):lgB (af cor c r i k')=Rd.belB (faA cor c r i r.send.length) 1048577:=by
 have e:(af cor c r i k').se=c.se:=if_neg hi
 unfold lgB
 rw [e,bel_se hc,Bool.true_and]
 rfl
theorem res_se (hi:(i:Int)<cor):[Zb c.sh,AV.sl 1 (0+c.st.length) ((stA c r i k').map iv),iv c.cor,.sl 1 (0+c.se.length) ((seA cor c r i r.send.length).map iv),Zb c.fa,iv (wv c r)]=Rd.cCg (af cor c r i k'):=by
 have e:(af cor c r i k').fa=c.fa:=if_pos hi
 unfold Rd.cCg
 rw [e,show 0+c.st.length=(stA c r i k').length by rw [Zbo];omega,show 0+c.se.length=(seA cor c r i r.send.length).length by rw [seA_len];omega]
 rfl
theorem res_fa (hi:¬ (i:Int)<cor):[Zb c.sh,AV.sl 1 (0+c.st.length) ((stA c r i k').map iv),iv c.cor,Zb c.se,.sl 1 (0+c.fa.length) ((faA cor c r i r.send.length).map iv),iv (wv c r)]=Rd.cCg (af cor c r i k'):=by
 have e:(af cor c r i k').se=c.se:=if_neg hi
 unfold Rd.cCg
 rw [e,show 0+c.st.length=(stA c r i k').length by rw [Zbo];omega,show 0+c.fa.length=(faA cor c r i r.send.length).length by rw [faA_len];omega]
 rfl
theorem se_zero:seA cor c r i 0=c.se:=by unfold seA snd;split<;>simp
theorem fa_zero:faA cor c r i 0=c.fa:=by unfold faA snd;split<;>simp
end
end Ra
namespace Ra
open En Ap
variable {r:Ru}{i:Nat}
theorem pt_ne {k:Int} (h:ptB c r i k=true) (h25:r.kind=2∨r.kind=5):k.toNat≠i:=by
 unfold ptB at h
 rw [if_pos h25,Bool.and_eq_true,Bool.and_eq_true] at h
 have h1:=h.1.1
 have h2:=h.1.2
 unfold isP at h1
 simp only [Bool.and_eq_true,decide_eq_true_eq,Bool.not_eq_true',decide_eq_false_iff_not] at h1 h2
 omega
section
variable {p:Fm} {n t f:Int} {c:Cf} {x y k:Int}
theorem apE_y (hz:Rd.vcE p n t f c=0) (he:enB p n t f c (hdJ p f c p.msgs.length) x y k=true) (hl:lgB (afX p n f c x y k)=true):apE p n t f c x y k=0:=by unfold apE;rw [if_pos hz,if_pos he,if_pos hl]
theorem apC_y (hz:Rd.vcE p n t f c=0) (he:enB p n t f c (hdJ p f c p.msgs.length) x y k=true) (hl:lgB (afX p n f c x y k)=true):apC p n t f c x y k=afX p n f c x y k:=by unfold apC;rw [apE_y hz he hl,if_pos rfl]
theorem apE_n (hz:Rd.vcE p n t f c=0) (he:enB p n t f c (hdJ p f c p.msgs.length) x y k=true) (hl:lgB (afX p n f c x y k)=false):apE p n t f c x y k=4:=by unfold apE;rw [if_pos hz,if_pos he,hl];rfl
theorem apC_n (hz:Rd.vcE p n t f c=0) (he:enB p n t f c (hdJ p f c p.msgs.length) x y k=true) (hl:lgB (afX p n f c x y k)=false):apC p n t f c x y k=zC:=by unfold apC;rw [apE_n hz he hl];rfl
end
end Ra
namespace Ap
variable {r:Ru}{j:Nat}
theorem brd_el {h:j<c.st.length} (hr:c.st[j].toNat<r.resp.length):r.resp[c.st[j].toNat]=brd r (c.st.getD j 0):=by
 rw [brd_at hr,Ct.getD_at h]
theorem cst_el (hc:En.CfV p n f c) (h:j<c.st.length):0≤c.st[j]∧c.st[j]<p.sz.length:=hc.st _ (List.getElem_mem h)
end Ap
set_option maxHeartbeats 12800000
set_option maxRecDepth 100000 in
theorem Zah (xs:List Int) (hx:xs.length≤17592186044416) (k:Nat):CtrO Tryz.prog J 21 [Zb xs] k (.row true 3 1 (0+xs.length) (xs.map iv)) (.own k):=by
 refine Ze1 Tryz.func21 rfl (by intro X hX;simp at hX;subst hX;exact ZK _) (n:=6) rfl (by simp) (fun w0 => ?_)
 refine kW 6 [] [(0,Zb xs)] (jB (oS (nz) (jD (Za (Y6 rfl (Zbr (z:=1) (k:=1) true rfl U24 (by kernel_rfl)) T0 T0 rfl (oS (Zb xs) (Y6 rfl (WV (n:=0) (cs:=[]) (fr:=true) (m:=xs.length) (ds:=(xs.map iv)) (⟨U24,by kernel_rfl,by decide⟩:Elt Tryz.prog 24 3 1 8) (.tmp 3) (.tmp 4) rfl (fun _ d hd=>by obtain ⟨x,_,rfl⟩:=List.mem_map.1 hd;rfl) (by unfold maxLen;omega) (by omega) (fun d hd=>by obtain ⟨x,_,rfl⟩:=List.mem_map.1 hd;rfl) (es:=(xs.map iv)) (by rw [Zdp];rfl)) ⟨I0,I0,T0⟩ ⟨rfl,T0⟩ rfl (oS (.own 1) (jE ?_)))))))))
 refine tri_give1 1 Tryz.results21 (.tmp rfl) rfl rfl
set_option maxRecDepth 100000 in
theorem CopyCf_se (HC:Rd.CgOk c) (k k2:Nat) (hkk:k≠k2):CtrO2 Tryz.prog J 8 [.agg (Rd.cCg c)] k (.row true 3 1 (0+c.st.length) (c.st.map iv)) k2 (.row true 3 1 (0+c.se.length) (c.se.map iv)) (.agg [.fr (Zb c.sh),.own k,iv c.cor,.own k2,.fr (Zb c.fa),iv c.val]):=by
 refine Za5 Tryz.func8 rfl (pN (Zh (Rd.plain_cg c)) pZ) (n:=20) rfl (by simp) (fun w0 => ?_)
 refine kW 20 [] [(0,.agg (Rd.cCg c))] (jB (oX 1 (.agg (Rd.cCg c)) (oZ 2 Z31 (jD ?_))))
 refine tD (dW (dW (dk (Ka c.sh (Nat.le_trans HC.lsh (by decide))) [Zb c.sh] rfl rfl (dW (dS (Zb c.st) (dR (Zba (c := .func 21) (xs := #[.tmp 7]) [] (Zah c.st (Nat.le_trans HC.lst (by decide)) 3) rfl (by kernel_rfl) rfl (Xs:=[Zb c.st]) rfl rfl rfl) ⟨I0,I0,T0⟩ T0 rfl (dW (dS (iv c.cor) (dW (dS (Zb c.se) (dR (Zba (c := .func 21) (xs := #[.tmp 12]) [] (Zah c.se (Nat.le_trans HC.lse (by decide)) 4) rfl (by kernel_rfl) rfl (Xs:=[Zb c.se]) rfl rfl rfl) ⟨I0,I0,T0⟩ T0 rfl (dW (dW (dk (Ka c.fa (Nat.le_trans HC.lfa (by decide))) [Zb c.fa] rfl rfl (dW (dS (iv c.val) (dR (ZcL [0,1,2,3,4,5] [.tmp 5,.tmp 8,.tmp 10,.tmp 13,.tmp 16,.tmp 18] [.fr (Zb c.sh),.own 3,iv c.cor,.own 4,.fr (Zb c.fa),iv c.val] [.inr 0,.inr 1,.inr 2,.inr 3,.inr 4,.inr 5] rfl rfl rfl rfl rfl (fun _=>by kernel_rfl) rfl (ds:=[.fr (Zb c.sh),.own 3,iv c.cor,.own 4,.fr (Zb c.fa),iv c.val]) rfl) ⟨I0,I0,I0,I0,I0,I0,T0⟩ T0 T0 (dY (eD ?_)))))))))))))))))))
 refine kW 20 [(2,.box 31 [.fr (Zb c.sh),.own 3,iv c.cor,.own 4,.fr (Zb c.fa),iv c.val]),(3,.row true 3 1 (0+c.st.length) (c.st.map iv)),(4,.row true 3 1 (0+c.se.length) (c.se.map iv))] [(2,bx 2)] (Zf (Z4 ?_))
 refine Zdr 3 4 Tryz.results8 (.cellS rfl rfl U31 rfl (z:=6) (by kernel_rfl) rfl (by decide)) rfl rfl rfl hkk
set_option maxRecDepth 100000 in
theorem CopyCf_fa (HC:Rd.CgOk c) (k k2:Nat) (hkk:k≠k2):CtrO2 Tryz.prog J 8 [.agg (Rd.cCg c)] k (.row true 3 1 (0+c.st.length) (c.st.map iv)) k2 (.row true 3 1 (0+c.fa.length) (c.fa.map iv)) (.agg [.fr (Zb c.sh),.own k,iv c.cor,.fr (Zb c.se),.own k2,iv c.val]):=by
 refine Za5 Tryz.func8 rfl (pN (Zh (Rd.plain_cg c)) pZ) (n:=20) rfl (by simp) (fun w0 => ?_)
 refine kW 20 [] [(0,.agg (Rd.cCg c))] (jB (oX 1 (.agg (Rd.cCg c)) (oZ 2 Z31 (jD ?_))))
 refine tD (dW (dW (dk (Ka c.sh (Nat.le_trans HC.lsh (by decide))) [Zb c.sh] rfl rfl (dW (dS (Zb c.st) (dR (Zba (c := .func 21) (xs := #[.tmp 7]) [] (Zah c.st (Nat.le_trans HC.lst (by decide)) 3) rfl (by kernel_rfl) rfl (Xs:=[Zb c.st]) rfl rfl rfl) ⟨I0,I0,T0⟩ T0 rfl (dW (dS (iv c.cor) (dW (dW (dk (Ka c.se (Nat.le_trans HC.lse (by decide))) [Zb c.se] rfl rfl (dW (dS (Zb c.fa) (dR (Zba (c := .func 21) (xs := #[.tmp 15]) [] (Zah c.fa (Nat.le_trans HC.lfa (by decide)) 4) rfl (by kernel_rfl) rfl (Xs:=[Zb c.fa]) rfl rfl rfl) ⟨I0,I0,T0⟩ T0 rfl (dW (dS (iv c.val) (dR (ZcL [0,1,2,3,4,5] [.tmp 5,.tmp 8,.tmp 10,.tmp 13,.tmp 16,.tmp 18] [.fr (Zb c.sh),.own 3,iv c.cor,.fr (Zb c.se),.own 4,iv c.val] [.inr 0,.inr 1,.inr 2,.inr 3,.inr 4,.inr 5] rfl rfl rfl rfl rfl (fun _=>by kernel_rfl) rfl (ds:=[.fr (Zb c.sh),.own 3,iv c.cor,.fr (Zb c.se),.own 4,iv c.val]) rfl) ⟨I0,I0,I0,I0,I0,I0,T0⟩ T0 T0 (dY (eD ?_)))))))))))))))))))
 refine kW 20 [(2,.box 31 [.fr (Zb c.sh),.own 3,iv c.cor,.fr (Zb c.se),.own 4,iv c.val]),(3,.row true 3 1 (0+c.st.length) (c.st.map iv)),(4,.row true 3 1 (0+c.fa.length) (c.fa.map iv))] [(2,bx 2)] (Zf (Z4 ?_))
 refine Zdr 3 4 Tryz.results8 (.cellS rfl rfl U31 rfl (z:=6) (by kernel_rfl) rfl (by decide)) rfl rfl rfl hkk
theorem Jd.in_w {n i:Nat} (h:i<n):Rd.inW 0 ((n:Int)-1) (i:Int)=true:=by
 unfold Rd.inW
 rw [decide_eq_true (by omega),decide_eq_true (by omega)];rfl
variable {sh:List Int}
theorem Jd.ringS {n i:Nat} (hi:i<n):(((i+1:Nat):Nat):Int).tmod (n:Int)=Jd.lkS 3 sh n i:=by
 unfold Jd.lkS rowL
 rw [if_neg (by omega)]
 dsimp only
 by_cases e:(i:Int)=(n:Int)-1
 ·rw [if_pos e,if_pos rfl,show (((i+1:Nat):Nat):Int)=(n:Int) by omega,Int.tmod_self]
 rw [if_neg e,Int.tmod_eq_of_lt (by omega) (by omega)];omega
variable {i:Nat}
theorem Jd.t_2 (hs:shp sh=true) (hi:i<sh.length) (h:sh[i]=2):Jd.lkF 4 sh sh.length i=((i+1:Nat):Int)∧Jd.lkS 4 sh sh.length i=(trun sh sh.length).se i:=by
 have:=((Tr.tree_kids hs hi).2 (by rw [Ct.getD_at hi];exact h)).1
 unfold Jd.lkF Jd.lkS
 rw [if_pos rfl,if_pos rfl,this]
 exact ⟨by omega,rfl⟩
theorem Jd.t_0 (hs:shp sh=true) (hi:i<sh.length) (h:¬ sh[i]=2):Jd.lkF 4 sh sh.length i = -1∧Jd.lkS 4 sh sh.length i = -1:=by
 have:=(Tr.tree_kids hs hi).1 (by rw [Ct.getD_at hi];exact h)
 unfold Jd.lkF Jd.lkS
 rw [if_pos rfl,if_pos rfl]
 exact this
variable {xs:List Int}
theorem end_c (hs:shp xs=true) (lx:xs.length≤100) {j E:Nat} (hj1:j≤E) (hE:Tr.pre xs E+1=Tr.pre xs j) (hP:∀ t,j≤t→t<E→Tr.pre xs j≤Tr.pre xs t) (hl:E≤xs.length):Ctr Tryz.prog J 66 [Zb xs,iv j] (iv (E:Int)):=by
 refine Zm Tryz.func66 rfl (pN (ZK _) (pN (.v _) pZ)) (n:=18) rfl (by simp) (fun w0 => ?_)
 refine kW 18 [] [(0,Zb xs),(1,iv j)] (jB (oS (iv 0) (kN 18 [] [(0,Zb xs),(1,iv j),(4,iv 0)] (jC (Za (oS (iv 1) (kN 18 [] [(0,Zb xs),(1,iv j),(4,iv 0),(5,iv 1)] (jC (Zo ?_)))))))))
 refine ZL (σ:={s:Nat × Int // j≤s.1∧s.1≤E∧s.2=1+Tr.pre xs s.1-Tr.pre xs j}) (fun s=>(ofL [],ofT 18 [(0,Zb xs),(1,iv s.1.1),(4,iv 0),(5,iv s.1.2)])) (fun s=>E-s.1.1) ⟨(j,1),Nat.le_refl _,hj1,by dsimp only;omega⟩ (Zp [] _) (fun s => ?_)
 obtain ⟨⟨t,o⟩,ht0,ht1,hto⟩:=s
 show ETri J w0 (ofL []) (ofT 18 [(0,Zb xs),(1,iv t),(4,iv 0),(5,iv o)]) _
 dsimp only at ht0 ht1 hto
 have hb1:=Tr.pre_bd hs t (by omega)
 have hb2:=Tr.pre_bd hs j (by omega)
 refine jM ?_
 by_cases hs1:0<o
 have ht2:t<E:=by
  rcases Nat.lt_or_ge t E with h | h
  ·exact h
  exfalso;have e:t=E:=by omega
  subst e;omega
 have ht3:t<xs.length:=by omega
 have h02:=Tr.shp_02 hs ht3
 refine Za (oW (og (dT hs1) (jH (Zq (Zf (Zo (jB (oS (iv o) (oS (Zb xs) (oS (iv t) (oC (xS (t*1) 9 10 U24) I0 I0 (oL (iv xs[t]) (Zw xs (by omega)) (oU (xs[t]-1) (oV (o+xs[t]-1) (oS (iv (o+xs[t]-1)) (jA (Za (oS (iv t) (oV ((t+1:Nat):Int) ?_)))))))))))))))))))
 refine oS (iv (t+1:Nat)) (kN 18 [] [(0,Zb xs),(1,iv (t+1:Nat)),(4,iv 0),(5,iv (o+xs[t]-1)),(7,bT)] (Zv (Zf ?_)))
 refine Zs ⟨(t+1,o+xs[t]-1),by dsimp only;omega,by dsimp only;omega,by dsimp only;rw [Tr.pre_succ ht3];omega⟩ (show E-(t+1)<E-t by omega) ?_
 show Wk _ _ (ofL []) (ofT 18 [(0,Zb xs),(1,iv ((t+1):Nat)),(4,iv 0),(5,iv (o+xs[t]-1))])
 exact Zp [] _
 have ht2:t=E:=by
  rcases Nat.lt_or_ge t E with h | h
  ·exfalso;have:=hP t ht0 h;omega
  omega
 refine Za (oW (og (dF hs1) (jI (jO (jC (Za (oF (iv t) (jE ?_))))))))
 refine Zg Tryz.results66 (.tmp rfl) ?_
 subst ht2
 exact rfl
theorem Zec (hs:shp xs=true) (lx:xs.length≤100) (hi:i<xs.length) (h2:xs[i]=2):Ctr Tryz.prog J 66 [Zb xs,iv ((i+1:Nat):Int)] (iv ((trun xs xs.length).se i)):=by
 obtain ⟨_,e,he,h3,h4,h5⟩:=(Tr.tree_kids hs hi).2 (by rw [Ct.getD_at hi];exact h2)
 have T:=(Zbl xs hs).1.snd i hi
 rw [he]
 refine end_c hs lx h4 h3 h5 ?_
 rcases T with h | ⟨j,hj,h,_⟩<;>omega
theorem nbRing_c {n i:Nat} (hi:i<n) (hn:n≤100) :Ctr Tryz.prog J 43 [iv 3,Zb sh,iv n,iv i] (.tup [iv (Jd.lkF 3 sh n i),iv (Jd.lkS 3 sh n i),iv (-1)]):=by
 refine Zm Tryz.func43 rfl (pN (.v _) (pN (ZK _) (pN (.v _) (pN (.v _) pZ)))) (n:=99) rfl (by simp) (fun w0 => ?_)
 refine kW 99 [] [(0,iv 3),(1,Zb sh),(2,iv n),(3,iv i)] (jB (oS (iv 0) (oS (iv 0) (oS (iv 0) (jD (jB (oW (oS (iv n) (oU ((n:Int)-1) (oK (Zr Kv (Jd.in_w hi)) [iv i,iv 0,iv ((n:Int)-1)] rfl rfl (oS bF (jF (jM (Za ?_))))))))))))))
 refine oS (iv 3) (oC (ZM (r:=true) rfl (by decide)) I0 I0 (jG (oS (iv i) (oU ((i:Int)-1) (oS (iv ((i:Int)-1)) (jD (Zl ?_)))))))
 by_cases hs1:(i:Int)=0
 refine Za (oW (oe (dT hs1) (jH (Za (oS (iv n) (oU ((n:Int)-1) (oS (iv ((n:Int)-1)) (jD ?_))))))))
 refine tD (dW (dS (iv i) (dC (WW (c:=((i+1:Nat):Int)) rfl (w64 (by omega) (by omega) (by omega))) I0 I0 (dS (iv n) (dC (sp_rem (c:=(Jd.lkS 3 sh n i)) rfl (by omega) (Jd.ringS hi)) I0 I0 (dS (iv ((n:Int)-1)) (dS (iv (Jd.lkS 3 sh n i)) (dS (iv (-1)) (eD ?_)))))))))
 refine Zf (jN ?_)
 refine Wq Tryz.results43 (.tmp rfl) (.tmp rfl) (.tmp rfl) ?_
 rw [show Jd.lkF 3 sh n i=(n:Int)-1 by unfold Jd.lkF rowL;rw [if_neg (by omega)];dsimp only;rw [if_pos ⟨rfl,hs1⟩]]
 exact rfl
 refine Za (oW (oe (dF hs1) (jF (Zl ?_))))
 refine tD (dW (dS (iv i) (dC (WW (c:=((i+1:Nat):Int)) rfl (w64 (by omega) (by omega) (by omega))) I0 I0 (dS (iv n) (dC (sp_rem (c:=(Jd.lkS 3 sh n i)) rfl (by omega) (Jd.ringS hi)) I0 I0 (dS (iv ((i:Int)-1)) (dS (iv (Jd.lkS 3 sh n i)) (dS (iv (-1)) (eD ?_)))))))))
 refine Zf (jN ?_)
 refine Wq Tryz.results43 (.tmp rfl) (.tmp rfl) (.tmp rfl) ?_
 rw [show Jd.lkF 3 sh n i=(i:Int)-1 by unfold Jd.lkF rowL;rw [if_neg (by omega)];dsimp only;rw [if_neg fun h=>hs1 h.2]]
 exact rfl
theorem nbLine_c {n i:Nat} (hi:i<n) (hn:n≤100) :Ctr Tryz.prog J 43 [iv 2,Zb sh,iv n,iv i] (.tup [iv (Jd.lkF 2 sh n i),iv (Jd.lkS 2 sh n i),iv (-1)]):=by
 refine Zm Tryz.func43 rfl (pN (.v _) (pN (ZK _) (pN (.v _) (pN (.v _) pZ)))) (n:=99) rfl (by simp) (fun w0 => ?_)
 refine kW 99 [] [(0,iv 2),(1,Zb sh),(2,iv n),(3,iv i)] (jB (oS (iv 0) (oS (iv 0) (oS (iv 0) (jD (jB (oW (oS (iv n) (oU ((n:Int)-1) (oK (Zr Kv (Jd.in_w hi)) [iv i,iv 0,iv ((n:Int)-1)] rfl rfl (oS bF (jF (jM (Za ?_))))))))))))))
 refine oS (iv 2) (oC (ZM (r:=false) rfl (by decide)) I0 I0 (jF (jM (Za (oS (iv 2) (oC (ZM (r:=true) rfl (by decide)) I0 I0 (jG (oS (iv i) (oU ((i:Int)-1) (oS (iv i) (oV ((i+1:Nat):Int) (oS (iv ((i:Int)-1)) (oS (iv (i+1:Nat)) (Yh ?_))))))))))))))
 refine jC (Zl ?_)
 by_cases hs1:((i+1:Nat):Int)=(n:Int)
 refine Za (oW (oW (oe (dT hs1) (jH (Za (oS (iv (-1)) (jD (Za (oW (oW (oS (iv ((i:Int)-1)) (oS (iv (-1)) (oS (iv (-1)) (jE (Zc ?_)))))))))))))))
 refine Wq Tryz.results43 (.tmp rfl) (.tmp rfl) (.tmp rfl) ?_
 rw [show Jd.lkF 2 sh n i=(i:Int)-1 by unfold Jd.lkF rowL;rw [if_neg (by omega)];dsimp only;rw [if_neg (by omega)],show Jd.lkS 2 sh n i=(-1) by unfold Jd.lkS rowL;rw [if_neg (by omega)];dsimp only;rw [if_pos (by omega),if_neg (by omega)]]
 exact rfl
 refine Za (oW (oW (oe (dF hs1) (jF (jB (oW (oW (oS (iv ((i:Int)-1)) (oS (iv (i+1:Nat)) (oS (iv (-1)) (jE (Zc ?_))))))))))))
 refine Wq Tryz.results43 (.tmp rfl) (.tmp rfl) (.tmp rfl) ?_
 rw [show Jd.lkF 2 sh n i=(i:Int)-1 by unfold Jd.lkF rowL;rw [if_neg (by omega)];dsimp only;rw [if_neg (by omega)],show Jd.lkS 2 sh n i=((i+1:Nat):Int) by unfold Jd.lkS rowL;rw [if_neg (by omega)];dsimp only;rw [if_neg (by omega)];omega]
 exact rfl
namespace En
def parI (sh:List Int) (i k:Nat) (q:Int):Prop :=
 (q = -1∧∀ j:Nat,j<k→(trun sh sh.length).fi j≠(i:Int)∧(trun sh sh.length).se j≠(i:Int))∨∃ j:Nat,j<k∧q=(j:Int)∧((trun sh sh.length).fi j=(i:Int)∨(trun sh sh.length).se j=(i:Int))
theorem par_zero :parI sh i 0 (-1) := .inl ⟨rfl,fun _ h=>absurd h (by omega)⟩
theorem par_here (hs:shp sh=true) (hk:k<sh.length) (h2:sh[k]=2) (h:((k+1:Nat):Int)=(i:Int)∨(trun sh sh.length).se k=(i:Int)):parI sh i (k+1) (k:Int):=by
 refine .inr ⟨k,by omega,rfl,?_⟩
 rcases h with h | h
 ·have:=((Tr.tree_kids hs hk).2 (by rw [Ct.getD_at hk];exact h2)).1
  exact .inl (by omega)
 exact .inr h
variable {q:Int}
theorem par_skip (hs:shp sh=true) (hk:k<sh.length) (h0:parI sh i k q) (h:¬ sh[k]=2∨(sh[k]=2∧¬ ((k+1:Nat):Int)=(i:Int)∧¬ (trun sh sh.length).se k=(i:Int))):parI sh i (k+1) q:=by
 rcases h0 with ⟨hq,h0⟩ | ⟨j,hj,hq,h0⟩
 ·refine .inl ⟨hq,fun j hj => ?_⟩
  by_cases e:j=k
  ·subst e
   rcases h with h | ⟨h2,h3,h4⟩
   ·have:=(Tr.tree_kids hs hk).1 (by rw [Ct.getD_at hk];exact h)
    omega
   have:=((Tr.tree_kids hs hk).2 (by rw [Ct.getD_at hk];exact h2)).1
   exact ⟨by omega,h4⟩
  exact h0 j (by omega)
 exact .inr ⟨j,by omega,hq,h0⟩
theorem par_end (hs:shp sh=true) (hi:i<sh.length) (hk:¬ k<i) (hk2:k≤i) (h:parI sh i k q):q=lkP 4 sh sh.length i:=by
 obtain rfl:k=i:=by omega
 have T:=(Zbl sh hs).1
 unfold lkP
 rw [if_pos rfl]
 rcases h with ⟨hq,h0⟩ | ⟨j,hj,hq,h0⟩
 ·rcases T.par k hi with e | ⟨p,hp,e,h1⟩
  ·rw [hq,e]
  exfalso
  have hpi:p<k:=by
   by_cases h2:sh.getD p 0=2
   ·obtain ⟨a,e2,b1,_,b3,_⟩:=(Tr.tree_kids hs hp).2 h2
    rcases h1 with h1 | h1<;>omega
   have:=(Tr.tree_kids hs hp).1 h2
   omega
  have:=h0 p hpi
  rcases h1 with h1 | h1
  ·exact this.1 h1
  exact this.2 h1
 rcases h0 with h0 | h0
 ·rcases T.fst j (by omega) with e | ⟨m,hm,e,h1⟩
  ·omega
  have:m=k:=by omega
  rw [hq,← this];exact h1.symm
 rcases T.snd j (by omega) with e | ⟨m,hm,e,h1⟩
 ·omega
 have:m=k:=by omega
 rw [hq,← this];exact h1.symm
def nF (top:Int) (sh:List Int) (n i:Nat):Int:=if top=1 then -1 else Jd.lkF top sh n i
def nS (top:Int) (sh:List Int) (n i:Nat):Int:=if top=1 then -1 else Jd.lkS top sh n i
def nP (top:Int) (sh:List Int) (n i:Nat):Int:=if top=1 then -1 else lkP top sh n i
theorem lkP_row {top:Int} {n i:Nat} (h:¬ top=4):lkP top sh n i = -1:=by
 unfold lkP;rw [if_neg h];rfl
theorem both (hs:shp sh=true) (hi:i<sh.length):(0≤Jd.lkS 4 sh sh.length i↔¬ Jd.lkF 4 sh sh.length i = -1):=by
 by_cases h:sh[i]=2
 ·obtain ⟨a,e,b1,_,b3,_⟩:=(Tr.tree_kids hs hi).2 (by rw [Ct.getD_at hi];exact h)
  unfold Jd.lkF Jd.lkS
  rw [if_pos rfl,if_pos rfl]
  constructor
  ·intro _;omega
  intro _;omega
 have:=Jd.t_0 hs hi h
 rw [this.1,this.2]
 constructor<;>omega
theorem lineS {n i:Nat} (hi:i<n):(0≤Jd.lkS 2 sh n i↔¬ Jd.lkS 2 sh n i = -1):=by
 unfold Jd.lkS rowL
 rw [if_neg (by omega)]
 dsimp only
 (repeat' split)<;>omega
variable {fo:Bool}{m:Nat}
theorem g_1 (hm:m<p.msgs.length) (h:p.fzz=1):hdG p f c fo m=c.se.getD m 0+c.fa.getD m 0:=by
 have:hdJ p f c p.msgs.length m=c.se.getD m 0+c.fa.getD m 0:=by unfold hdJ;rw [if_pos hm];unfold hdV;rw [if_pos (.inl h)]
 unfold hdG
 rw [if_pos h]
 split<;>exact this
theorem g_f (hm:m<p.msgs.length):hdG p f c false m=hdV p f c m:=by
 unfold hdG
 rw [if_neg (by decide)]
 unfold hdJ;rw [if_pos hm]
theorem g_t (h:¬ p.fzz=1):hdG p f c true m=c.se.getD m 0:=by
 unfold hdG
 rw [if_pos rfl,if_neg h]
theorem g_2 (hm:m<p.msgs.length) (h:p.fzz=2) (e:fo=false):hdG p f c fo m=c.se.getD m 0+c.fa.getD m 0:=by
 rw [e,g_f hm];unfold hdV;rw [if_pos (.inr h)]
theorem g_3 (hm:m<p.msgs.length) (h1:¬ p.fzz=1) (h2:¬ p.fzz=2) (h3:p.fzz=3) (e:fo=false):hdG p f c fo m=c.se.getD m 0+f:=by
 rw [e,g_f hm];unfold hdV;rw [if_neg (by omega),if_pos h3]
theorem g_0 (hm:m<p.msgs.length) (h1:¬ p.fzz=1) (h2:¬ p.fzz=2) (h3:¬ p.fzz=3):hdG p f c fo m=c.se.getD m 0:=by
 cases fo with
 | true=>exact g_t h1
 | false=>rw [g_f hm];unfold hdV;rw [if_neg (by omega),if_neg h3]
end En
theorem rEv_c {l:Ln} :Ctr Tryz.prog J 67 [.agg (cLn l),.agg (cSz n t f)] (.tup [iv (evN l.c l.n l.t l.f n t f),iv (evE l.c l.n l.t l.f n t f)]):=ctr2 fun w v v' _ h h'=>by
 obtain ⟨vs,rfl,hl,hv⟩:=YX h
 have e:vs=[.int .i64 l.c,.int .i64 l.n,.int .i64 l.t,.int .i64 l.f]:=by
  rw [cells4 hl,(hv 0 (by simp [cLn])).v_inv,(hv 1 (by simp [cLn])).v_inv,(hv 2 (by simp [cLn])).v_inv,(hv 3 (by simp [cLn])).v_inv]
 subst e
 rw [sz_of h']
 exact (ZcR l.c l.n l.t l.f n t f w).mono fun _ _ hh=>⟨_,hh.1,.tup rfl fun j hj=>(match j,hj with
  | 0,_ => .v _
  | 1,_ => .v _),by first | exact hh.2 | (rw [← hh.2];exact Below.refl _ _) | (rw [hh.2];exact Below.refl _ _)⟩
abbrev XEr1_h1 (x0:List Int) (x1:Nat) (x2:Nat):List (Nat × AV):=[(1,Zb x0),(3,iv x1),(8,iv 0),(9,iv 0),(10,iv 0),(14,iv (x1+1:Nat)),(15,iv ((trun x0 x0.length).se x1)),(16,iv x2),(17,iv (x2+1:Nat)),(73,bT),(94,bT)]
abbrev XEr1_h2 (x0:List Int) (x1:Nat) (x2:Nat):List (Nat × AV):=[(1,Zb x0),(3,iv x1),(8,iv 0),(9,iv 0),(10,iv 0),(14,iv (x1+1:Nat)),(15,iv ((trun x0 x0.length).se x1)),(16,iv (x2:Int)),(17,iv ((x2+1):Nat))]
abbrev XEr1_h3 (x0:List Int) (x1:Nat) (x2:Nat):List (Nat × AV):=[(1,Zb x0),(3,iv x1),(8,iv 0),(9,iv 0),(10,iv 0),(14,iv (-1)),(15,iv (-1)),(16,iv x2),(17,iv (x2+1:Nat)),(73,bT),(94,bT)]
abbrev XEr1_h4 (x0:List Int) (x1:Nat) (x2:Nat):List (Nat × AV):=[(1,Zb x0),(3,iv x1),(8,iv 0),(9,iv 0),(10,iv 0),(14,iv (-1)),(15,iv (-1)),(16,iv (x2:Int)),(17,iv ((x2+1):Nat))]
theorem nbTreeP_c (hI:InOk sh) (hs:shp sh=true) (lsh:sh.length≤100) (hi:i<sh.length):Ctr Tryz.prog J 43 [iv 4,Zb sh,iv sh.length,iv i] (.tup [iv (Jd.lkF 4 sh sh.length i),iv (Jd.lkS 4 sh sh.length i),iv (En.lkP 4 sh sh.length i)]):=by
 refine Zm Tryz.func43 rfl (pN (.v _) (pN (ZK _) (pN (.v _) (pN (.v _) pZ)))) (n:=99) rfl (by simp) (fun w0 => ?_)
 refine kW 99 [] [(0,iv 4),(1,Zb sh),(2,iv sh.length),(3,iv i)] (jB (oS (iv 0) (oS (iv 0) (oS (iv 0) (jD (jB (oW (oS (iv sh.length) (oU ((sh.length:Int)-1) (oK (Zr Kv (Jd.in_w hi)) [iv i,iv 0,iv ((sh.length:Int)-1)] rfl rfl (oS bF (jF (jM (Za ?_))))))))))))))
 refine oS (iv 4) (oC (ZM (r:=false) rfl (by decide)) I0 I0 (jF (jM (Za (oS (iv 4) (oC (ZM (r:=false) rfl (by decide)) I0 I0 (jF (jM (Za (oS (iv 4) (oC (YJ (r:=false) rfl (by decide)) I0 I0 (oS bF (oF (iv sh.length) ?_)))))))))))))
 refine oS (iv sh.length) (gC (YJ rfl (dT' rfl)) I0 I0 (oF bF (oW (oK (Zr (Rd.IsShape_c hI lsh) hs) [Zb sh] rfl rfl (oW (oS bF (jF (jB (oS (iv (-1)) (oS (iv (-1)) (oS (iv (-1)) (jD (Zl ?_)))))))))))))
 by_cases hs1:sh[i]=2
 refine Za (oS (Zb sh) (oS (iv i) (oC (xS (i*1) 60 61 U24) I0 I0 (oL (iv sh[i]) (Zw sh (by omega)) (oe (dT hs1) (jG (oS (iv i) (oV ((i+1:Nat):Int) (oS (iv (i+1:Nat)) (jA (Za (oW (oS (iv i) (oV ((i+1:Nat):Int) (oK (Zec hs lsh (by omega) hs1) [Zb sh,iv (i+1:Nat)] rfl rfl (oS (iv ((trun sh sh.length).se i)) (kN 99 [] [(1,Zb sh),(3,iv i),(8,iv 0),(9,iv 0),(10,iv 0),(14,iv (i+1:Nat)),(15,iv ((trun sh sh.length).se i)),(16,iv (-1))] (Zf ?_))))))))))))))))))
 refine jM (Za (oS (iv 0) (kN 99 [] [(1,Zb sh),(3,iv i),(8,iv 0),(9,iv 0),(10,iv 0),(14,iv (i+1:Nat)),(15,iv ((trun sh sh.length).se i)),(16,iv (-1)),(17,iv 0)] (Zf (Zo ?_)))))
 refine ZL (σ:={s:Nat × Int // s.1≤i∧En.parI sh i s.1 s.2}) (fun s=>(ofL [],ofT 99 [(1,Zb sh),(3,iv i),(8,iv 0),(9,iv 0),(10,iv 0),(14,iv (i+1:Nat)),(15,iv ((trun sh sh.length).se i)),(16,iv s.1.2),(17,iv s.1.1)])) (fun s=>i-s.1.1) ⟨(0,-1),Nat.zero_le _,En.par_zero⟩ (Zp [] _) (fun s => ?_)
 obtain ⟨⟨k,q⟩,hk0,hpi⟩:=s
 show ETri J w0 (ofL []) (ofT 99 [(1,Zb sh),(3,iv i),(8,iv 0),(9,iv 0),(10,iv 0),(14,iv (i+1:Nat)),(15,iv ((trun sh sh.length).se i)),(16,iv q),(17,iv k)]) _
 dsimp only at hk0 hpi
 refine jM ?_
 by_cases hs2:(k:Int)<(i:Int)
 refine Za (oW (oW (ol (dT hs2) (jH (Zq (jC (Zo (Zl ?_))))))))
 by_cases hs3:sh[k]=2
 by_cases hs4:((k+1:Nat):Int)=(i:Int)
 refine Za (oS (Zb sh) (oS (iv k) (oC (xS (k*1) 76 77 U24) I0 I0 (oL (iv sh[k]) (Zw sh (by omega)) (oe (dT hs3) (oS bT (oS (iv k) (oV ((k+1:Nat):Int) (oW (oe (dT hs4) (oS bT (qK (qK (qK (qK (qK (qK (oW (oS bT (jH (Za ?_)))))))))))))))))))))
 refine oF (iv k) (Yh (Zv (Zf (Za (oS (iv k) (oV ((k+1:Nat):Int) (oS (iv (k+1:Nat)) (kN 99 [] (XEr1_h1 sh i k) (Zf ?_)))))))))
 refine Zs ⟨(k+1,(k:Int)),by dsimp only;omega,(En.par_here hs (by omega) hs3 (.inl hs4))⟩ (show i-(k+1)<i-k by omega) ?_
 show Wk _ _ (ofL []) (ofT 99 (XEr1_h2 sh i k))
 exact Zp [] _
 by_cases hs5:((trun sh sh.length).se k)=(i:Int)
 refine Za (oS (Zb sh) (oS (iv k) (oC (xS (k*1) 76 77 U24) I0 I0 (oL (iv sh[k]) (Zw sh (by omega)) (oe (dT hs3) (oS bT (oS (iv k) (oV ((k+1:Nat):Int) (oW (oe (dF hs4) (oS bF (oW (oS (iv k) (oV ((k+1:Nat):Int) (oK (Zec hs lsh (by omega) hs3) [Zb sh,iv (k+1:Nat)] rfl rfl (oW (oe (dT hs5) (oW (oS bT (jH (Za ?_)))))))))))))))))))))
 refine oF (iv k) (Yh (Zv (Zf (Za (oS (iv k) (oV ((k+1:Nat):Int) (oS (iv (k+1:Nat)) (kN 99 [] (XEr1_h1 sh i k) (Zf ?_)))))))))
 refine Zs ⟨(k+1,(k:Int)),by dsimp only;omega,(En.par_here hs (by omega) hs3 (.inr hs5))⟩ (show i-(k+1)<i-k by omega) ?_
 show Wk _ _ (ofL []) (ofT 99 (XEr1_h2 sh i k))
 exact Zp [] _
 refine Za (oS (Zb sh) (oS (iv k) (oC (xS (k*1) 76 77 U24) I0 I0 (oL (iv sh[k]) (Zw sh (by omega)) (oe (dT hs3) (oS bT (oS (iv k) (oV ((k+1:Nat):Int) (oW (oe (dF hs4) (oS bF (oW (oS (iv k) (oV ((k+1:Nat):Int) (oK (Zec hs lsh (by omega) hs3) [Zb sh,iv (k+1:Nat)] rfl rfl (oW (oe (dF hs5) (oW (oS bF (jI (Zq ?_)))))))))))))))))))))
 refine Zv (Zf (Za (oS (iv k) (oV ((k+1:Nat):Int) (oS (iv (k+1:Nat)) (kN 99 [] [(1,Zb sh),(3,iv i),(8,iv 0),(9,iv 0),(10,iv 0),(14,iv (i+1:Nat)),(15,iv ((trun sh sh.length).se i)),(16,iv q),(17,iv (k+1:Nat)),(73,bT),(94,bF)] (Zf ?_)))))))
 refine Zs ⟨(k+1,q),by dsimp only;omega,(En.par_skip hs (by omega) hpi (.inr ⟨hs3,hs4,hs5⟩))⟩ (show i-(k+1)<i-k by omega) ?_
 show Wk _ _ (ofL []) (ofT 99 [(1,Zb sh),(3,iv i),(8,iv 0),(9,iv 0),(10,iv 0),(14,iv (i+1:Nat)),(15,iv ((trun sh sh.length).se i)),(16,iv q),(17,iv ((k+1):Nat))])
 exact Zp [] _
 refine Za (oS (Zb sh) (oS (iv k) (oC (xS (k*1) 76 77 U24) I0 I0 (oL (iv sh[k]) (Zw sh (by omega)) (oe (dF hs3) (oS bF (qK (qK (qK (qK (qK (qK (qK (qK (qK (qK (qK (qK (oS bF (jI (Zq ?_)))))))))))))))))))))
 refine Zv (Zf (Za (oS (iv k) (oV ((k+1:Nat):Int) (oS (iv (k+1:Nat)) (kN 99 [] [(1,Zb sh),(3,iv i),(8,iv 0),(9,iv 0),(10,iv 0),(14,iv (i+1:Nat)),(15,iv ((trun sh sh.length).se i)),(16,iv q),(17,iv (k+1:Nat)),(73,bT),(94,bF)] (Zf ?_)))))))
 refine Zs ⟨(k+1,q),by dsimp only;omega,(En.par_skip hs (by omega) hpi (.inl hs3))⟩ (show i-(k+1)<i-k by omega) ?_
 show Wk _ _ (ofL []) (ofT 99 [(1,Zb sh),(3,iv i),(8,iv 0),(9,iv 0),(10,iv 0),(14,iv (i+1:Nat)),(15,iv ((trun sh sh.length).se i)),(16,iv q),(17,iv ((k+1):Nat))])
 exact Zp [] _
 refine Za (oW (oW (ol (dF hs2) (jI (jO (jC (Za (oW (oW (oW (oS (iv (i+1:Nat)) (oS (iv ((trun sh sh.length).se i)) (oS (iv q) (jE ?_))))))))))))))
 refine Wq Tryz.results43 (.tmp rfl) (.tmp rfl) (.tmp rfl) ?_
 rw [(Jd.t_2 hs hi hs1).1,(Jd.t_2 hs hi hs1).2,← En.par_end hs hi (by omega) hk0 hpi]
 exact rfl
 refine Za (oS (Zb sh) (oS (iv i) (oC (xS (i*1) 60 61 U24) I0 I0 (oL (iv sh[i]) (Zw sh (by omega)) (oe (dF hs1) (jF (jM (Za (oS (iv 0) (kN 99 [] [(1,Zb sh),(3,iv i),(8,iv 0),(9,iv 0),(10,iv 0),(14,iv (-1)),(15,iv (-1)),(16,iv (-1)),(17,iv 0)] (Zf (Zo ?_))))))))))))
 refine ZL (σ:={s:Nat × Int // s.1≤i∧En.parI sh i s.1 s.2}) (fun s=>(ofL [],ofT 99 [(1,Zb sh),(3,iv i),(8,iv 0),(9,iv 0),(10,iv 0),(14,iv (-1)),(15,iv (-1)),(16,iv s.1.2),(17,iv s.1.1)])) (fun s=>i-s.1.1) ⟨(0,-1),Nat.zero_le _,En.par_zero⟩ (Zp [] _) (fun s => ?_)
 obtain ⟨⟨k,q⟩,hk0,hpi⟩:=s
 show ETri J w0 (ofL []) (ofT 99 [(1,Zb sh),(3,iv i),(8,iv 0),(9,iv 0),(10,iv 0),(14,iv (-1)),(15,iv (-1)),(16,iv q),(17,iv k)]) _
 dsimp only at hk0 hpi
 refine jM ?_
 by_cases hs6:(k:Int)<(i:Int)
 refine Za (oW (oW (ol (dT hs6) (jH (Zq (jC (Zo (Zl ?_))))))))
 by_cases hs7:sh[k]=2
 by_cases hs8:((k+1:Nat):Int)=(i:Int)
 refine Za (oS (Zb sh) (oS (iv k) (oC (xS (k*1) 76 77 U24) I0 I0 (oL (iv sh[k]) (Zw sh (by omega)) (oe (dT hs7) (oS bT (oS (iv k) (oV ((k+1:Nat):Int) (oW (oe (dT hs8) (oS bT (qK (qK (qK (qK (qK (qK (oW (oS bT (jH (Za ?_)))))))))))))))))))))
 refine oF (iv k) (Yh (Zv (Zf (Za (oS (iv k) (oV ((k+1:Nat):Int) (oS (iv (k+1:Nat)) (kN 99 [] (XEr1_h3 sh i k) (Zf ?_)))))))))
 refine Zs ⟨(k+1,(k:Int)),by dsimp only;omega,(En.par_here hs (by omega) hs7 (.inl hs8))⟩ (show i-(k+1)<i-k by omega) ?_
 show Wk _ _ (ofL []) (ofT 99 (XEr1_h4 sh i k))
 exact Zp [] _
 by_cases hs9:((trun sh sh.length).se k)=(i:Int)
 refine Za (oS (Zb sh) (oS (iv k) (oC (xS (k*1) 76 77 U24) I0 I0 (oL (iv sh[k]) (Zw sh (by omega)) (oe (dT hs7) (oS bT (oS (iv k) (oV ((k+1:Nat):Int) (oW (oe (dF hs8) (oS bF (oW (oS (iv k) (oV ((k+1:Nat):Int) (oK (Zec hs lsh (by omega) hs7) [Zb sh,iv (k+1:Nat)] rfl rfl (oW (oe (dT hs9) (oW (oS bT (jH (Za ?_)))))))))))))))))))))
 refine oF (iv k) (Yh (Zv (Zf (Za (oS (iv k) (oV ((k+1:Nat):Int) (oS (iv (k+1:Nat)) (kN 99 [] (XEr1_h3 sh i k) (Zf ?_)))))))))
 refine Zs ⟨(k+1,(k:Int)),by dsimp only;omega,(En.par_here hs (by omega) hs7 (.inr hs9))⟩ (show i-(k+1)<i-k by omega) ?_
 show Wk _ _ (ofL []) (ofT 99 (XEr1_h4 sh i k))
 exact Zp [] _
 refine Za (oS (Zb sh) (oS (iv k) (oC (xS (k*1) 76 77 U24) I0 I0 (oL (iv sh[k]) (Zw sh (by omega)) (oe (dT hs7) (oS bT (oS (iv k) (oV ((k+1:Nat):Int) (oW (oe (dF hs8) (oS bF (oW (oS (iv k) (oV ((k+1:Nat):Int) (oK (Zec hs lsh (by omega) hs7) [Zb sh,iv (k+1:Nat)] rfl rfl (oW (oe (dF hs9) (oW (oS bF (jI (Zq ?_)))))))))))))))))))))
 refine Zv (Zf (Za (oS (iv k) (oV ((k+1:Nat):Int) (oS (iv (k+1:Nat)) (kN 99 [] [(1,Zb sh),(3,iv i),(8,iv 0),(9,iv 0),(10,iv 0),(14,iv (-1)),(15,iv (-1)),(16,iv q),(17,iv (k+1:Nat)),(73,bT),(94,bF)] (Zf ?_)))))))
 refine Zs ⟨(k+1,q),by dsimp only;omega,(En.par_skip hs (by omega) hpi (.inr ⟨hs7,hs8,hs9⟩))⟩ (show i-(k+1)<i-k by omega) ?_
 show Wk _ _ (ofL []) (ofT 99 [(1,Zb sh),(3,iv i),(8,iv 0),(9,iv 0),(10,iv 0),(14,iv (-1)),(15,iv (-1)),(16,iv q),(17,iv ((k+1):Nat))])
 exact Zp [] _
 refine Za (oS (Zb sh) (oS (iv k) (oC (xS (k*1) 76 77 U24) I0 I0 (oL (iv sh[k]) (Zw sh (by omega)) (oe (dF hs7) (oS bF (qK (qK (qK (qK (qK (qK (qK (qK (qK (qK (qK (qK (oS bF (jI (Zq ?_)))))))))))))))))))))
 refine Zv (Zf (Za (oS (iv k) (oV ((k+1:Nat):Int) (oS (iv (k+1:Nat)) (kN 99 [] [(1,Zb sh),(3,iv i),(8,iv 0),(9,iv 0),(10,iv 0),(14,iv (-1)),(15,iv (-1)),(16,iv q),(17,iv (k+1:Nat)),(73,bT),(94,bF)] (Zf ?_)))))))
 refine Zs ⟨(k+1,q),by dsimp only;omega,(En.par_skip hs (by omega) hpi (.inl hs7))⟩ (show i-(k+1)<i-k by omega) ?_
 show Wk _ _ (ofL []) (ofT 99 [(1,Zb sh),(3,iv i),(8,iv 0),(9,iv 0),(10,iv 0),(14,iv (-1)),(15,iv (-1)),(16,iv q),(17,iv ((k+1):Nat))])
 exact Zp [] _
 refine Za (oW (oW (ol (dF hs6) (jI (jO (jC (Za (oW (oW (oW (oS (iv (-1)) (oS (iv (-1)) (oS (iv q) (jE ?_))))))))))))))
 refine Wq Tryz.results43 (.tmp rfl) (.tmp rfl) (.tmp rfl) ?_
 rw [(Jd.t_0 hs hi hs1).1,(Jd.t_0 hs hi hs1).2,← En.par_end hs hi (by omega) hk0 hpi]
 exact rfl
theorem nbClq_c {n i:Nat} (hi:i<n) (hn:n≤100) :Ctr Tryz.prog J 43 [iv 1,Zb sh,iv n,iv i] (.tup [iv (-1),iv (-1),iv (-1)]):=by
 refine Zm Tryz.func43 rfl (pN (.v _) (pN (ZK _) (pN (.v _) (pN (.v _) pZ)))) (n:=99) rfl (by simp) (fun w0 => ?_)
 refine kW 99 [] [(0,iv 1),(1,Zb sh),(2,iv n),(3,iv i)] (jB (oS (iv 0) (oS (iv 0) (oS (iv 0) (jD (jB (oW (oS (iv n) (oU ((n:Int)-1) (oK (Zr Kv (Jd.in_w hi)) [iv i,iv 0,iv ((n:Int)-1)] rfl rfl (oS bF (jF (jM (Za ?_))))))))))))))
 refine oS (iv 1) (oC (ZM (r:=false) rfl (by decide)) I0 I0 (jF (jM (Za (oS (iv 1) (oC (ZM (r:=false) rfl (by decide)) I0 I0 (jF (jM (Za (oS (iv 1) (oC (YJ (r:=true) rfl (by decide)) I0 I0 (oS bT (qK ?_)))))))))))))
 refine qK (qK (qK (oF bT (qK (qK (qK (oS bT (jG (oS (iv (-1)) (oS (iv (-1)) (oS (iv (-1)) (jE (Zc ?_)))))))))))))
 refine Wq Tryz.results43 (.tmp rfl) (.tmp rfl) (.tmp rfl) ?_
 exact rfl
theorem nbP_c (HC:Rd.CgOk c) (hc:En.CfV p n f c) (hv:valE p=0) (hi:i<c.st.length):Ctr Tryz.prog J 43 [iv p.top,Zb c.sh,iv (c.st.length:Int),iv (i:Int)] (.tup [iv (En.nF p.top c.sh c.st.length i),iv (En.nS p.top c.sh c.st.length i),iv (En.nP p.top c.sh c.st.length i)]):=by
 have ht:=Jd.top_in hv
 by_cases h1:p.top=1
 ·rw [h1]
  exact nbClq_c hi HC.lst
 unfold En.nF En.nS En.nP
 rw [if_neg h1,if_neg h1,if_neg h1]
 by_cases h4:p.top=4
 ·have hs:=En.sh_tree hc h4
  unfold isShp at hs
  simp only [Bool.and_eq_true,decide_eq_true_eq] at hs
  have hl:c.sh.length=c.st.length:=by omega
  rw [h4,← hl]
  exact nbTreeP_c HC.sh hs.2 HC.lsh (by omega)
 rw [En.lkP_row h4]
 obtain h | h:p.top=2∨p.top=3:=by omega
 ·rw [h];exact nbLine_c hi HC.lst
 rw [h];exact nbRing_c hi HC.lst
end Go.Proofs.YtdbehgbggaaipaaGreat
