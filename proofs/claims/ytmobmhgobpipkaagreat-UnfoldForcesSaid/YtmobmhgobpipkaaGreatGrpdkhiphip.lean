import Derived.Test.YtmobmhgobpipkaaGreatGrpjinafgfm
import Derived.Test.YtmobmhgobpipkaaGreatGrpngaglejp
import Derived.Test.YtmobmhgobpipkaaGreatGrpmeogbljb
import Derived.Test.YtmobmhgobpipkaaGreatGrpibegefhb
set_option linter.all false
namespace Go.Proofs.YtmobmhgobpipkaaGreat
open Go.RowKit Go.Deep
set_option maxRecDepth 100000
set_option maxHeartbeats 6400000
variable {J:World→Prop}
theorem En.read_t {p:Fm} {n t f:Int} {c:Cf} (HC:Rd.CgOk c) (hx:Rd.rdX p n f c=true):Ctr Tryz.prog J 47 [.el (Ns.sysC p n t f) 0,.agg (Rd.cCg c)] (.tup [.agg (En.cfV (Rd.shI p.top (Ns.shT p.top (Ns.cntE p n f)) c.sh) c),bT]):=by
  have h:=read_c (J:=J) (p:=p) (n:=n) (t:=t) (f:=f) HC
  rw [show Rd.rdY p n f c=true from hx,hx] at h
  exact h
theorem pu_part {F ok:Nat→Prop} {w:World} {cs ds:List AV} {o:Nat} {v:Value} (hl:cs.length=ds.length) (h:∀ (j:Nat) (h1:j<cs.length) (h2:j<ds.length),ds[j]=cs[j]∨ds[j] = .any) (hp:Pu F w ok (.el cs o) v):Pu F w ok (.el ds o) v:=by
  cases hp with
  | el hb hw hf hh =>
    refine .el hb hw (fun j hj=>hf j (by omega)) fun j hj => ?_
    rcases h j (by omega) hj with e | e
    · rw [e];exact hh j (by omega)
    rw [e];exact .any _
theorem En.sys_part {p:Fm} {n t f:Int}:(En.sysP p n t f).length=(Ns.sysC p n t f).length∧∀ (j:Nat) (h1:j<(En.sysP p n t f).length) (h2:j<(Ns.sysC p n t f).length),(Ns.sysC p n t f)[j]=(En.sysP p n t f)[j]∨(Ns.sysC p n t f)[j] = .any:=by
  refine ⟨by unfold En.sysP;rw [En.sysB_len];rfl,fun j h1 h2 => ?_⟩
  have h3:j<33:=h2
  obtain rfl | rfl | rfl | rfl | rfl | rfl | rfl | rfl | rfl | rfl | rfl | rfl | rfl | rfl | rfl | rfl | rfl | rfl | rfl | rfl | rfl | rfl | rfl | rfl | rfl | rfl | rfl | rfl | rfl | rfl | rfl | rfl | rfl:j=0∨j=1∨j=2∨j=3∨j=4∨j=5∨j=6∨j=7∨j=8∨j=9∨j=10∨j=11∨j=12∨j=13∨j=14∨j=15∨j=16∨j=17∨j=18∨j=19∨j=20∨j=21∨j=22∨j=23∨j=24∨j=25∨j=26∨j=27∨j=28∨j=29∨j=30∨j=31∨j=32:=by omega
  · exact .inl (by kernel_rfl)
  · exact .inl (by kernel_rfl)
  · exact .inl (by kernel_rfl)
  · exact .inl (by kernel_rfl)
  · exact .inl (by kernel_rfl)
  · exact .inl (by kernel_rfl)
  · exact .inl (by kernel_rfl)
  · exact .inl (by kernel_rfl)
  · exact .inl (by kernel_rfl)
  · exact .inl (by kernel_rfl)
  · exact .inl (by kernel_rfl)
  · exact .inl (by kernel_rfl)
  · exact .inl (by kernel_rfl)
  · exact .inl (by kernel_rfl)
  · exact .inl (by kernel_rfl)
  · exact .inr rfl
  · exact .inr rfl
  · exact .inr rfl
  · exact .inr rfl
  · exact .inr rfl
  · exact .inr rfl
  · exact .inr rfl
  · exact .inr rfl
  · exact .inr rfl
  · exact .inr rfl
  · exact .inr rfl
  · exact .inr rfl
  · exact .inr rfl
  · exact .inr rfl
  · exact .inr rfl
  · exact .inr rfl
  · exact .inl (by kernel_rfl)
  exact .inr rfl
theorem En.read_p {p:Fm} {n t f:Int} {c:Cf} (HC:Rd.CgOk c) (hx:Rd.rdX p n f c=true):Ctr Tryz.prog J 47 [.el (En.sysP p n t f) 0,.agg (Rd.cCg c)] (.tup [.agg (En.cfV (Rd.shI p.top (Ns.shT p.top (Ns.cntE p n f)) c.sh) c),bT]):=by
  intro w vs hJ hl hv
  refine En.read_t (J:=J) (p:=p) (n:=n) (t:=t) (f:=f) HC hx w vs hJ hl fun j hj => ?_
  match j,hj with
  | 0,_=>exact pu_part En.sys_part.1 En.sys_part.2 (hv 0 (by simp))
  | 1,_=>exact hv 1 (by simp)
theorem En.read_q {p:Fm} {n t f:Int} {c:Cf} (HC:Rd.CgOk c) (hx:Rd.rdX p n f c=false):Ctr Tryz.prog J 47 [.el (En.sysP p n t f) 0,.agg (Rd.cCg c)] (.tup [.agg (Rd.cfZ false (Rd.shI p.top (Ns.shT p.top (Ns.cntE p n f)) c.sh) c),bF]):=by
  intro w vs hJ hl hv
  have h:=read_c (J:=J) (p:=p) (n:=n) (t:=t) (f:=f) HC w vs hJ hl fun j hj => ?_
  · rw [show Rd.rdY p n f c=false from hx,hx] at h
    exact h
  match j,hj with
  | 0,_=>exact pu_part En.sys_part.1 En.sys_part.2 (hv 0 (by simp))
  | 1,_=>exact hv 1 (by simp)
theorem open_V {p:Fm} (HP:FmOk p) {n t f:Int} {c:Cf} (HC:Rd.CgOk c) (hs:Ns.sysE p n t f=0) (hx:Rd.rdX p n f c=true):CtrA Tryz.prog J 26 [.agg (cFm p),.agg (cSz n t f),.agg (Rd.cCg c)] (.tup [.el (En.sysP p n t f) 0,.agg (En.cfV (Rd.shI p.top (Ns.shT p.top (Ns.cntE p n f)) c.sh) c),iv 0]):=by
 refine ctrA_of_tri Tryz.func26 rfl (by intro X hX;simp only [List.mem_cons,List.not_mem_nil,or_false] at hX;rcases hX with rfl | rfl | rfl;exact Zq (Z9 p);exact Zq (Yi n t f);exact Zq (Rd.plain_cg c)) (n:=34) rfl (by simp) (fun w0 => ?_)
 refine kW 34 [] [(0,.agg (cFm p)),(1,.agg (cSz n t f)),(2,.agg (Rd.cCg c))] (Zb (Za (ZM rfl (ZT (X := .agg (cFm p)) (k:=1) (.tmp 0) rfl rfl) ⟨I0,T0⟩ T0 rfl (ZM rfl (ZT (X := .agg (cSz n t f)) (k:=2) (.tmp 1) rfl rfl) ⟨I0,T0⟩ T0 rfl (ZM rfl (ZT (X := .agg (Rd.cCg c)) (k:=3) (.tmp 2) rfl rfl) ⟨I0,T0⟩ T0 rfl (pM (Yw (.const (.pointer none)) (.v (.pointer none)) rfl) (ZM rfl (Yl (z := .agg #[.int .i64 0,.int .i64 0,.int .i64 0,.int .i64 0,.int .i64 0,.int .i64 0,.int .i64 0,.int .i64 0,.int .i64 0,.int .i64 0,.int .i64 0,.int .i64 0,.int .i64 0,.int .i64 0,.int .i64 0,.int .i64 0]) (k:=4) rfl (by kernel_rfl)) T0 T0 rfl (pM (aC (.int .i64 0)) (Zd (Zc (Zb (Za (oB (lS (cFm p) 10 3 U27) I0 rfl (oB (lS (cSz n t f) 3 4 U29) I0 rfl (oD (sp_callA (c := .func 46) (xs := #[.tmp 14,.tmp 15]) (newSystem_P HP hs) rfl (by kernel_rfl) rfl (Xs:=[.agg (cFm p),.agg (cSz n t f)]) rfl rfl) I0 I0 I0 (pM (mT 16 (.tup [.el (En.sysP p n t f) 0,iv 0])) (oA (ZQ (X := .el (En.sysP p n t f) 0) (.tmp 13) rfl rfl) I0 (oA (ZQ (X:=iv 0) (.tmp 13) rfl rfl) I0 (pM (aT 17 (.el (En.sysP p n t f) 0)) (pM (aT 18 (iv 0)) (Zd (Zc (Zb ?_)))))))))))))))))))))))
 refine Zb (Za (pM (mT 10 (iv 0)) (oC (Zv (r:=false) rfl (by decide)) I0 I0 (Zd (Zc (Zn rfl (Zi (Zc (Zb (Za (pM (mT 9 (.el (En.sysP p n t f) 0)) (oB (lS (Rd.cCg c) 6 5 U31) I0 rfl (oD (sc #[.tmp 24,.tmp 25] [] (En.read_p HC hx) [.el (En.sysP p n t f) 0,.agg (Rd.cCg c)] rfl rfl rfl) I0 I0 I0 (pM (mT 26 (.tup [.fr (.agg (En.cfV (Rd.shI p.top (Ns.shT p.top (Ns.cntE p n f)) c.sh) c)),bT])) (oA (ZQ (X := .fr (.agg (En.cfV (Rd.shI p.top (Ns.shT p.top (Ns.cntE p n f)) c.sh) c))) (.tmp 23) rfl rfl) I0 (oA (ZQ (X:=bT) (.tmp 23) rfl rfl) I0 (ZM rfl (Yl (z := .agg #[.int .i64 0,.int .i64 0,.int .i64 0,.int .i64 0,.int .i64 0,.int .i64 0,.int .i64 0,.int .i64 0,.int .i64 0,.int .i64 0,.int .i64 0,.int .i64 0,.int .i64 0,.int .i64 0,.int .i64 0,.int .i64 0]) (k:=5) rfl (by kernel_rfl)) T0 T0 rfl (ZM rfl (sB 16 11 (.tmp 27) (.agg [iv (Rd.shI p.top (Ns.shT p.top (Ns.cntE p n f)) c.sh),iv (c.st.getD 0 0),iv (c.st.getD 1 0),iv (c.st.getD 2 0),iv (c.st.getD 3 0),iv (c.st.getD 4 0),iv (c.st.getD 5 0),iv (c.st.getD 6 0),iv (c.st.getD 7 0),iv (c.se.getD 0 0),iv (c.se.getD 1 0),iv (c.se.getD 2 0),iv (c.fa.getD 0 0),iv (c.fa.getD 1 0),iv (c.fa.getD 2 0),iv c.val])) ⟨I0,.inr (.inr (.inl ⟨_,rfl,rfl⟩)),T0⟩ ⟨rfl,T0⟩ rfl (pM (aT 28 bT) (Zd (Zc (Zb (Zb ?_)))))))))))))))))))))))
 refine Za (pM (mT 12 bT) (oA (Zr rfl rfl) I0 (Zd (Zc (Zn rfl (Zi (Zc (Zb ?_))))))))
 refine Zs (dM (mT 9 (.el (En.sysP p n t f) 0)) (dB (lS ([iv (Rd.shI p.top (Ns.shT p.top (Ns.cntE p n f)) c.sh),iv (c.st.getD 0 0),iv (c.st.getD 1 0),iv (c.st.getD 2 0),iv (c.st.getD 3 0),iv (c.st.getD 4 0),iv (c.st.getD 5 0),iv (c.st.getD 6 0),iv (c.st.getD 7 0),iv (c.se.getD 0 0),iv (c.se.getD 1 0),iv (c.se.getD 2 0),iv (c.fa.getD 0 0),iv (c.fa.getD 1 0),iv (c.fa.getD 2 0),iv c.val]) 16 11 U70) I0 rfl (dM (aT 32 (.el (En.sysP p n t f) 0)) (dR (sB 16 7 (.tmp 33) (.agg [iv (Rd.shI p.top (Ns.shT p.top (Ns.cntE p n f)) c.sh),iv (c.st.getD 0 0),iv (c.st.getD 1 0),iv (c.st.getD 2 0),iv (c.st.getD 3 0),iv (c.st.getD 4 0),iv (c.st.getD 5 0),iv (c.st.getD 6 0),iv (c.st.getD 7 0),iv (c.se.getD 0 0),iv (c.se.getD 1 0),iv (c.se.getD 2 0),iv (c.fa.getD 0 0),iv (c.fa.getD 1 0),iv (c.fa.getD 2 0),iv c.val])) ⟨I0,I0,T0⟩ ⟨rfl,T0⟩ rfl (dM (aC (.int .i64 0)) (dE ?_)))))) (by kernel_rfl)
 show ETri J w0 _ _ _
 refine Zc (Zl ?_)
 refine tri_endA3 [(4,.box 70 [iv (Rd.shI p.top (Ns.shT p.top (Ns.cntE p n f)) c.sh),iv (c.st.getD 0 0),iv (c.st.getD 1 0),iv (c.st.getD 2 0),iv (c.st.getD 3 0),iv (c.st.getD 4 0),iv (c.st.getD 5 0),iv (c.st.getD 6 0),iv (c.st.getD 7 0),iv (c.se.getD 0 0),iv (c.se.getD 1 0),iv (c.se.getD 2 0),iv (c.fa.getD 0 0),iv (c.fa.getD 1 0),iv (c.fa.getD 2 0),iv c.val])] Tryz.results26 (.tmp rfl) (.cellS rfl rfl U70 rfl (z:=16) (by kernel_rfl) rfl (by decide)) (.tmp rfl) (by kernel_rfl) rfl rfl rfl rfl ?_ ?_ ?_ ?_
 · exact (show Plain (.el (En.sysP p n t f) 0) from .el (Ya (En.plain_sysP p n t f)))
 · exact Zq (En.plain_cfV _ c)
 · exact .v _
 kernel_rfl
theorem open_bad {p:Fm} (HP:FmOk p) {n t f:Int} {c:Cf} (HC:Rd.CgOk c) (hs:Ns.sysE p n t f=0) (hx:Rd.rdX p n f c=false):Ctr Tryz.prog J 26 [.agg (cFm p),.agg (cSz n t f),.agg (Rd.cCg c)] (.tup [.any,.agg (Rd.cfZ false (Rd.shI p.top (Ns.shT p.top (Ns.cntE p n f)) c.sh) c),iv 1]):=by
 refine Zw Tryz.func26 rfl (by intro X hX;simp only [List.mem_cons,List.not_mem_nil,or_false] at hX;rcases hX with rfl | rfl | rfl;exact Zq (Z9 p);exact Zq (Yi n t f);exact Zq (Rd.plain_cg c)) (n:=34) rfl (by simp) (fun w0 => ?_)
 refine kW 34 [] [(0,.agg (cFm p)),(1,.agg (cSz n t f)),(2,.agg (Rd.cCg c))] (Zb (Za (ZM rfl (ZT (X := .agg (cFm p)) (k:=1) (.tmp 0) rfl rfl) ⟨I0,T0⟩ T0 rfl (ZM rfl (ZT (X := .agg (cSz n t f)) (k:=2) (.tmp 1) rfl rfl) ⟨I0,T0⟩ T0 rfl (ZM rfl (ZT (X := .agg (Rd.cCg c)) (k:=3) (.tmp 2) rfl rfl) ⟨I0,T0⟩ T0 rfl (pM (Yw (.const (.pointer none)) (.v (.pointer none)) rfl) (ZM rfl (Yl (z := .agg #[.int .i64 0,.int .i64 0,.int .i64 0,.int .i64 0,.int .i64 0,.int .i64 0,.int .i64 0,.int .i64 0,.int .i64 0,.int .i64 0,.int .i64 0,.int .i64 0,.int .i64 0,.int .i64 0,.int .i64 0,.int .i64 0]) (k:=4) rfl (by kernel_rfl)) T0 T0 rfl (pM (aC (.int .i64 0)) (Zd (Zc (Zb (Za (oB (lS (cFm p) 10 3 U27) I0 rfl (oB (lS (cSz n t f) 3 4 U29) I0 rfl (oD (sp_callA (c := .func 46) (xs := #[.tmp 14,.tmp 15]) (newSystem_P HP hs) rfl (by kernel_rfl) rfl (Xs:=[.agg (cFm p),.agg (cSz n t f)]) rfl rfl) I0 I0 I0 (pM (mT 16 (.tup [.el (En.sysP p n t f) 0,iv 0])) (oA (ZQ (X := .el (En.sysP p n t f) 0) (.tmp 13) rfl rfl) I0 (oA (ZQ (X:=iv 0) (.tmp 13) rfl rfl) I0 (pM (aT 17 (.el (En.sysP p n t f) 0)) (pM (aT 18 (iv 0)) (Zd (Zc (Zb ?_)))))))))))))))))))))))
 refine Zb (Za (pM (mT 10 (iv 0)) (oC (Zv (r:=false) rfl (by decide)) I0 I0 (Zd (Zc (Zn rfl (Zi (Zc (Zb (Za (pM (mT 9 (.el (En.sysP p n t f) 0)) (oB (lS (Rd.cCg c) 6 5 U31) I0 rfl (oD (sc #[.tmp 24,.tmp 25] [] (En.read_q HC hx) [.el (En.sysP p n t f) 0,.agg (Rd.cCg c)] rfl rfl rfl) I0 I0 I0 (pM (mT 26 (.tup [.fr (.agg (Rd.cfZ false (Rd.shI p.top (Ns.shT p.top (Ns.cntE p n f)) c.sh) c)),bF])) (oA (ZQ (X := .fr (.agg (Rd.cfZ false (Rd.shI p.top (Ns.shT p.top (Ns.cntE p n f)) c.sh) c))) (.tmp 23) rfl rfl) I0 (oA (ZQ (X:=bF) (.tmp 23) rfl rfl) I0 (ZM rfl (Yl (z := .agg #[.int .i64 0,.int .i64 0,.int .i64 0,.int .i64 0,.int .i64 0,.int .i64 0,.int .i64 0,.int .i64 0,.int .i64 0,.int .i64 0,.int .i64 0,.int .i64 0,.int .i64 0,.int .i64 0,.int .i64 0,.int .i64 0]) (k:=5) rfl (by kernel_rfl)) T0 T0 rfl (ZM rfl (sB 16 11 (.tmp 27) (.agg [iv (Rd.zz false (Rd.shI p.top (Ns.shT p.top (Ns.cntE p n f)) c.sh)),iv (Rd.zz false (c.st.getD 0 0)),iv (Rd.zz false (c.st.getD 1 0)),iv (Rd.zz false (c.st.getD 2 0)),iv (Rd.zz false (c.st.getD 3 0)),iv (Rd.zz false (c.st.getD 4 0)),iv (Rd.zz false (c.st.getD 5 0)),iv (Rd.zz false (c.st.getD 6 0)),iv (Rd.zz false (c.st.getD 7 0)),iv (Rd.zz false (c.se.getD 0 0)),iv (Rd.zz false (c.se.getD 1 0)),iv (Rd.zz false (c.se.getD 2 0)),iv (Rd.zz false (c.fa.getD 0 0)),iv (Rd.zz false (c.fa.getD 1 0)),iv (Rd.zz false (c.fa.getD 2 0)),iv (Rd.zz false c.val)])) ⟨I0,.inr (.inr (.inl ⟨_,rfl,rfl⟩)),T0⟩ ⟨rfl,T0⟩ rfl (pM (aT 28 bF) (Zd (Zc (Zb (Zb ?_)))))))))))))))))))))))
 refine Za (pM (mT 12 bF) (oA (Zr rfl rfl) I0 (Zd (Zc (Zm rfl (Zb (Za (ZM rfl (Kh [] #[.int .i64 0,.int .i64 0,.int .i64 0,.int .i64 0,.int .i64 0,.int .i64 0,.int .i64 0,.int .i64 0,.int .i64 0,.int .i64 0,.int .i64 0,.int .i64 0,.int .i64 0,.int .i64 0,.int .i64 0,.int .i64 0] rfl rfl (by kernel_rfl) rfl) T0 T0 T0 (pM (Yw (.const (.pointer none)) (.v (.pointer none)) rfl) (ZM rfl (sB 16 7 (.tmp 31) (.agg [iv 0,iv 0,iv 0,iv 0,iv 0,iv 0,iv 0,iv 0,iv 0,iv 0,iv 0,iv 0,iv 0,iv 0,iv 0,iv 0])) ⟨I0,I0,T0⟩ ⟨rfl,T0⟩ rfl (pM (aC (.int .i64 1)) (Zd (Zc (Zl (Zf (kW 34 [(4,.box 70 [iv 0,iv 0,iv 0,iv 0,iv 0,iv 0,iv 0,iv 0,iv 0,iv 0,iv 0,iv 0,iv 0,iv 0,iv 0,iv 0]),(5,.box 70 [iv (Rd.zz false (Rd.shI p.top (Ns.shT p.top (Ns.cntE p n f)) c.sh)),iv (Rd.zz false (c.st.getD 0 0)),iv (Rd.zz false (c.st.getD 1 0)),iv (Rd.zz false (c.st.getD 2 0)),iv (Rd.zz false (c.st.getD 3 0)),iv (Rd.zz false (c.st.getD 4 0)),iv (Rd.zz false (c.st.getD 5 0)),iv (Rd.zz false (c.st.getD 6 0)),iv (Rd.zz false (c.st.getD 7 0)),iv (Rd.zz false (c.se.getD 0 0)),iv (Rd.zz false (c.se.getD 1 0)),iv (Rd.zz false (c.se.getD 2 0)),iv (Rd.zz false (c.fa.getD 0 0)),iv (Rd.zz false (c.fa.getD 1 0)),iv (Rd.zz false (c.fa.getD 2 0)),iv (Rd.zz false c.val)])] [(7,.box 4 0),(8,iv 1),(9,.el (En.sysP p n t f) 0),(11,.box 5 0)] ?_))))))))))))))))
 refine Kt Tryz.results26 (.tmp rfl) (.cellS rfl rfl U70 rfl (z:=16) (by kernel_rfl) rfl (by decide)) (.tmp rfl) ?_
 exact rfl
theorem open_no {p:Fm} (HP:FmOk p) {n t f:Int} {c:Cf} (HC:Rd.CgOk c) (hz:¬ Rd.vcE p n t f c=0):Ctr Tryz.prog J 26 [.agg (cFm p),.agg (cSz n t f),.agg (Rd.cCg c)] (.tup [.any,.agg (Rd.cfZ false (Rd.shI p.top (Ns.shT p.top (Ns.cntE p n f)) c.sh) c),iv (Rd.vcE p n t f c)]):=by
  by_cases hs:Ns.sysE p n t f=0
  · have hx:Rd.rdX p n f c=false:=by
      cases e:Rd.rdX p n f c with
      | false=>rfl
      | true=>exact absurd (by unfold Rd.vcE;rw [if_pos hs,if_pos e]) hz
    have e:Rd.vcE p n t f c=1:=by unfold Rd.vcE;rw [if_pos hs,hx];rfl
    rw [e]
    exact open_bad HP HC hs hx
  have h:=open_err (J:=J) HP HC hs
  rw [show Rd.rdW p n t f c=false by unfold Rd.rdW;rw [decide_eq_false hs];rfl] at h
  exact h
theorem isProc_c {p:Fm} {n t f:Int} {m:Nat} (hn:(Ns.cntE p n f)=((m:Nat):Int)) {x:Int}:Ctr Tryz.prog J 48 [.el (En.sysP p n t f) 0,iv x] (bv (En.isP m x)):=by
 refine Zw Tryz.func48 rfl (by intro X hX;simp only [List.mem_cons,List.not_mem_nil,or_false] at hX;rcases hX with rfl | rfl;exact (show Plain (.el (En.sysP p n t f) 0) from .el (Ya (En.plain_sysP p n t f)));exact .v _) (n:=15) rfl (by simp) (fun w0 => ?_)
 refine kW 15 [] [(0,.el (En.sysP p n t f) 0),(1,iv x)] (Zb (Za (pM (aC (.bool false)) (Zd (Zc (Zb ?_))))))
 by_cases hs1:0≤x
 refine Za (pM (mT 1 (iv x)) (oC (YI rfl (dT hs1)) I0 I0 (pM (mT 6 bT) (qM (mT 1 (iv x)) (qM (mT 0 (.el (En.sysP p n t f) 0)) (gA (Zz (off:=0) (.tmp 9) rfl) I0 (gA (fe 13 10 U105 1) I0 (gA (lE (iv (Ns.cntE p n f)) 11 U3) I0 (gC (ZW rfl rfl) I0 I0 (pP (pk true (bv (decide (x<(Ns.cntE p n f)))) bF rfl) (pM (aT 14 (bv (decide (x<(Ns.cntE p n f))))) (Zd (Zc (Zl ?_))))))))))))))
 refine Zh Tryz.results48 (.tmp rfl) ?_
 exact congrArg (fun x:Bool=>AV.v (.bool x)) ((by unfold En.isP;rw [← hn];simp only [hs1,decide_true,decide_false,Bool.and_true,Bool.true_and,Bool.false_and,Bool.and_false,Bool.true_or,Bool.false_or,Bool.or_true,Bool.or_false,Bool.not_true,Bool.not_false]))
 refine Za (pM (mT 1 (iv x)) (oC (YI rfl (dF hs1)) I0 I0 (pM (mT 6 bF) (qK (qK (qK (qK (qK (qK (pP (pk false (.v (.tuple #[])) bF rfl) (pM (aT 14 bF) (Zd (Zc (Zl ?_))))))))))))))
 refine Zh Tryz.results48 (.tmp rfl) ?_
 exact congrArg (fun x:Bool=>AV.v (.bool x)) ((by unfold En.isP;rw [← hn];simp only [hs1,decide_true,decide_false,Bool.and_true,Bool.true_and,Bool.false_and,Bool.and_false,Bool.true_or,Bool.false_or,Bool.or_true,Bool.or_false,Bool.not_true,Bool.not_false]))
theorem hasPart_c {p:Fm} {r:Nat} (hr:r<p.rules.length):Ctr Tryz.prog J 68 [.el (p.rules.flatMap cRu) (r*18)] (bv (decide (p.rules[r].kind=2)||decide (p.rules[r].kind=5))):=by
 refine Zw Tryz.func68 rfl (by intro X hX;simp only [List.mem_cons,List.not_mem_nil,or_false] at hX;rcases hX with rfl;exact (.el (Ya fun X hX=>by obtain ⟨x,_,hx⟩:=List.mem_flatMap.1 hX;exact Y5 x X hx))) (n:=15) rfl (by simp) (fun w0 => ?_)
 refine kW 15 [] [(0,.el (p.rules.flatMap cRu) (r*18))] (Zb (Za (pM (aC (.bool false)) (Zd (Zc (Zb ?_))))))
 by_cases hs1:p.rules[r].kind=2
 refine Za (pM (mT 0 (.el (p.rules.flatMap cRu) (r*18))) (oA (Zz (off:=r*18) (.tmp 3) rfl) I0 (oA (fe (r*18+1) 4 U57 1) I0 (oA (lE (iv p.rules[r].kind) 5 U3 ((ZH lenRu p.rules r 1 (by omega) (by decide)).trans rfl)) I0 (oC (Zp rfl (dT hs1)) I0 I0 (pM (mT 7 bT) (qK (qK (qK (qK (qK (pP (pk true bT (.v (.tuple #[])) rfl) (pM (aT 14 bT) (Zd (Zc (Zl ?_))))))))))))))))
 refine Zh Tryz.results68 (.tmp rfl) ?_
 exact congrArg (fun x:Bool=>AV.v (.bool x)) ((by simp only [hs1,decide_true,decide_false,Bool.and_true,Bool.true_and,Bool.false_and,Bool.and_false,Bool.true_or,Bool.false_or,Bool.or_true,Bool.or_false,Bool.not_true,Bool.not_false]))
 refine Za (pM (mT 0 (.el (p.rules.flatMap cRu) (r*18))) (oA (Zz (off:=r*18) (.tmp 3) rfl) I0 (oA (fe (r*18+1) 4 U57 1) I0 (oA (lE (iv p.rules[r].kind) 5 U3 ((ZH lenRu p.rules r 1 (by omega) (by decide)).trans rfl)) I0 (oC (Zp rfl (dF hs1)) I0 I0 (pM (mT 7 bF) (qM (mT 0 (.el (p.rules.flatMap cRu) (r*18))) (gA (Zz (off:=r*18) (.tmp 9) rfl) I0 (gA (fe (r*18+1) 10 U57 1) I0 (gA (lE (iv p.rules[r].kind) 11 U3 ((ZH lenRu p.rules r 1 (by omega) (by decide)).trans rfl)) I0 (gC (Zp rfl rfl) I0 I0 (pP (pk false bT (bv (decide (p.rules[r].kind=5))) rfl) (pM (aT 14 (bv (decide (p.rules[r].kind=5)))) (Zd (Zc (Zl ?_))))))))))))))))
 refine Zh Tryz.results68 (.tmp rfl) ?_
 exact congrArg (fun x:Bool=>AV.v (.bool x)) ((by simp only [hs1,decide_true,decide_false,Bool.and_true,Bool.true_and,Bool.false_and,Bool.and_false,Bool.true_or,Bool.false_or,Bool.or_true,Bool.or_false,Bool.not_true,Bool.not_false]))
theorem heard_c {p:Fm} {n t f:Int} {c:Cf} (hc:En.CfV p n f c) (hf:0≤f∧f≤1048576) (h3:p.msgs.length≤3) {sx:Int}:Ctr Tryz.prog J 28 [.el (En.sysP p n t f) 0,.agg (En.cfV sx c)] (.agg (En.msA (En.hdJ p f c p.msgs.length))):=by
 refine Zw Tryz.func28 rfl (by intro X hX;simp only [List.mem_cons,List.not_mem_nil,or_false] at hX;rcases hX with rfl | rfl;exact (show Plain (.el (En.sysP p n t f) 0) from .el (Ya (En.plain_sysP p n t f)));exact Zq (En.plain_cfV _ c)) (n:=49) rfl (by simp) (fun w0 => ?_)
 refine kW 49 [] [(0,.el (En.sysP p n t f) 0),(1,.agg (En.cfV sx c))] (Zb (Za (oA (Yo (X := .agg (En.cfV sx c)) (.tmp 1) rfl rfl rfl) I0 (ZM rfl (Yl (z := .agg #[.int .i64 0,.int .i64 0,.int .i64 0]) (k:=1) rfl (by kernel_rfl)) T0 T0 rfl (Zd (Zc (Zb (Za (oA (fe 9 3 U70 3) I0 (oA (ZC (z:=3) (ds:=[iv (c.se.getD 0 0),iv (c.se.getD 1 0),iv (c.se.getD 2 0)]) (.tmp 7) rfl U68 rfl (by kernel_rfl) (by kernel_rfl) rfl) I0 (ZM rfl (Yl (z := .agg #[.int .i64 0,.int .i64 0,.int .i64 0]) (k:=2) rfl (by kernel_rfl)) T0 T0 rfl (ZM rfl (sB 3 5 (.tmp 8) (.agg [iv (c.se.getD 0 0),iv (c.se.getD 1 0),iv (c.se.getD 2 0)])) ⟨I0,I0,T0⟩ ⟨rfl,T0⟩ rfl (Zd (Zc (Zb (Zb (Za (pM (mT 0 (.el (En.sysP p n t f) 0)) (oA (Zz (off:=0) (.tmp 9) rfl) I0 (oA (fe 0 10 U105 10) I0 (oA (fe 3 11 U27 1) I0 (oA (lE (ZD p.msgs) 12 U22) I0 (oA (nS 13 U22) I0 ?_)))))))))))))))))))))))
 refine pM (Kp (.const (.int .i64 0)) (iv 0) rfl) (kN 49 [(1,.box 68 [iv 0,iv 0,iv 0]),(2,.box 68 [iv (c.se.getD 0 0),iv (c.se.getD 1 0),iv (c.se.getD 2 0)])] [(0,.el (En.sysP p n t f) 0),(3,.el (En.cfV sx c) 0),(4,.box 1 0),(5,.box 2 0),(14,iv p.msgs.length),(15,iv 0)] (Zc (Zy ?_)))
 refine Yd (σ:={j:Nat // j≤p.msgs.length}) (fun s=>(ofL [(1,.box 68 [iv 0,iv 0,iv 0]),(2,.box 68 (En.msA (En.hdJ p f c s.1)))],ofT 49 [(0,.el (En.sysP p n t f) 0),(3,.el (En.cfV sx c) 0),(4,.box 1 0),(5,.box 2 0),(14,iv p.msgs.length),(15,iv s.1)])) (fun s=>p.msgs.length-s.1) ⟨0,Nat.zero_le _⟩ (Zk _ _ rfl (by kernel_rfl) (by kernel_rfl)) (fun s => ?_)
 obtain ⟨j,hj0⟩:=s
 show ETri J w0 (ofL [(1,.box 68 [iv 0,iv 0,iv 0]),(2,.box 68 (En.msA (En.hdJ p f c j)))]) (ofT 49 [(0,.el (En.sysP p n t f) 0),(3,.el (En.cfV sx c) 0),(4,.box 1 0),(5,.box 2 0),(14,iv p.msgs.length),(15,iv j)]) _
 refine Zb ?_
 by_cases hs1:((j:Nat):Int)<((p.msgs.length:Nat):Int)
 have hj1:j<3:=by omega
 have hb1:=En.hdJ_in hc hf j j
 have hb2:=hc.fa_at j
 refine Za (oC (ZW rfl (dT hs1)) I0 I0 (Zd (Zc (Zb (Zm rfl (Zi (Zc (Zb (Zy (Zb (Za (pM (mT 15 (iv j)) (pM (aT 17 (iv j)) (Zd (Zc (Zb (Za (pM (mT 0 (.el (En.sysP p n t f) 0)) (oA (Zz (off:=0) (.tmp 18) rfl) I0 (oA (fe 0 19 U105 10) I0 (oA (fe 5 20 U27 1) I0 (oA (lE (iv p.fault) 21 U3) I0 (Zd ?_)))))))))))))))))))))))
 refine Zc (Zy (Zb (Zb ?_)))
 by_cases hs2:p.fault=1
 refine Za (oC (Zp rfl (dT hs2)) I0 I0 (pM (aT 24 bT) (Zd (Zc (Zm rfl (Zi (Zc (Zm rfl ?_))))))))
 refine Zs (dM (mT 6 (iv j)) (dC (YZ (off':=0+j*1) (.tmp 5) (.tmp 26) rfl U68 (by kernel_rfl) (by omega) (by omega) rfl) I0 I0 (dB (lB (.box 68 (En.msA (En.hdJ p f c j))) (iv (En.hdJ p f c j j)) (.tmp 27) rfl U3 rfl (En.msA_get (by omega))) I0 rfl (dM (mT 6 (iv j)) (dA (fe 12 3 U70 3) I0 (dC (Yg (off':=12+j*1) (.tmp 30) (.tmp 29) rfl U68 (by kernel_rfl) (by omega) (by omega) rfl) I0 I0 (dA (lE (iv (c.fa.getD j 0)) 31 U3 (En.cfV_fa (by omega))) I0 (dC (ZZ (c:=(En.hdJ p f c j j)+(c.fa.getD j 0)) rfl (w64 (by omega) (by omega) (by omega))) I0 I0 (dC (YZ (off':=0+j*1) (.tmp 5) (.tmp 26) rfl U68 (by kernel_rfl) (by omega) (by omega) rfl) I0 I0 (dR (ZK (T0:=68) (X:=iv ((En.hdJ p f c j j)+(c.fa.getD j 0))) (off:=0+j*1) (cs:=En.msA (En.hdJ p f c j)) (ds:=En.msA (En.hdJ p f c (j+1))) (z:=1) (.tmp 34) (.tmp 33) rfl (by kernel_rfl) (by kernel_rfl) (by kernel_rfl) (by show _≤3;omega) (En.msA_step (by omega) (En.hd_12 (.inl hs2)))) ⟨I0,I0,T0⟩ ⟨rfl,T0⟩ rfl (dE ?_))))))))))) (by kernel_rfl)
 show ETri J w0 _ _ _
 refine kW 49 [(1,.box 68 [iv 0,iv 0,iv 0]),(2,.box 68 (En.msA (En.hdJ p f c (j+1))))] [(0,.el (En.sysP p n t f) 0),(3,.el (En.cfV sx c) 0),(4,.box 1 0),(5,.box 2 0),(6,iv j),(14,iv p.msgs.length),(15,iv j),(16,bT),(22,iv p.fault),(23,bT)] (ZL (ZL (Zc (Za (oC (ZZ (c:=((j+1:Nat):Int)) rfl (w64 (by omega) (by omega) (by omega))) I0 I0 (pM (mT 47 (iv (j+1:Nat))) (kN 49 [(1,.box 68 [iv 0,iv 0,iv 0]),(2,.box 68 (En.msA (En.hdJ p f c (j+1))))] [(0,.el (En.sysP p n t f) 0),(3,.el (En.cfV sx c) 0),(4,.box 1 0),(5,.box 2 0),(6,iv j),(14,iv p.msgs.length),(15,iv (j+1:Nat)),(16,bT),(22,iv p.fault),(23,bT)] (Zc ?_))))))))
 refine ZI ⟨j+1,by omega⟩ (show p.msgs.length-(j+1)<p.msgs.length-j by omega) ?_
 show Wk _ _ (ofL [(1,.box 68 [iv 0,iv 0,iv 0]),(2,.box 68 (En.msA (En.hdJ p f c (j+1))))]) (ofT 49 [(0,.el (En.sysP p n t f) 0),(3,.el (En.cfV sx c) 0),(4,.box 1 0),(5,.box 2 0),(14,iv p.msgs.length),(15,iv ((j+1):Nat))])
 exact Zk _ _ rfl (by kernel_rfl) (by kernel_rfl)
 refine Za (oC (Zp rfl (dF hs2)) I0 I0 (pM (aT 24 bF) (Zd (Zc (Zn rfl ?_)))))
 by_cases hs3:p.fault=2
 refine Za (oC (Zp rfl (dT hs3)) I0 I0 (pM (aT 25 bT) (Zd (Zc (Zm rfl ?_)))))
 refine Zs (dM (mT 6 (iv j)) (dC (YZ (off':=0+j*1) (.tmp 5) (.tmp 26) rfl U68 (by kernel_rfl) (by omega) (by omega) rfl) I0 I0 (dB (lB (.box 68 (En.msA (En.hdJ p f c j))) (iv (En.hdJ p f c j j)) (.tmp 27) rfl U3 rfl (En.msA_get (by omega))) I0 rfl (dM (mT 6 (iv j)) (dA (fe 12 3 U70 3) I0 (dC (Yg (off':=12+j*1) (.tmp 30) (.tmp 29) rfl U68 (by kernel_rfl) (by omega) (by omega) rfl) I0 I0 (dA (lE (iv (c.fa.getD j 0)) 31 U3 (En.cfV_fa (by omega))) I0 (dC (ZZ (c:=(En.hdJ p f c j j)+(c.fa.getD j 0)) rfl (w64 (by omega) (by omega) (by omega))) I0 I0 (dC (YZ (off':=0+j*1) (.tmp 5) (.tmp 26) rfl U68 (by kernel_rfl) (by omega) (by omega) rfl) I0 I0 (dR (ZK (T0:=68) (X:=iv ((En.hdJ p f c j j)+(c.fa.getD j 0))) (off:=0+j*1) (cs:=En.msA (En.hdJ p f c j)) (ds:=En.msA (En.hdJ p f c (j+1))) (z:=1) (.tmp 34) (.tmp 33) rfl (by kernel_rfl) (by kernel_rfl) (by kernel_rfl) (by show _≤3;omega) (En.msA_step (by omega) (En.hd_12 (.inr hs3)))) ⟨I0,I0,T0⟩ ⟨rfl,T0⟩ rfl (dE ?_))))))))))) (by kernel_rfl)
 show ETri J w0 _ _ _
 refine kW 49 [(1,.box 68 [iv 0,iv 0,iv 0]),(2,.box 68 (En.msA (En.hdJ p f c (j+1))))] [(0,.el (En.sysP p n t f) 0),(3,.el (En.cfV sx c) 0),(4,.box 1 0),(5,.box 2 0),(6,iv j),(14,iv p.msgs.length),(15,iv j),(16,bT),(22,iv p.fault),(23,bT)] (ZL (ZL (Zc (Za (oC (ZZ (c:=((j+1:Nat):Int)) rfl (w64 (by omega) (by omega) (by omega))) I0 I0 (pM (mT 47 (iv (j+1:Nat))) (kN 49 [(1,.box 68 [iv 0,iv 0,iv 0]),(2,.box 68 (En.msA (En.hdJ p f c (j+1))))] [(0,.el (En.sysP p n t f) 0),(3,.el (En.cfV sx c) 0),(4,.box 1 0),(5,.box 2 0),(6,iv j),(14,iv p.msgs.length),(15,iv (j+1:Nat)),(16,bT),(22,iv p.fault),(23,bT)] (Zc ?_))))))))
 refine ZI ⟨j+1,by omega⟩ (show p.msgs.length-(j+1)<p.msgs.length-j by omega) ?_
 show Wk _ _ (ofL [(1,.box 68 [iv 0,iv 0,iv 0]),(2,.box 68 (En.msA (En.hdJ p f c (j+1))))]) (ofT 49 [(0,.el (En.sysP p n t f) 0),(3,.el (En.cfV sx c) 0),(4,.box 1 0),(5,.box 2 0),(14,iv p.msgs.length),(15,iv ((j+1):Nat))])
 exact Zk _ _ rfl (by kernel_rfl) (by kernel_rfl)
 refine Za (oC (Zp rfl (dF hs3)) I0 I0 (pM (aT 25 bF) (Zd (Zc (Zn rfl (Zb ?_))))))
 by_cases hs4:p.fault=3
 refine Za (oC (Zp rfl (dT hs4)) I0 I0 (pM (aT 36 bT) (Zd (Zc (Zm rfl ?_)))))
 refine Zs (dM (mT 6 (iv j)) (dC (YZ (off':=0+j*1) (.tmp 5) (.tmp 37) rfl U68 (by kernel_rfl) (by omega) (by omega) rfl) I0 I0 (dB (lB (.box 68 (En.msA (En.hdJ p f c j))) (iv (En.hdJ p f c j j)) (.tmp 38) rfl U3 rfl (En.msA_get (by omega))) I0 rfl (dM (mT 0 (.el (En.sysP p n t f) 0)) (dA (Zz (off:=0) (.tmp 40) rfl) I0 (dA (fe 10 41 U105 3) I0 (dA (fe 12 42 U29 1) I0 (dA (lE (iv f) 43 U3) I0 (dC (ZZ (c:=(En.hdJ p f c j j)+f) rfl (w64 (by omega) (by omega) (by omega))) I0 I0 (dC (YZ (off':=0+j*1) (.tmp 5) (.tmp 37) rfl U68 (by kernel_rfl) (by omega) (by omega) rfl) I0 I0 (dR (ZK (T0:=68) (X:=iv ((En.hdJ p f c j j)+f)) (off:=0+j*1) (cs:=En.msA (En.hdJ p f c j)) (ds:=En.msA (En.hdJ p f c (j+1))) (z:=1) (.tmp 46) (.tmp 45) rfl (by kernel_rfl) (by kernel_rfl) (by kernel_rfl) (by show _≤3;omega) (En.msA_step (by omega) (En.hd_3 hs2 hs3 hs4))) ⟨I0,I0,T0⟩ ⟨rfl,T0⟩ rfl (dE ?_)))))))))))) (by kernel_rfl)
 show ETri J w0 _ _ _
 refine kW 49 [(1,.box 68 [iv 0,iv 0,iv 0]),(2,.box 68 (En.msA (En.hdJ p f c (j+1))))] [(0,.el (En.sysP p n t f) 0),(3,.el (En.cfV sx c) 0),(4,.box 1 0),(5,.box 2 0),(6,iv j),(14,iv p.msgs.length),(15,iv j),(16,bT),(22,iv p.fault),(23,bF),(35,bT)] (ZL (ZL (Zc (Za (oC (ZZ (c:=((j+1:Nat):Int)) rfl (w64 (by omega) (by omega) (by omega))) I0 I0 (pM (mT 47 (iv (j+1:Nat))) (kN 49 [(1,.box 68 [iv 0,iv 0,iv 0]),(2,.box 68 (En.msA (En.hdJ p f c (j+1))))] [(0,.el (En.sysP p n t f) 0),(3,.el (En.cfV sx c) 0),(4,.box 1 0),(5,.box 2 0),(6,iv j),(14,iv p.msgs.length),(15,iv (j+1:Nat)),(16,bT),(22,iv p.fault),(23,bF),(35,bT)] (Zc ?_))))))))
 refine ZI ⟨j+1,by omega⟩ (show p.msgs.length-(j+1)<p.msgs.length-j by omega) ?_
 show Wk _ _ (ofL [(1,.box 68 [iv 0,iv 0,iv 0]),(2,.box 68 (En.msA (En.hdJ p f c (j+1))))]) (ofT 49 [(0,.el (En.sysP p n t f) 0),(3,.el (En.cfV sx c) 0),(4,.box 1 0),(5,.box 2 0),(14,iv p.msgs.length),(15,iv ((j+1):Nat))])
 exact Zk _ _ rfl (by kernel_rfl) (by kernel_rfl)
 refine Za (oC (Zp rfl (dF hs4)) I0 I0 (pM (aT 36 bF) (Zd (Zc (Zn rfl (Zi (ZL (ZL (Zc (Za (oC (ZZ (c:=((j+1:Nat):Int)) rfl (w64 (by omega) (by omega) (by omega))) I0 I0 (pM (mT 47 (iv (j+1:Nat))) (kN 49 [(1,.box 68 [iv 0,iv 0,iv 0]),(2,.box 68 (En.msA (En.hdJ p f c j)))] [(0,.el (En.sysP p n t f) 0),(3,.el (En.cfV sx c) 0),(4,.box 1 0),(5,.box 2 0),(6,iv j),(14,iv p.msgs.length),(15,iv (j+1:Nat)),(16,bT),(22,iv p.fault),(23,bF),(35,bF)] (Zc ?_))))))))))))))
 refine ZI ⟨j+1,by omega⟩ (show p.msgs.length-(j+1)<p.msgs.length-j by omega) ?_
 show Wk _ _ (ofL [(1,.box 68 [iv 0,iv 0,iv 0]),(2,.box 68 (En.msA (En.hdJ p f c (j+1))))]) (ofT 49 [(0,.el (En.sysP p n t f) 0),(3,.el (En.cfV sx c) 0),(4,.box 1 0),(5,.box 2 0),(14,iv p.msgs.length),(15,iv ((j+1):Nat))])
 rw [En.hdJ_skip hs2 hs3 hs4]
 exact Zk _ _ rfl (by kernel_rfl) (by kernel_rfl)
 refine Za (oC (ZW rfl (dF hs1)) I0 I0 (Zd (Zc (Zb (Zn rfl (Yb (Zt (Zt (Kb (Zc (Zb (Za (oB (lS (En.msA (En.hdJ p f c j)) 3 5 U68) I0 rfl (ZM rfl (sB 3 4 (.tmp 48) (.agg (En.msA (En.hdJ p f c j)))) ⟨I0,I0,T0⟩ ⟨rfl,T0⟩ rfl (Zd (Zc (Zl ?_)))))))))))))))))
 refine Zh Tryz.results28 (.cellS rfl rfl U68 rfl (z:=3) (by kernel_rfl) rfl (by decide)) ?_
 obtain hje:j=p.msgs.length:=by omega
 rw [hje]
 exact rfl
theorem certain_c {p:Fm} {n t f:Int} {c:Cf} (hc:En.CfV p n f c) (hf:0≤f∧f≤1048576) (h3:p.msgs.length≤3) {sx:Int}:Ctr Tryz.prog J 32 [.el (En.sysP p n t f) 0,.agg (En.cfV sx c)] (.agg (En.msA (En.hdG p f c true))):=by
 refine Zw Tryz.func32 rfl (by intro X hX;simp only [List.mem_cons,List.not_mem_nil,or_false] at hX;rcases hX with rfl | rfl;exact (show Plain (.el (En.sysP p n t f) 0) from .el (Ya (En.plain_sysP p n t f)));exact Zq (En.plain_cfV _ c)) (n:=16) rfl (by simp) (fun w0 => ?_)
 refine kW 16 [] [(0,.el (En.sysP p n t f) 0),(1,.agg (En.cfV sx c))] (Zb (Za (oA (Yo (X := .agg (En.cfV sx c)) (.tmp 1) rfl rfl rfl) I0 (ZM rfl (Yl (z := .agg #[.int .i64 0,.int .i64 0,.int .i64 0]) (k:=1) rfl (by kernel_rfl)) T0 T0 rfl (Zd (Zc (Zb (Zb ?_))))))))
 by_cases hs1:p.fault=1
 refine Za (pM (mT 0 (.el (En.sysP p n t f) 0)) (oA (Zz (off:=0) (.tmp 5) rfl) I0 (oA (fe 0 6 U105 10) I0 (oA (fe 5 7 U27 1) I0 (oA (lE (iv p.fault) 8 U3) I0 (oC (Zp rfl (dT hs1)) I0 I0 (Zd (Zc (Zm rfl (Zb (Za (pM (mT 0 (.el (En.sysP p n t f) 0)) (oA (ZC (z:=16) (.tmp 3) rfl U70 rfl (by kernel_rfl) rfl rfl) I0 (oD (sc #[.tmp 11,.tmp 12] [] (heard_c hc hf h3) [.el (En.sysP p n t f) 0,.agg (En.cfV sx c)] rfl rfl rfl) I0 I0 I0 (ZM rfl (sB 3 4 (.tmp 13) (.agg [iv ((En.hdJ p f c p.msgs.length) 0),iv ((En.hdJ p f c p.msgs.length) 1),iv ((En.hdJ p f c p.msgs.length) 2)])) ⟨I0,.inr (.inr (.inl ⟨_,rfl,rfl⟩)),T0⟩ ⟨rfl,T0⟩ rfl (Zd (Zc (Zl (Zf ?_)))))))))))))))))))
 refine Zh Tryz.results32 (.cellS rfl rfl U68 rfl (z:=3) (by kernel_rfl) rfl (by decide)) ?_
 rw [show En.hdG p f c true=_ from (if_pos rfl).trans (if_pos hs1)]
 exact rfl
 refine Za (pM (mT 0 (.el (En.sysP p n t f) 0)) (oA (Zz (off:=0) (.tmp 5) rfl) I0 (oA (fe 0 6 U105 10) I0 (oA (fe 5 7 U27 1) I0 (oA (lE (iv p.fault) 8 U3) I0 (oC (Zp rfl (dF hs1)) I0 I0 (Zd (Zc (Zn rfl (Zi (Zc (Zb (Za (oA (fe 9 3 U70 3) I0 (oA (ZC (z:=3) (ds:=[iv (c.se.getD 0 0),iv (c.se.getD 1 0),iv (c.se.getD 2 0)]) (.tmp 14) rfl U68 rfl (by kernel_rfl) (by kernel_rfl) rfl) I0 (ZM rfl (sB 3 4 (.tmp 15) (.agg [iv (c.se.getD 0 0),iv (c.se.getD 1 0),iv (c.se.getD 2 0)])) ⟨I0,I0,T0⟩ ⟨rfl,T0⟩ rfl (Zd (Zc (Zl ?_)))))))))))))))))))
 refine Zh Tryz.results32 (.cellS rfl rfl U68 rfl (z:=3) (by kernel_rfl) rfl (by decide)) ?_
 rw [show En.hdG p f c true=_ from (if_pos rfl).trans (if_neg hs1)]
 exact rfl
theorem has_c (xs:List Int) (x:Int) (hx:xs.length≤9223372036854775807):Ctr Tryz.prog J 81 [Ze xs,iv x] (bv (decide (x∈xs))):=by
 refine Zw Tryz.func81 rfl (by intro X hX;simp only [List.mem_cons,List.not_mem_nil,or_false] at hX;rcases hX with rfl | rfl;exact Z6 _;exact .v _) (n:=18) rfl (by simp) (fun w0 => ?_)
 refine kW 18 [] [(0,Ze xs),(1,iv x)] (Zb (Za (pM (aC (.bool false)) (Zd (Zc (Zb (Zb (Za (pM (aC (.int .i64 0)) (kN 18 [] [(0,Ze xs),(1,iv x),(4,bF),(5,iv 0)] (Zc (Zy ?_))))))))))))
 refine Yd (σ:={k:Nat // k≤xs.length∧noI xs x k}) (fun s=>(ofL [],ofT 18 [(0,Ze xs),(1,iv x),(5,iv s.1)])) (fun s=>xs.length-s.1) ⟨0,Nat.zero_le _,noI_zero _ _⟩ (Zk [] _ rfl (by kernel_rfl) (by kernel_rfl)) (fun s => ?_)
 obtain ⟨k,hk0,hs0⟩:=s
 show ETri J w0 (ofL []) (ofT 18 [(0,Ze xs),(1,iv x),(5,iv k)]) _
 refine Zb (Zb ?_)
 by_cases hs1:((k:Nat):Int)<((xs.length:Nat):Int)
 refine Za (pM (mT 5 (iv k)) (pM (mT 0 (Ze xs)) (oA (nS 7 U24) I0 (oC (ZW rfl (dT hs1)) I0 I0 (Zd (Zc (Zm rfl (Zi (Zc (Zb (Zy (Zb ?_))))))))))))
 by_cases hs2:xs[k]=x
 refine Za (pM (mT 0 (Ze xs)) (pM (mT 5 (iv k)) (oC (xS (k*1) 12 13 U24) I0 I0 (oA (lE (iv xs[k]) 14 U3 (ZU xs (by omega))) I0 (pM (mT 1 (iv x)) (oC (Zp rfl (dT hs2)) I0 I0 (Zd (Zc (Zm rfl (Zb (Za (pM (aC (.bool true)) (Zd (Zc (Zl (Zu (Zf (Zf (Zu (Zf ?_))))))))))))))))))))
 refine Zh Tryz.results81 (.tmp rfl) ?_
 exact congrArg (fun b:Bool=>AV.v (.bool b)) ((has_yes (k:=k) (by omega) hs2).symm)
 refine Za (pM (mT 0 (Ze xs)) (pM (mT 5 (iv k)) (oC (xS (k*1) 12 13 U24) I0 I0 (oA (lE (iv xs[k]) 14 U3 (ZU xs (by omega))) I0 (pM (mT 1 (iv x)) (oC (Zp rfl (dF hs2)) I0 I0 (Zd (Zc (Zn rfl (Zi (ZL (Zc (Za (pM (mT 5 (iv k)) (oC (ZZ (c:=((k+1:Nat):Int)) rfl (w64 (by omega) (by omega) (by omega))) I0 I0 (pM (aT 11 (iv (k+1:Nat))) (kN 18 [] [(0,Ze xs),(1,iv x),(5,iv (k+1:Nat)),(9,bT),(17,bF)] (Zc ?_))))))))))))))))))
 refine ZI ⟨k+1,by omega,noI_succ' (by omega) hs0 hs2⟩ (show xs.length-(k+1)<xs.length-k by omega) ?_
 exact Zk [] _ rfl (by kernel_rfl) (by kernel_rfl)
 refine Za (pM (mT 5 (iv k)) (pM (mT 0 (Ze xs)) (oA (nS 7 U24) I0 (oC (ZW rfl (dF hs1)) I0 I0 (Zd (Zc (Zn rfl (Yb (Zt (Zt (Kb (Zc (Zb (Za (pM (aC (.bool false)) (Zd (Zc (Zl ?_))))))))))))))))))
 refine Zh Tryz.results81 (.tmp rfl) ?_
 exact congrArg (fun b:Bool=>AV.v (.bool b)) ((has_no (k:=k) (by omega) hs0).symm)
theorem index_c (xs:List Int) (x:Int) (hx:xs.length≤9223372036854775807):Ctr Tryz.prog J 103 [Ze xs,iv x] (iv (idxI xs x)):=by
 refine Zw Tryz.func103 rfl (by intro X hX;simp only [List.mem_cons,List.not_mem_nil,or_false] at hX;rcases hX with rfl | rfl;exact Z6 _;exact .v _) (n:=19) rfl (by simp) (fun w0 => ?_)
 refine kW 19 [] [(0,Ze xs),(1,iv x)] (Zb (Za (pM (aC (.int .i64 0)) (kN 19 [] [(0,Ze xs),(1,iv x),(4,iv 0)] (Zc (Zb (Zb (Za (pM (mT 0 (Ze xs)) (oA (nS 6 U24) I0 (pM (Kp (.const (.int .i64 0)) (iv 0) rfl) (kN 19 [] [(0,Ze xs),(1,iv x),(4,iv 0),(7,iv xs.length),(8,iv 0)] (Zc (Zy ?_))))))))))))))
 refine Yd (σ:={k:Nat // k≤xs.length∧noI xs x k}) (fun s=>(ofL [],ofT 19 [(0,Ze xs),(1,iv x),(7,iv xs.length),(8,iv s.1)])) (fun s=>xs.length-s.1) ⟨0,Nat.zero_le _,noI_zero _ _⟩ (Zk [] _ rfl (by kernel_rfl) (by kernel_rfl)) (fun s => ?_)
 obtain ⟨k,hk0,hs0⟩:=s
 show ETri J w0 (ofL []) (ofT 19 [(0,Ze xs),(1,iv x),(7,iv xs.length),(8,iv k)]) _
 refine Zb ?_
 by_cases hs1:((k:Nat):Int)<((xs.length:Nat):Int)
 refine Za (oC (ZW rfl (dT hs1)) I0 I0 (Zd (Zc (Zb (Zm rfl (Zi (Zc (Zb (Zy (Zb (Za (pM (mT 8 (iv k)) (pM (aT 10 (iv k)) (Zd (Zc (Zb ?_))))))))))))))))
 by_cases hs2:x=xs[k]
 refine Za (pM (mT 1 (iv x)) (pM (mT 0 (Ze xs)) (pM (mT 5 (iv k)) (oC (xS (k*1) 12 13 U24) I0 I0 (oA (lE (iv xs[k]) 14 U3 (ZU xs (by omega))) I0 (oC (Zp rfl (dT hs2)) I0 I0 (Zd (Zc (Zm rfl (Zb (Za (pM (mT 5 (iv k)) (pM (aT 17 (iv k)) (Zd (Zc (Zl (Zu (Zf (Zf (Zu (Zf ?_)))))))))))))))))))))
 refine Zh Tryz.results103 (.tmp rfl) ?_
 exact congrArg (fun x:Int=>AV.v (.int .i64 x)) (idx_yes (by omega) hs0 hs2)
 refine Za (pM (mT 1 (iv x)) (pM (mT 0 (Ze xs)) (pM (mT 5 (iv k)) (oC (xS (k*1) 12 13 U24) I0 I0 (oA (lE (iv xs[k]) 14 U3 (ZU xs (by omega))) I0 (oC (Zp rfl (dF hs2)) I0 I0 (Zd (Zc (Zn rfl (Zi (ZL (Zc (Za (oC (ZZ (c:=((k+1:Nat):Int)) rfl (w64 (by omega) (by omega) (by omega))) I0 I0 (pM (mT 18 (iv (k+1:Nat))) (kN 19 [] [(0,Ze xs),(1,iv x),(5,iv k),(7,iv xs.length),(8,iv (k+1:Nat)),(9,bT),(16,bF)] (Zc ?_)))))))))))))))))
 refine ZI ⟨k+1,by omega,noI_succ (by omega) hs0 hs2⟩ (show xs.length-(k+1)<xs.length-k by omega) ?_
 exact Zk [] _ rfl (by kernel_rfl) (by kernel_rfl)
 refine Za (oC (ZW rfl (dF hs1)) I0 I0 (Zd (Zc (Zb (Zn rfl (Yb (Zt (Zt (Kb (Zc (Zb (Za (pM (aC (.int .i64 (-1))) (Zd (Zc (Zl ?_))))))))))))))))
 refine Zh Tryz.results103 (.tmp rfl) ?_
 exact congrArg (fun x:Int=>AV.v (.int .i64 x)) (idx_no (k:=k) (by omega) hs0)
theorem K1 (xs:List Int) (x:Int) (hx:xs.length≤9223372036854775807):Ctr Tryz.prog J 69 [Ze xs,iv x] (bv (decide (x∈xs))):=by
 refine Zw Tryz.func69 rfl (by intro X hX;simp only [List.mem_cons,List.not_mem_nil,or_false] at hX;rcases hX with rfl | rfl;exact Z6 _;exact .v _) (n:=9) rfl (by simp) (fun w0 => ?_)
 refine kW 9 [] [(0,Ze xs),(1,iv x)] (Zb (Za (pM (aC (.bool false)) (Zd (Zc (Zb (Za (pM (mT 0 (Ze xs)) (pM (mT 1 (iv x)) (oD (sc #[.tmp 5,.tmp 6] [] (index_c xs x hx) [Ze xs,iv x] rfl rfl rfl) I0 I0 I0 (oC (YI rfl rfl) I0 I0 (pM (aT 8 (bv (decide (0≤idxI xs x)))) (Zd (Zc (Zl ?_)))))))))))))))
 refine Zh Tryz.results69 (.tmp rfl) ?_
 exact congrArg (fun b:Bool=>AV.v (.bool b)) (idx_has xs x)
theorem En.or_t {a b:Prop} [Decidable a] [Decidable b] (h:(decide a||decide b)=true):a∨b:=by simpa using h
theorem En.or_f {a b:Prop} [Decidable a] [Decidable b] (h:(decide a||decide b)=false):¬ (a∨b):=by simpa using h
theorem En.isP_in {m:Nat} {x:Int} (h:En.isP m x=true):0≤x∧x<((m:Nat):Int):=by
  unfold En.isP at h
  simpa using h
set_option maxRecDepth 100000 in
set_option maxHeartbeats 6400000 in
theorem partFits_c {p:Fm} {n t f:Int} {c:Cf} (hn:(Ns.cntE p n f)=((c.st.length:Nat):Int)) (l8:c.st.length≤8) {sx:Int} {r:Nat} (hr:r<p.rules.length) {i:Nat} (hi:i<c.st.length) {kp:Int}:Ctr Tryz.prog J 49 [.el (En.sysP p n t f) 0,.agg (En.cfV sx c),.el (p.rules.flatMap cRu) (r*18),.agg [iv r,iv i,iv kp]] (bv (En.ptB c p.rules[r] i kp)):=by
 refine Zw Tryz.func49 rfl (by intro X hX;simp only [List.mem_cons,List.not_mem_nil,or_false] at hX;rcases hX with rfl | rfl | rfl | rfl;exact (show Plain (.el (En.sysP p n t f) 0) from .el (Ya (En.plain_sysP p n t f)));exact Zq (En.plain_cfV _ c);exact (.el (Ya fun X hX=>by obtain ⟨x,_,hx⟩:=List.mem_flatMap.1 hX;exact Y5 x X hx));exact Zq (fun X hX=>by simp only [List.mem_cons,List.not_mem_nil,or_false] at hX;rcases hX with rfl | rfl | rfl<;>exact .v _)) (n:=38) rfl (by simp) (fun w0 => ?_)
 refine kW 38 [] [(0,.el (En.sysP p n t f) 0),(1,.agg (En.cfV sx c)),(2,.el (p.rules.flatMap cRu) (r*18)),(3,.agg [iv r,iv i,iv kp])] (Zb (Za (oA (Yo (X := .agg (En.cfV sx c)) (.tmp 1) rfl rfl rfl) I0 (oA (Yo (X := .agg [iv r,iv i,iv kp]) (.tmp 3) rfl rfl rfl) I0 (pM (aC (.bool false)) (Zd (Zc (Zb (Zb ?_)))))))))
 by_cases hs1:(decide (p.rules[r].kind=2)||decide (p.rules[r].kind=5))=true
 refine Za (pM (mT 2 (.el (p.rules.flatMap cRu) (r*18))) (oC (sc #[.tmp 9] [] (ZA (hasPart_c hr) hs1) [.el (p.rules.flatMap cRu) (r*18)] rfl rfl rfl) I0 I0 (oA (Zr rfl rfl) I0 (Zd (Zc (Zn rfl (Zi (Zc (Zb ?_)))))))))
 by_cases hs2:(En.isP c.st.length kp)=true
 have hk0:=En.isP_in hs2
 by_cases hs3:kp=((i:Nat):Int)
 refine Zs (dM (mT 0 (.el (En.sysP p n t f) 0)) (dA (fe 2 7 U35 1) I0 (dA (lE (iv kp) 16 U3) I0 (dD (sc #[.tmp 15,.tmp 17] [] (ZA (isProc_c hn) hs2) [.el (En.sysP p n t f) 0,iv kp] rfl rfl rfl) I0 I0 I0 (dM (mT 18 bT) (dA (fe 2 7 U35 1) I0 (dA (lE (iv kp) 20 U3) I0 (dA (fe 1 7 U35 1) I0 (dA (lE (iv i) 22 U3) I0 (dC (Zv rfl (dT' hs3)) I0 I0 (dP (pk true bF bF rfl) (dM (mT 25 bF) (dK (dK (dK (dK (dK (dK (dK (dK (dK (dK (dP (pk false (.v (.tuple #[])) bF rfl) (dM (aT 37 bF) (dE ?_))))))))))))))))))))))))) (by kernel_rfl)
 show ETri J w0 _ _ _
 refine Zc (Zl ?_)
 refine Zh Tryz.results49 (.tmp rfl) ?_
 rw [show En.ptB c p.rules[r] i kp=_ from if_pos (En.or_t hs1)]
 exact congrArg (fun x:Bool=>AV.v (.bool x)) ((by simp only [hs2,hs3,decide_true,decide_false,Bool.and_true,Bool.true_and,Bool.false_and,Bool.and_false,Bool.true_or,Bool.false_or,Bool.or_true,Bool.or_false,Bool.not_true,Bool.not_false]))
 refine Zs (dM (mT 0 (.el (En.sysP p n t f) 0)) (dA (fe 2 7 U35 1) I0 (dA (lE (iv kp) 16 U3) I0 (dD (sc #[.tmp 15,.tmp 17] [] (ZA (isProc_c hn) hs2) [.el (En.sysP p n t f) 0,iv kp] rfl rfl rfl) I0 I0 I0 (dM (mT 18 bT) (dA (fe 2 7 U35 1) I0 (dA (lE (iv kp) 20 U3) I0 (dA (fe 1 7 U35 1) I0 (dA (lE (iv i) 22 U3) I0 (dC (Zv rfl (dF' hs3)) I0 I0 (dP (pk true bT bF rfl) (dM (mT 25 bT) (dA (fe 2 7 U35 1) I0 (dA (lE (iv kp) 27 U3) I0 (dA (fe 1 5 U70 8) I0 (dC (Yg (off':=1+kp.toNat*1) (.tmp 29) (.tmp 28) rfl U66 (by kernel_rfl) (by omega) (by omega) rfl) I0 I0 (dA (lE (iv (c.st.getD kp.toNat 0)) 30 U3 (En.cfV_st (by omega))) I0 (dM (mT 2 (.el (p.rules.flatMap cRu) (r*18))) (dA (Zz (off:=r*18) (.tmp 32) rfl) I0 (dA (fe (r*18+4) 33 U57 1) I0 (dA (lE (iv p.rules[r].pf) 34 U3 ((ZH lenRu p.rules r 4 (by omega) (by decide)).trans rfl)) I0 (dC (Zp rfl rfl) I0 I0 (dP (pk true (bv (decide ((c.st.getD kp.toNat 0)=p.rules[r].pf))) bF rfl) (dM (aT 37 (bv (decide ((c.st.getD kp.toNat 0)=p.rules[r].pf)))) (dE ?_))))))))))))))))))))))))) (by kernel_rfl)
 show ETri J w0 _ _ _
 refine Zc (Zl ?_)
 refine Zh Tryz.results49 (.tmp rfl) ?_
 rw [show En.ptB c p.rules[r] i kp=_ from if_pos (En.or_t hs1)]
 exact congrArg (fun x:Bool=>AV.v (.bool x)) ((by simp only [hs2,hs3,decide_true,decide_false,Bool.and_true,Bool.true_and,Bool.false_and,Bool.and_false,Bool.true_or,Bool.false_or,Bool.or_true,Bool.or_false,Bool.not_true,Bool.not_false]))
 have hs2f:(En.isP c.st.length kp)=false:=by simpa using hs2
 refine Zs (dM (mT 0 (.el (En.sysP p n t f) 0)) (dA (fe 2 7 U35 1) I0 (dA (lE (iv kp) 16 U3) I0 (dD (sc #[.tmp 15,.tmp 17] [] (ZA (isProc_c hn) hs2f) [.el (En.sysP p n t f) 0,iv kp] rfl rfl rfl) I0 I0 I0 (dM (mT 18 bF) (dK (dK (dK (dK (dK (dP (pk false (.v (.tuple #[])) bF rfl) (dM (mT 25 bF) (dK (dK (dK (dK (dK (dK (dK (dK (dK (dK (dP (pk false (.v (.tuple #[])) bF rfl) (dM (aT 37 bF) (dE ?_))))))))))))))))))))))))) (by kernel_rfl)
 show ETri J w0 _ _ _
 refine Zc (Zl ?_)
 refine Zh Tryz.results49 (.tmp rfl) ?_
 rw [show En.ptB c p.rules[r] i kp=_ from if_pos (En.or_t hs1)]
 exact congrArg (fun x:Bool=>AV.v (.bool x)) ((by simp only [hs2f,decide_true,decide_false,Bool.and_true,Bool.true_and,Bool.false_and,Bool.and_false,Bool.true_or,Bool.false_or,Bool.or_true,Bool.or_false,Bool.not_true,Bool.not_false]))
 have hs1f:(decide (p.rules[r].kind=2)||decide (p.rules[r].kind=5))=false:=by simpa using hs1
 refine Za (pM (mT 2 (.el (p.rules.flatMap cRu) (r*18))) (oC (sc #[.tmp 9] [] (ZA (hasPart_c hr) hs1f) [.el (p.rules.flatMap cRu) (r*18)] rfl rfl rfl) I0 I0 (oA (Zr rfl rfl) I0 (Zd (Zc (Zm rfl (Zb (Za (oA (fe 2 7 U35 1) I0 (oA (lE (iv kp) 12 U3) I0 (oC (Zp rfl rfl) I0 I0 (pM (aT 14 (bv (decide (kp=(-1))))) (Zd (Zc (Zl (Zf ?_))))))))))))))))
 refine Zh Tryz.results49 (.tmp rfl) ?_
 rw [show En.ptB c p.rules[r] i kp=_ from if_neg (En.or_f hs1f)]
 exact rfl
set_option maxRecDepth 100000 in
set_option maxHeartbeats 6400000 in
theorem localH_c {p:Fm} {n t f:Int} {c:Cf} (hn:(Ns.cntE p n f)=((c.st.length:Nat):Int)) (l8:c.st.length≤8) {sx:Int} {r:Nat} (hr:r<p.rules.length) {i:Nat} (hi:i<c.st.length) {kp:Int} {g:Nat→Int} (hg:∀ m,0≤g m∧g m≤3000000) (h8:p.rules.length≤8) (h3:p.msgs.length≤3) (hg2:p.rules[r].guards.length≤2) (hgd:∀ q∈p.rules[r].guards,0≤q.msg∧q.msg<p.msgs.length∧1≤q.coef∧q.coef≤100) (le:p.rules[r].ex.length≤9223372036854775807) (lf:p.rules[r].fa.length≤9223372036854775807):Ctr Tryz.prog J 50 [.el (En.sysP p n t f) 0,.agg (En.cfV sx c),.agg [iv r,iv i,iv kp],.agg (En.msA g)] (bv (En.loB n t f c p.rules[r] g i)):=by
 refine Zw Tryz.func50 rfl (by intro X hX;simp only [List.mem_cons,List.not_mem_nil,or_false] at hX;rcases hX with rfl | rfl | rfl | rfl;exact (show Plain (.el (En.sysP p n t f) 0) from .el (Ya (En.plain_sysP p n t f)));exact Zq (En.plain_cfV _ c);exact Zq (fun X hX=>by simp only [List.mem_cons,List.not_mem_nil,or_false] at hX;rcases hX with rfl | rfl | rfl<;>exact .v _);exact Zq (En.plain_msA _)) (n:=113) rfl (by simp) (fun w0 => ?_)
 refine kW 113 [] [(0,.el (En.sysP p n t f) 0),(1,.agg (En.cfV sx c)),(2,.agg [iv r,iv i,iv kp]),(3,.agg (En.msA g))] (Zb (Za (oA (Yo (X := .agg (En.cfV sx c)) (.tmp 1) rfl rfl rfl) I0 (oA (Yo (X := .agg [iv r,iv i,iv kp]) (.tmp 2) rfl rfl rfl) I0 (oA (Yo (X := .agg (En.msA g)) (.tmp 3) rfl rfl rfl) I0 (pM (aC (.bool false)) (Zd (Zc (Zb ?_)))))))))
 refine Zs (dM (mT 0 (.el (En.sysP p n t f) 0)) (dA (Zz (off:=0) (.tmp 15) rfl) I0 (dA (fe 0 16 U105 10) I0 (dA (fe 9 17 U27 1) I0 (dA (lE (slA 18 cRu p.rules) 18 U25) I0 (dA (fe 0 6 U35 1) I0 (dA (lE (iv r) 20 U3) I0 (dC (xS (r*18) 19 21 U25) I0 I0 (dM (aT 22 (.el (p.rules.flatMap cRu) (r*18))) (dE ?_)))))))))) (by kernel_rfl)
 show ETri J w0 _ _ _
 refine kW 113 [] [(0,.el (En.sysP p n t f) 0),(5,.el (En.cfV sx c) 0),(6,.el ([iv r,iv i,iv kp]) 0),(7,.el (En.msA g) 0),(8,bF),(9,.el (p.rules.flatMap cRu) (r*18))] (Zc (Zb (Zb ?_)))
 refine YN (True) (ofL []) (ofT 113 [(0,.el (En.sysP p n t f) 0),(5,.el (En.cfV sx c) 0),(6,.el ([iv r,iv i,iv kp]) 0),(7,.el (En.msA g) 0),(8,bF),(9,.el (p.rules.flatMap cRu) (r*18)),(36,bv (En.rdN c p.rules[r]))]) ?_ (fun _ => ?_)
 by_cases hs1:0≤p.rules[r].rd
 by_cases hs2:c.val=p.rules[r].rd
 refine Zs (dM (mT 9 (.el (p.rules.flatMap cRu) (r*18))) (dA (Zz (off:=r*18) (.tmp 23) rfl) I0 (dA (fe (r*18+10) 24 U57 1) I0 (dA (lE (iv p.rules[r].rd) 25 U3 ((ZH lenRu p.rules r 10 (by omega) (by decide)).trans rfl)) I0 (dC (YI rfl (dT hs1)) I0 I0 (dM (mT 27 bT) (dA (fe 15 5 U70 1) I0 (dA (lE (iv c.val) 29 U3) I0 (dM (mT 9 (.el (p.rules.flatMap cRu) (r*18))) (dA (Zz (off:=r*18) (.tmp 31) rfl) I0 (dA (fe (r*18+10) 32 U57 1) I0 (dA (lE (iv p.rules[r].rd) 33 U3 ((ZH lenRu p.rules r 10 (by omega) (by decide)).trans rfl)) I0 (dC (Zv rfl (dT' hs2)) I0 I0 (dP (pk true bF bF rfl) (dE ?_))))))))))))))) (by kernel_rfl)
 show ETri J w0 _ _ _
 refine kW 113 [] [(0,.el (En.sysP p n t f) 0),(5,.el (En.cfV sx c) 0),(6,.el ([iv r,iv i,iv kp]) 0),(7,.el (En.msA g) 0),(8,bF),(9,.el (p.rules.flatMap cRu) (r*18)),(36,bF)] ?_
 rw [show (En.rdN c p.rules[r])=false by unfold En.rdN;simp only [dT hs1,dT hs2,decide_true,decide_false,Bool.and_true,Bool.true_and,Bool.false_and,Bool.and_false,Bool.true_or,Bool.false_or,Bool.or_true,Bool.or_false,Bool.not_true,Bool.not_false]]
 exact Zx T0 (Zk [] _ rfl (by kernel_rfl) (by kernel_rfl))
 refine Zs (dM (mT 9 (.el (p.rules.flatMap cRu) (r*18))) (dA (Zz (off:=r*18) (.tmp 23) rfl) I0 (dA (fe (r*18+10) 24 U57 1) I0 (dA (lE (iv p.rules[r].rd) 25 U3 ((ZH lenRu p.rules r 10 (by omega) (by decide)).trans rfl)) I0 (dC (YI rfl (dT hs1)) I0 I0 (dM (mT 27 bT) (dA (fe 15 5 U70 1) I0 (dA (lE (iv c.val) 29 U3) I0 (dM (mT 9 (.el (p.rules.flatMap cRu) (r*18))) (dA (Zz (off:=r*18) (.tmp 31) rfl) I0 (dA (fe (r*18+10) 32 U57 1) I0 (dA (lE (iv p.rules[r].rd) 33 U3 ((ZH lenRu p.rules r 10 (by omega) (by decide)).trans rfl)) I0 (dC (Zv rfl (dF' hs2)) I0 I0 (dP (pk true bT bF rfl) (dE ?_))))))))))))))) (by kernel_rfl)
 show ETri J w0 _ _ _
 refine kW 113 [] [(0,.el (En.sysP p n t f) 0),(5,.el (En.cfV sx c) 0),(6,.el ([iv r,iv i,iv kp]) 0),(7,.el (En.msA g) 0),(8,bF),(9,.el (p.rules.flatMap cRu) (r*18)),(36,bT)] ?_
 rw [show (En.rdN c p.rules[r])=true by unfold En.rdN;simp only [dT hs1,dF hs2,decide_true,decide_false,Bool.and_true,Bool.true_and,Bool.false_and,Bool.and_false,Bool.true_or,Bool.false_or,Bool.or_true,Bool.or_false,Bool.not_true,Bool.not_false]]
 exact Zx T0 (Zk [] _ rfl (by kernel_rfl) (by kernel_rfl))
 refine Zs (dM (mT 9 (.el (p.rules.flatMap cRu) (r*18))) (dA (Zz (off:=r*18) (.tmp 23) rfl) I0 (dA (fe (r*18+10) 24 U57 1) I0 (dA (lE (iv p.rules[r].rd) 25 U3 ((ZH lenRu p.rules r 10 (by omega) (by decide)).trans rfl)) I0 (dC (YI rfl (dF hs1)) I0 I0 (dM (mT 27 bF) (dK (dK (dK (dK (dK (dK (dK (dP (pk false (.v (.tuple #[])) bF rfl) (dE ?_))))))))))))))) (by kernel_rfl)
 show ETri J w0 _ _ _
 refine kW 113 [] [(0,.el (En.sysP p n t f) 0),(5,.el (En.cfV sx c) 0),(6,.el ([iv r,iv i,iv kp]) 0),(7,.el (En.msA g) 0),(8,bF),(9,.el (p.rules.flatMap cRu) (r*18)),(36,bF)] ?_
 rw [show (En.rdN c p.rules[r])=false by unfold En.rdN;simp only [dF hs1,decide_true,decide_false,Bool.and_true,Bool.true_and,Bool.false_and,Bool.and_false,Bool.true_or,Bool.false_or,Bool.or_true,Bool.or_false,Bool.not_true,Bool.not_false]]
 exact Zx T0 (Zk [] _ rfl (by kernel_rfl) (by kernel_rfl))
 refine Zc ?_
 by_cases hs3:(En.rdN c p.rules[r])=true
 rw [hs3]
 refine kW 113 [] [(0,.el (En.sysP p n t f) 0),(5,.el (En.cfV sx c) 0),(6,.el ([iv r,iv i,iv kp]) 0),(7,.el (En.msA g) 0),(8,bF),(9,.el (p.rules.flatMap cRu) (r*18)),(36,bT)] (Zm rfl (Zb (Za (pM (aC (.bool false)) (Zd (Zc (Zl (Zf ?_))))))))
 refine Zh Tryz.results50 (.tmp rfl) ?_
 exact congrArg (fun x:Bool=>AV.v (.bool x)) ((En.lo_rd hs3).symm)
 have hs3f:(En.rdN c p.rules[r])=false:=by simpa using hs3
 rw [hs3f]
 refine kW 113 [] [(0,.el (En.sysP p n t f) 0),(5,.el (En.cfV sx c) 0),(6,.el ([iv r,iv i,iv kp]) 0),(7,.el (En.msA g) 0),(8,bF),(9,.el (p.rules.flatMap cRu) (r*18)),(36,bF)] (Zn rfl (Zi (Zc (Zb (Zb (Za (pM (mT 9 (.el (p.rules.flatMap cRu) (r*18))) (oA (Zz (off:=r*18) (.tmp 37) rfl) I0 (oA (fe (r*18+7) 38 U57 1) I0 (oA (lE (slA 6 cTh p.rules[r].guards) 39 U55 ((ZH lenRu p.rules r 7 (by omega) (by decide)).trans rfl)) I0 (oA (nS 40 U55) I0 (pM (Kp (.const (.int .i64 0)) (iv 0) rfl) (kN 113 [] [(0,.el (En.sysP p n t f) 0),(5,.el (En.cfV sx c) 0),(6,.el ([iv r,iv i,iv kp]) 0),(7,.el (En.msA g) 0),(8,bF),(9,.el (p.rules.flatMap cRu) (r*18)),(40,slA 6 cTh p.rules[r].guards),(41,iv (p.rules[r].guards.length:Nat)),(42,iv 0)] (Zc (Zy ?_)))))))))))))))
 refine Yd (σ:={k:Nat // k≤p.rules[r].guards.length∧Rd.noP p.rules[r].guards (En.gdN n t f g) k}) (fun s=>(ofL [],ofT 113 [(0,.el (En.sysP p n t f) 0),(5,.el (En.cfV sx c) 0),(6,.el ([iv r,iv i,iv kp]) 0),(7,.el (En.msA g) 0),(9,.el (p.rules.flatMap cRu) (r*18)),(40,slA 6 cTh p.rules[r].guards),(41,iv (p.rules[r].guards.length:Nat)),(42,iv s.1)])) (fun s=>p.rules[r].guards.length-s.1) ⟨0,Nat.zero_le _,Rd.noP_zero _ _⟩ (Zk [] _ rfl (by kernel_rfl) (by kernel_rfl)) (fun s => ?_)
 obtain ⟨k,hk0,hs0⟩:=s
 show ETri J w0 (ofL []) (ofT 113 [(0,.el (En.sysP p n t f) 0),(5,.el (En.cfV sx c) 0),(6,.el ([iv r,iv i,iv kp]) 0),(7,.el (En.msA g) 0),(9,.el (p.rules.flatMap cRu) (r*18)),(40,slA 6 cTh p.rules[r].guards),(41,iv (p.rules[r].guards.length:Nat)),(42,iv k)]) _
 refine Zb ?_
 by_cases hs4:((k:Nat):Int)<((p.rules[r].guards.length:Nat):Int)
 have hk1:k<p.rules[r].guards.length:=by omega
 have hgk:=hgd _ (List.getElem_mem hk1)
 have hgb:=hg p.rules[r].guards[k].msg.toNat
 refine Za (oC (ZW rfl (dT hs4)) I0 I0 (Zd (Zc (Zb (Zm rfl (Zi (Zc (Zb (Zy (Zb (Za (pM (mT 42 (iv k)) (oC (xS (k*6) 40 42 U55) I0 I0 (oA (ZC (z:=6) (.tmp 45) rfl U123 rfl (by kernel_rfl) (YS lenTh p.rules[r].guards k (by omega)) rfl) I0 (ZM rfl (Yl (z := .agg #[.int .i64 0,.int .i64 0,.int .i64 0,.int .i64 0,.int .i64 0,.int .i64 0]) (k:=1) rfl (by kernel_rfl)) T0 T0 rfl (pM (aT 44 (iv k)) (ZM rfl (sB 6 11 (.tmp 46) (.agg (cTh p.rules[r].guards[k]))) ⟨I0,I0,T0⟩ ⟨rfl,T0⟩ rfl (Zd (Zc (Zb ?_))))))))))))))))))))
 by_cases hs5:p.rules[r].guards[k].coef*(g p.rules[r].guards[k].msg.toNat)<(En.gbV p.rules[r] n t f k)
 refine Zs (dA (fb 1 11 U123 1) I0 (dB (lb (iv p.rules[r].guards[k].coef) 47 U3) I0 rfl (dA (fb 0 11 U123 1) I0 (dB (lb (iv p.rules[r].guards[k].msg) 49 U3) I0 rfl (dC (Yg (off':=0+p.rules[r].guards[k].msg.toNat*1) (.tmp 7) (.tmp 50) rfl U68 (by kernel_rfl) (by omega) (by omega) rfl) I0 I0 (dA (lE (iv (g p.rules[r].guards[k].msg.toNat)) 51 U3 (En.msA_get (by omega))) I0 (dC (sp_mul (c:=p.rules[r].guards[k].coef*(g p.rules[r].guards[k].msg.toNat)) rfl (En.mulW hgk.2.2.1 hgk.2.2.2 hgb.1 hgb.2)) I0 I0 (dM (mT 0 (.el (En.sysP p n t f) 0)) (dA (fe 0 6 U35 1) I0 (dA (lE (iv r) 55 U3) I0 (dM (mT 10 (iv k)) (dA (Zz (off:=0) (.tmp 54) rfl) I0 (dA (fe 15 58 U105 16) I0 (dC (Yg (off':=15+r*2) (.tmp 59) (.tmp 56) rfl U102 (by kernel_rfl) (by omega) (by omega) rfl) I0 I0 (dC (Yg (off':=15+r*2+k*1) (.tmp 60) (.tmp 57) rfl U101 (by kernel_rfl) (by omega) (by omega) rfl) I0 I0 (dA (lE (iv (En.gbV p.rules[r] n t f k)) 61 U3 (En.sysP_bd hr h8 hk1 hg2)) I0 (dC (ZW rfl (dT hs5)) I0 I0 (dE ?_)))))))))))))))))) (by kernel_rfl)
 show ETri J w0 _ _ _
 refine kW 113 [(1,.box 123 (cTh p.rules[r].guards[k]))] [(0,.el (En.sysP p n t f) 0),(5,.el (En.cfV sx c) 0),(6,.el ([iv r,iv i,iv kp]) 0),(7,.el (En.msA g) 0),(9,.el (p.rules.flatMap cRu) (r*18)),(10,iv k),(11,.box 1 0),(40,slA 6 cTh p.rules[r].guards),(41,iv (p.rules[r].guards.length:Nat)),(42,iv k),(43,bT),(63,bT)] (Zc (Zm rfl (Zb (Za (pM (aC (.bool false)) (Zd (Zc (Zl (Zu (Zf (Zf (Zu (Zf ?_)))))))))))))
 refine Zh Tryz.results50 (.tmp rfl) ?_
 exact congrArg (fun x:Bool=>AV.v (.bool x)) ((En.lo_gd hk1 hs5).symm)
 refine Zs (dA (fb 1 11 U123 1) I0 (dB (lb (iv p.rules[r].guards[k].coef) 47 U3) I0 rfl (dA (fb 0 11 U123 1) I0 (dB (lb (iv p.rules[r].guards[k].msg) 49 U3) I0 rfl (dC (Yg (off':=0+p.rules[r].guards[k].msg.toNat*1) (.tmp 7) (.tmp 50) rfl U68 (by kernel_rfl) (by omega) (by omega) rfl) I0 I0 (dA (lE (iv (g p.rules[r].guards[k].msg.toNat)) 51 U3 (En.msA_get (by omega))) I0 (dC (sp_mul (c:=p.rules[r].guards[k].coef*(g p.rules[r].guards[k].msg.toNat)) rfl (En.mulW hgk.2.2.1 hgk.2.2.2 hgb.1 hgb.2)) I0 I0 (dM (mT 0 (.el (En.sysP p n t f) 0)) (dA (fe 0 6 U35 1) I0 (dA (lE (iv r) 55 U3) I0 (dM (mT 10 (iv k)) (dA (Zz (off:=0) (.tmp 54) rfl) I0 (dA (fe 15 58 U105 16) I0 (dC (Yg (off':=15+r*2) (.tmp 59) (.tmp 56) rfl U102 (by kernel_rfl) (by omega) (by omega) rfl) I0 I0 (dC (Yg (off':=15+r*2+k*1) (.tmp 60) (.tmp 57) rfl U101 (by kernel_rfl) (by omega) (by omega) rfl) I0 I0 (dA (lE (iv (En.gbV p.rules[r] n t f k)) 61 U3 (En.sysP_bd hr h8 hk1 hg2)) I0 (dC (ZW rfl (dF hs5)) I0 I0 (dE ?_)))))))))))))))))) (by kernel_rfl)
 show ETri J w0 _ _ _
 refine kW 113 [(1,.box 123 (cTh p.rules[r].guards[k]))] [(0,.el (En.sysP p n t f) 0),(5,.el (En.cfV sx c) 0),(6,.el ([iv r,iv i,iv kp]) 0),(7,.el (En.msA g) 0),(9,.el (p.rules.flatMap cRu) (r*18)),(10,iv k),(11,.box 1 0),(40,slA 6 cTh p.rules[r].guards),(41,iv (p.rules[r].guards.length:Nat)),(42,iv k),(43,bT),(63,bF)] (Zc (Zn rfl (Zi (ZL (Zc (Za (oC (ZZ (c:=((k+1:Nat):Int)) rfl (w64 (by omega) (by omega) (by omega))) I0 I0 (pM (mT 64 (iv (k+1:Nat))) (kN 113 [(1,.box 123 (cTh p.rules[r].guards[k]))] [(0,.el (En.sysP p n t f) 0),(5,.el (En.cfV sx c) 0),(6,.el ([iv r,iv i,iv kp]) 0),(7,.el (En.msA g) 0),(9,.el (p.rules.flatMap cRu) (r*18)),(10,iv k),(11,.box 1 0),(40,slA 6 cTh p.rules[r].guards),(41,iv (p.rules[r].guards.length:Nat)),(42,iv (k+1:Nat)),(43,bT),(63,bF)] (Zc ?_))))))))))
 refine ZI ⟨k+1,by omega,Rd.noP_succ hk1 hs0 (En.gd_no hk1 hs5)⟩ (show p.rules[r].guards.length-(k+1)<p.rules[r].guards.length-k by omega) ?_
 exact Zk [] _ rfl (by kernel_rfl) (by kernel_rfl)
 refine Za (oC (ZW rfl (dF hs4)) I0 I0 (Zd (Zc (Zb (Zn rfl (Yb (Zt (Zt (Kb (Zc (Zb (Za (pM (mT 9 (.el (p.rules.flatMap cRu) (r*18))) (oA (Zz (off:=r*18) (.tmp 65) rfl) I0 (oA (fe (r*18+8) 66 U57 1) I0 (oA (lE (Ze p.rules[r].ex) 67 U24 ((ZH lenRu p.rules r 8 (by omega) (by decide)).trans rfl)) I0 (oA (nS 68 U24) I0 (oC (Zp rfl rfl) I0 I0 (pM (aT 70 (bv (decide (((p.rules[r].ex.length:Nat):Int)=0)))) (Zd (Zc (Zb (Zb ?_)))))))))))))))))))))))
 refine Za (oA (fe 1 5 U70 8) I0 (pM (mT 0 (.el (En.sysP p n t f) 0)) (oA (Zz (off:=0) (.tmp 72) rfl) I0 (oA (fe 13 73 U105 1) I0 (oA (lE (iv (Ns.cntE p n f)) 74 U3) I0 (oC (sp_sliceArrEl (n:=c.st.length) (off:=1) (ds:=(c.st.map iv)) (.tmp 71) (.tmp 75) rfl U66 (by kernel_rfl) (by omega) (by kernel_rfl) (by unfold maxLen;omega) (by show _≤16;omega) (En.cfV_row l8) hn) I0 I0 (oA (nS 76 U24) I0 (pM (Kp (.const (.int .i64 0)) (iv 0) rfl) (kN 113 [] [(6,.el ([iv r,iv i,iv kp]) 0),(9,.el (p.rules.flatMap cRu) (r*18)),(12,bv (decide (((p.rules[r].ex.length:Nat):Int)=0))),(76,Ze c.st),(77,iv c.st.length),(78,iv 0)] (Zc (Zy ?_)))))))))))
 rw [← En.exU_zero (c:=c) (i:=i)]
 refine Yd (σ:={j:Nat // j≤c.st.length∧En.noF c p.rules[r] i j}) (fun s=>(ofL [],ofT 113 [(6,.el ([iv r,iv i,iv kp]) 0),(9,.el (p.rules.flatMap cRu) (r*18)),(12,bv (En.exU c p.rules[r] i s.1)),(76,Ze c.st),(77,iv c.st.length),(78,iv s.1)])) (fun s=>c.st.length-s.1) ⟨0,Nat.zero_le _,En.noF_zero⟩ (Zk [] _ rfl (by kernel_rfl) (by kernel_rfl)) (fun s => ?_)
 obtain ⟨j,hj0,hnf⟩:=s
 show ETri J w0 (ofL []) (ofT 113 [(6,.el ([iv r,iv i,iv kp]) 0),(9,.el (p.rules.flatMap cRu) (r*18)),(12,bv (En.exU c p.rules[r] i j)),(76,Ze c.st),(77,iv c.st.length),(78,iv j)]) _
 refine Zb ?_
 by_cases hs6:((j:Nat):Int)<((c.st.length:Nat):Int)
 have hj1:j<c.st.length:=by omega
 refine Za (oC (ZW rfl (dT hs6)) I0 I0 (Zd (Zc (Zb (Zm rfl (Zi (Zc (Zb (Zy (Zb (Za (pM (mT 78 (iv j)) (oC (xS (j*1) 76 78 U24) I0 I0 (oA (lE (iv c.st[j]) 81 U3 (ZU c.st (by omega))) I0 (pM (aT 80 (iv j)) (pM (aT 82 (iv c.st[j])) (Zd (Zc (Zb (Zb ?_))))))))))))))))))))
 by_cases hs7:((j:Nat):Int)=((i:Nat):Int)
 refine Za (pM (mT 13 (iv j)) (oA (fe 1 6 U35 1) I0 (oA (lE (iv i) 84 U3) I0 (oC (Zp rfl (dT hs7)) I0 I0 (Zd (Zc (Zm rfl (Yb (Zt (Kb (Zc (Za (oC (ZZ (c:=((j+1:Nat):Int)) rfl (w64 (by omega) (by omega) (by omega))) I0 I0 (pM (mT 111 (iv (j+1:Nat))) (kN 113 [] [(6,.el ([iv r,iv i,iv kp]) 0),(9,.el (p.rules.flatMap cRu) (r*18)),(12,bv (En.exU c p.rules[r] i j)),(13,iv j),(14,iv c.st[j]),(76,Ze c.st),(77,iv c.st.length),(78,iv (j+1:Nat)),(79,bT),(86,bT)] (Zc ?_))))))))))))))))
 refine ZI ⟨j+1,by omega,En.noF_succ hnf (En.fa_same (by omega))⟩ (show c.st.length-(j+1)<c.st.length-j by omega) ?_
 show Wk _ _ (ofL []) (ofT 113 [(6,.el ([iv r,iv i,iv kp]) 0),(9,.el (p.rules.flatMap cRu) (r*18)),(12,bv (En.exU c p.rules[r] i (j+1))),(76,Ze c.st),(77,iv c.st.length),(78,iv ((j+1):Nat))])
 rw [En.exU_same (by omega)]
 exact Zk [] _ rfl (by kernel_rfl) (by kernel_rfl)
 refine Za (pM (mT 13 (iv j)) (oA (fe 1 6 U35 1) I0 (oA (lE (iv i) 84 U3) I0 (oC (Zp rfl (dF hs7)) I0 I0 (Zd (Zc (Zn rfl (Zi (Zc (Zb (Zb ?_)))))))))))
 by_cases hs8:0<((p.rules[r].fa.length:Nat):Int)
 by_cases hs9:(decide (c.st[j]∈p.rules[r].fa))=true
 refine Za (pM (mT 9 (.el (p.rules.flatMap cRu) (r*18))) (oA (Zz (off:=r*18) (.tmp 87) rfl) I0 (oA (fe (r*18+9) 88 U57 1) I0 (oA (lE (Ze p.rules[r].fa) 89 U24 ((ZH lenRu p.rules r 9 (by omega) (by decide)).trans rfl)) I0 (oA (nS 90 U24) I0 (oC (ZS rfl (dT hs8)) I0 I0 (pM (mT 92 bT) (qM (mT 9 (.el (p.rules.flatMap cRu) (r*18))) (gA (Zz (off:=r*18) (.tmp 94) rfl) I0 (gA (fe (r*18+9) 95 U57 1) I0 (gA (lE (Ze p.rules[r].fa) 96 U24 ((ZH lenRu p.rules r 9 (by omega) (by decide)).trans rfl)) I0 (qM (mT 14 (iv c.st[j])) (gD (sc #[.tmp 97,.tmp 98] [] (ZA (K1 p.rules[r].fa c.st[j] lf) hs9) [Ze p.rules[r].fa,iv c.st[j]] rfl rfl rfl) I0 I0 I0 (gA (Zr rfl rfl) I0 (pP (pk true bF bF rfl) (Zd (Zc (Zn rfl (Zi (Zc ?_))))))))))))))))))))
 by_cases hs10:(En.exU c p.rules[r] i j)=true
 rw [hs10]
 refine kW 113 [] [(6,.el ([iv r,iv i,iv kp]) 0),(9,.el (p.rules.flatMap cRu) (r*18)),(12,bT),(13,iv j),(14,iv c.st[j]),(76,Ze c.st),(77,iv c.st.length),(78,iv j),(79,bT),(86,bF),(101,bF)] (Za (pM (mT 12 bT) (pM (mT 102 bT) (qK (qK (qK (qK (qK (qK (pP (pk true bT (.v (.tuple #[])) rfl) (pM (aT 110 bT) (Zd (ZL (Zc (Za (oC (ZZ (c:=((j+1:Nat):Int)) rfl (w64 (by omega) (by omega) (by omega))) I0 I0 (pM (mT 111 (iv (j+1:Nat))) (kN 113 [] [(6,.el ([iv r,iv i,iv kp]) 0),(9,.el (p.rules.flatMap cRu) (r*18)),(12,bT),(13,iv j),(14,iv c.st[j]),(76,Ze c.st),(77,iv c.st.length),(78,iv (j+1:Nat)),(79,bT),(86,bF),(101,bF)] (Zc ?_)))))))))))))))))))
 refine ZI ⟨j+1,by omega,En.noF_succ hnf (En.fa_in hj1 hs9)⟩ (show c.st.length-(j+1)<c.st.length-j by omega) ?_
 show Wk _ _ (ofL []) (ofT 113 [(6,.el ([iv r,iv i,iv kp]) 0),(9,.el (p.rules.flatMap cRu) (r*18)),(12,bv (En.exU c p.rules[r] i (j+1))),(76,Ze c.st),(77,iv c.st.length),(78,iv ((j+1):Nat))])
 rw [En.exU_t hs10]
 exact Zk [] _ rfl (by kernel_rfl) (by kernel_rfl)
 have hs10f:(En.exU c p.rules[r] i j)=false:=by simpa using hs10
 rw [hs10f]
 refine kW 113 [] [(6,.el ([iv r,iv i,iv kp]) 0),(9,.el (p.rules.flatMap cRu) (r*18)),(12,bF),(13,iv j),(14,iv c.st[j]),(76,Ze c.st),(77,iv c.st.length),(78,iv j),(79,bT),(86,bF),(101,bF)] (Za (pM (mT 12 bF) (pM (mT 102 bF) (qM (mT 9 (.el (p.rules.flatMap cRu) (r*18))) (gA (Zz (off:=r*18) (.tmp 104) rfl) I0 (gA (fe (r*18+8) 105 U57 1) I0 (gA (lE (Ze p.rules[r].ex) 106 U24 ((ZH lenRu p.rules r 8 (by omega) (by decide)).trans rfl)) I0 (qM (mT 14 (iv c.st[j])) (gD (sc #[.tmp 107,.tmp 108] [] (K1 p.rules[r].ex c.st[j] le) [Ze p.rules[r].ex,iv c.st[j]] rfl rfl rfl) I0 I0 I0 (pP (pk false bT (bv (decide (c.st[j]∈p.rules[r].ex))) rfl) (pM (aT 110 (bv (decide (c.st[j]∈p.rules[r].ex)))) (Zd (ZL (Zc (Za (oC (ZZ (c:=((j+1:Nat):Int)) rfl (w64 (by omega) (by omega) (by omega))) I0 I0 (pM (mT 111 (iv (j+1:Nat))) (kN 113 [] [(6,.el ([iv r,iv i,iv kp]) 0),(9,.el (p.rules.flatMap cRu) (r*18)),(12,bv (decide (c.st[j]∈p.rules[r].ex))),(13,iv j),(14,iv c.st[j]),(76,Ze c.st),(77,iv c.st.length),(78,iv (j+1:Nat)),(79,bT),(86,bF),(101,bF)] (Zc ?_)))))))))))))))))))
 refine ZI ⟨j+1,by omega,En.noF_succ hnf (En.fa_in hj1 hs9)⟩ (show c.st.length-(j+1)<c.st.length-j by omega) ?_
 show Wk _ _ (ofL []) (ofT 113 [(6,.el ([iv r,iv i,iv kp]) 0),(9,.el (p.rules.flatMap cRu) (r*18)),(12,bv (En.exU c p.rules[r] i (j+1))),(76,Ze c.st),(77,iv c.st.length),(78,iv ((j+1):Nat))])
 rw [En.exU_f hj1 hs10f (by omega)]
 exact Zk [] _ rfl (by kernel_rfl) (by kernel_rfl)
 have hs9f:(decide (c.st[j]∈p.rules[r].fa))=false:=by simpa using hs9
 refine Za (pM (mT 9 (.el (p.rules.flatMap cRu) (r*18))) (oA (Zz (off:=r*18) (.tmp 87) rfl) I0 (oA (fe (r*18+9) 88 U57 1) I0 (oA (lE (Ze p.rules[r].fa) 89 U24 ((ZH lenRu p.rules r 9 (by omega) (by decide)).trans rfl)) I0 (oA (nS 90 U24) I0 (oC (ZS rfl (dT hs8)) I0 I0 (pM (mT 92 bT) (qM (mT 9 (.el (p.rules.flatMap cRu) (r*18))) (gA (Zz (off:=r*18) (.tmp 94) rfl) I0 (gA (fe (r*18+9) 95 U57 1) I0 (gA (lE (Ze p.rules[r].fa) 96 U24 ((ZH lenRu p.rules r 9 (by omega) (by decide)).trans rfl)) I0 (qM (mT 14 (iv c.st[j])) (gD (sc #[.tmp 97,.tmp 98] [] (ZA (K1 p.rules[r].fa c.st[j] lf) hs9f) [Ze p.rules[r].fa,iv c.st[j]] rfl rfl rfl) I0 I0 I0 (gA (Zr rfl rfl) I0 (pP (pk true bT bF rfl) (Zd (Zc (Zm rfl (Zb (Za (pM (aC (.bool false)) (Zd (Zc ?_)))))))))))))))))))))))
 refine Zl (Zf (Zu (Zf (Zf (Zu (Zf ?_))))))
 refine Zh Tryz.results50 (.tmp rfl) ?_
 exact congrArg (fun x:Bool=>AV.v (.bool x)) ((En.lo_fa hj1 (En.fa_out hj1 (by omega) hs8 hs9f)).symm)
 refine Za (pM (mT 9 (.el (p.rules.flatMap cRu) (r*18))) (oA (Zz (off:=r*18) (.tmp 87) rfl) I0 (oA (fe (r*18+9) 88 U57 1) I0 (oA (lE (Ze p.rules[r].fa) 89 U24 ((ZH lenRu p.rules r 9 (by omega) (by decide)).trans rfl)) I0 (oA (nS 90 U24) I0 (oC (ZS rfl (dF hs8)) I0 I0 (pM (mT 92 bF) (qK (qK (qK (qK (qK (qK (qK (pP (pk false (.v (.tuple #[])) bF rfl) (Zd (Zc (Zn rfl (Zi (Zc ?_))))))))))))))))))))
 by_cases hs11:(En.exU c p.rules[r] i j)=true
 rw [hs11]
 refine kW 113 [] [(6,.el ([iv r,iv i,iv kp]) 0),(9,.el (p.rules.flatMap cRu) (r*18)),(12,bT),(13,iv j),(14,iv c.st[j]),(76,Ze c.st),(77,iv c.st.length),(78,iv j),(79,bT),(86,bF),(101,bF)] (Za (pM (mT 12 bT) (pM (mT 102 bT) (qK (qK (qK (qK (qK (qK (pP (pk true bT (.v (.tuple #[])) rfl) (pM (aT 110 bT) (Zd (ZL (Zc (Za (oC (ZZ (c:=((j+1:Nat):Int)) rfl (w64 (by omega) (by omega) (by omega))) I0 I0 (pM (mT 111 (iv (j+1:Nat))) (kN 113 [] [(6,.el ([iv r,iv i,iv kp]) 0),(9,.el (p.rules.flatMap cRu) (r*18)),(12,bT),(13,iv j),(14,iv c.st[j]),(76,Ze c.st),(77,iv c.st.length),(78,iv (j+1:Nat)),(79,bT),(86,bF),(101,bF)] (Zc ?_)))))))))))))))))))
 refine ZI ⟨j+1,by omega,En.noF_succ hnf (En.fa_none hs8)⟩ (show c.st.length-(j+1)<c.st.length-j by omega) ?_
 show Wk _ _ (ofL []) (ofT 113 [(6,.el ([iv r,iv i,iv kp]) 0),(9,.el (p.rules.flatMap cRu) (r*18)),(12,bv (En.exU c p.rules[r] i (j+1))),(76,Ze c.st),(77,iv c.st.length),(78,iv ((j+1):Nat))])
 rw [En.exU_t hs11]
 exact Zk [] _ rfl (by kernel_rfl) (by kernel_rfl)
 have hs11f:(En.exU c p.rules[r] i j)=false:=by simpa using hs11
 rw [hs11f]
 refine kW 113 [] [(6,.el ([iv r,iv i,iv kp]) 0),(9,.el (p.rules.flatMap cRu) (r*18)),(12,bF),(13,iv j),(14,iv c.st[j]),(76,Ze c.st),(77,iv c.st.length),(78,iv j),(79,bT),(86,bF),(101,bF)] (Za (pM (mT 12 bF) (pM (mT 102 bF) (qM (mT 9 (.el (p.rules.flatMap cRu) (r*18))) (gA (Zz (off:=r*18) (.tmp 104) rfl) I0 (gA (fe (r*18+8) 105 U57 1) I0 (gA (lE (Ze p.rules[r].ex) 106 U24 ((ZH lenRu p.rules r 8 (by omega) (by decide)).trans rfl)) I0 (qM (mT 14 (iv c.st[j])) (gD (sc #[.tmp 107,.tmp 108] [] (K1 p.rules[r].ex c.st[j] le) [Ze p.rules[r].ex,iv c.st[j]] rfl rfl rfl) I0 I0 I0 (pP (pk false bT (bv (decide (c.st[j]∈p.rules[r].ex))) rfl) (pM (aT 110 (bv (decide (c.st[j]∈p.rules[r].ex)))) (Zd (ZL (Zc (Za (oC (ZZ (c:=((j+1:Nat):Int)) rfl (w64 (by omega) (by omega) (by omega))) I0 I0 (pM (mT 111 (iv (j+1:Nat))) (kN 113 [] [(6,.el ([iv r,iv i,iv kp]) 0),(9,.el (p.rules.flatMap cRu) (r*18)),(12,bv (decide (c.st[j]∈p.rules[r].ex))),(13,iv j),(14,iv c.st[j]),(76,Ze c.st),(77,iv c.st.length),(78,iv (j+1:Nat)),(79,bT),(86,bF),(101,bF)] (Zc ?_)))))))))))))))))))
 refine ZI ⟨j+1,by omega,En.noF_succ hnf (En.fa_none hs8)⟩ (show c.st.length-(j+1)<c.st.length-j by omega) ?_
 show Wk _ _ (ofL []) (ofT 113 [(6,.el ([iv r,iv i,iv kp]) 0),(9,.el (p.rules.flatMap cRu) (r*18)),(12,bv (En.exU c p.rules[r] i (j+1))),(76,Ze c.st),(77,iv c.st.length),(78,iv ((j+1):Nat))])
 rw [En.exU_f hj1 hs11f (by omega)]
 exact Zk [] _ rfl (by kernel_rfl) (by kernel_rfl)
 refine Za (oC (ZW rfl (dF hs6)) I0 I0 (Zd (Zc (Zb (Zn rfl (Yb (Zt (Zt (Kb (Zc (Zb (Za (pM (mT 12 (bv (En.exU c p.rules[r] i j))) (pM (aT 112 (bv (En.exU c p.rules[r] i j))) (Zd (Zc (Zl ?_)))))))))))))))))
 refine Zh Tryz.results50 (.tmp rfl) ?_
 exact congrArg (fun x:Bool=>AV.v (.bool x)) ((En.lo_ex hs3f (by omega) hs0 (by omega) hj0 hnf).symm)
theorem fits_c {c:Cf} {sx:Int} {l:List Int} (ll:l.length≤9223372036854775807) {x:Int} (l8:c.st.length≤8) (hx:x<((c.st.length:Nat):Int)):Ctr Tryz.prog J 70 [.agg (En.cfV sx c),iv x,Ze l] (bv (En.fitB c x l)):=by
 refine Zw Tryz.func70 rfl (by intro X hX;simp only [List.mem_cons,List.not_mem_nil,or_false] at hX;rcases hX with rfl | rfl | rfl;exact Zq (En.plain_cfV _ c);exact .v _;exact Z6 _) (n:=22) rfl (by simp) (fun w0 => ?_)
 refine kW 22 [] [(0,.agg (En.cfV sx c)),(1,iv x),(2,Ze l)] (Zb (Za (oA (Yo (X := .agg (En.cfV sx c)) (.tmp 0) rfl rfl rfl) I0 (pM (aC (.bool false)) (Zd (Zc (Zb ?_)))))))
 by_cases hs1:((l.length:Nat):Int)=0
 refine Za (pM (mT 2 (Ze l)) (oA (nS 7 U24) I0 (oC (Zp rfl (dT hs1)) I0 I0 (pM (mT 9 bT) (qK (qK (qK (qK (qK (qK (qK (qK (qK (qK (pP (pk true bT (.v (.tuple #[])) rfl) (pM (aT 21 bT) (Zd (Zc (Zl ?_)))))))))))))))))))
 refine Zh Tryz.results70 (.tmp rfl) ?_
 exact congrArg (fun x:Bool=>AV.v (.bool x)) ((by unfold En.fitB;simp only [hs1,decide_true,decide_false,Bool.and_true,Bool.true_and,Bool.false_and,Bool.and_false,Bool.true_or,Bool.false_or,Bool.or_true,Bool.or_false,Bool.not_true,Bool.not_false]))
 by_cases hs2:0≤x
 refine Za (pM (mT 2 (Ze l)) (oA (nS 7 U24) I0 (oC (Zp rfl (dF hs1)) I0 I0 (pM (mT 9 bF) (qM (mT 1 (iv x)) (gC (YI rfl (dT hs2)) I0 I0 (qM (mT 12 bT) (qM (mT 2 (Ze l)) (qM (mT 1 (iv x)) (gA (fe 1 3 U70 8) I0 (gC (Yg (off':=1+x.toNat*1) (.tmp 16) (.tmp 15) rfl U66 (by kernel_rfl) (by omega) (by omega) rfl) I0 I0 (gA (lE (iv (c.st.getD x.toNat 0)) 17 U3 (En.cfV_st (by omega))) I0 (gD (sc #[.tmp 14,.tmp 18] [] (K1 l (c.st.getD x.toNat 0) ll) [Ze l,iv (c.st.getD x.toNat 0)] rfl rfl rfl) I0 I0 I0 (qP (pk true (bv (decide (c.st.getD x.toNat 0∈l))) bF rfl) (pP (pk false bT (bv (decide (c.st.getD x.toNat 0∈l))) rfl) (pM (aT 21 (bv (decide (c.st.getD x.toNat 0∈l)))) (Zd (Zc (Zl ?_)))))))))))))))))))
 refine Zh Tryz.results70 (.tmp rfl) ?_
 exact congrArg (fun x:Bool=>AV.v (.bool x)) ((by unfold En.fitB;simp only [hs1,hs2,decide_true,decide_false,Bool.and_true,Bool.true_and,Bool.false_and,Bool.and_false,Bool.true_or,Bool.false_or,Bool.or_true,Bool.or_false,Bool.not_true,Bool.not_false]))
 refine Za (pM (mT 2 (Ze l)) (oA (nS 7 U24) I0 (oC (Zp rfl (dF hs1)) I0 I0 (pM (mT 9 bF) (qM (mT 1 (iv x)) (gC (YI rfl (dF hs2)) I0 I0 (qM (mT 12 bF) (qK (qK (qK (qK (qK (qK (qP (pk false (.v (.tuple #[])) bF rfl) (pP (pk false bT bF rfl) (pM (aT 21 bF) (Zd (Zc (Zl ?_)))))))))))))))))))
 refine Zh Tryz.results70 (.tmp rfl) ?_
 exact congrArg (fun x:Bool=>AV.v (.bool x)) ((by unfold En.fitB;simp only [hs1,hs2,decide_true,decide_false,Bool.and_true,Bool.true_and,Bool.false_and,Bool.and_false,Bool.true_or,Bool.false_or,Bool.or_true,Bool.or_false,Bool.not_true,Bool.not_false]))
theorem neighH_c {p:Fm} {n t f:Int} {c:Cf} (hn:(Ns.cntE p n f).toNat=c.st.length) (l8:c.st.length≤8) {sx:Int} {r:Nat} (hr:r<p.rules.length) {i:Nat} (hi:i<c.st.length) {kp:Int} (hrl:RuLen p.rules[r]) (hx0:0≤sx) (hx1:sx<(((En.shS p.top (Ns.cntE p n f).toNat).length:Nat):Int)) (hx2:(En.shS p.top (Ns.cntE p n f).toNat)[sx.toNat]? = some c.sh) (hlk:Jd.lkF p.top c.sh c.st.length i<((c.st.length:Nat):Int)∧Jd.lkS p.top c.sh c.st.length i<((c.st.length:Nat):Int)∧En.lkP p.top c.sh c.st.length i<((c.st.length:Nat):Int)):Ctr Tryz.prog J 51 [.el (En.sysP p n t f) 0,.agg (En.cfV sx c),.agg [iv r,iv i,iv kp]] (bv (En.nbB p.top c p.rules[r] i)):=by
 refine Zw Tryz.func51 rfl (by intro X hX;simp only [List.mem_cons,List.not_mem_nil,or_false] at hX;rcases hX with rfl | rfl | rfl;exact (show Plain (.el (En.sysP p n t f) 0) from .el (Ya (En.plain_sysP p n t f)));exact Zq (En.plain_cfV _ c);exact Zq (fun X hX=>by simp only [List.mem_cons,List.not_mem_nil,or_false] at hX;rcases hX with rfl | rfl | rfl<;>exact .v _)) (n:=79) rfl (by simp) (fun w0 => ?_)
 refine kW 79 [] [(0,.el (En.sysP p n t f) 0),(1,.agg (En.cfV sx c)),(2,.agg [iv r,iv i,iv kp])] (Zb (Za (oA (Yo (X := .agg (En.cfV sx c)) (.tmp 1) rfl rfl rfl) I0 (oA (Yo (X := .agg [iv r,iv i,iv kp]) (.tmp 2) rfl rfl rfl) I0 (pM (aC (.bool false)) (Zd (Zc (Zb ?_))))))))
 refine Zs (dM (mT 0 (.el (En.sysP p n t f) 0)) (dA (Zz (off:=0) (.tmp 9) rfl) I0 (dA (fe 0 10 U105 10) I0 (dA (fe 9 11 U27 1) I0 (dA (lE (slA 18 cRu p.rules) 12 U25) I0 (dA (fe 0 5 U35 1) I0 (dA (lE (iv r) 14 U3) I0 (dC (xS (r*18) 13 15 U25) I0 I0 (dM (aT 16 (.el (p.rules.flatMap cRu) (r*18))) (dE ?_)))))))))) (by kernel_rfl)
 show ETri J w0 _ _ _
 refine kW 79 [] [(0,.el (En.sysP p n t f) 0),(4,.el (En.cfV sx c) 0),(5,.el ([iv r,iv i,iv kp]) 0),(6,bF),(7,.el (p.rules.flatMap cRu) (r*18))] (Zc (Zb ?_))
 refine Zs (dM (mT 0 (.el (En.sysP p n t f) 0)) (dA (Zz (off:=0) (.tmp 17) rfl) I0 (dA (fe 32 18 U105 1) I0 (dA (lE (En.lkS p.top (Ns.cntE p n f).toNat) 19 U103) I0 (dA (fe 0 4 U70 1) I0 (dA (lE (iv sx) 21 U3) I0 (dC (xS (sx.toNat*1) 20 22 U103) I0 I0 (dA (lE (Jd.lkA p.top c.sh c.st.length) 23 U95 (En.links_at hx2 hn)) I0 (dA (fe 1 5 U35 1) I0 (dA (lE (iv i) 25 U3) I0 (dC (xS (i*3) 24 26 U95) I0 I0 (dA (ZC (z:=3) (.tmp 27) rfl U92 rfl (by kernel_rfl) (En.lk_el (by omega)) rfl) I0 (dR (Yl (z := .agg #[.int .i64 0,.int .i64 0,.int .i64 0]) (k:=1) rfl (by kernel_rfl)) T0 T0 rfl (dR (sB 3 8 (.tmp 28) (.agg ([iv (Jd.lkF p.top c.sh c.st.length i),iv (Jd.lkS p.top c.sh c.st.length i),iv (En.lkP p.top c.sh c.st.length i)]))) ⟨I0,I0,T0⟩ ⟨rfl,T0⟩ rfl (dE ?_))))))))))))))) (by kernel_rfl)
 show ETri J w0 _ _ _
 refine kW 79 [(1,.box 92 ([iv (Jd.lkF p.top c.sh c.st.length i),iv (Jd.lkS p.top c.sh c.st.length i),iv (En.lkP p.top c.sh c.st.length i)]))] [(4,.el (En.cfV sx c) 0),(5,.el ([iv r,iv i,iv kp]) 0),(6,bF),(7,.el (p.rules.flatMap cRu) (r*18)),(8,.box 1 0)] (Zc (Zb (Zy (Zb ?_))))
 refine YN (True) (ofL [(1,.box 92 ([iv (Jd.lkF p.top c.sh c.st.length i),iv (Jd.lkS p.top c.sh c.st.length i),iv (En.lkP p.top c.sh c.st.length i)]))]) (ofT 79 [(4,.el (En.cfV sx c) 0),(6,bF),(7,.el (p.rules.flatMap cRu) (r*18)),(8,.box 1 0),(29,bv (decide (p.rules[r].pos=1) && !decide (((i:Nat):Int)=0)))]) ?_ (fun _ => ?_)
 by_cases hs1:p.rules[r].pos=1
 by_cases hs2:((i:Nat):Int)=0
 refine Za (pM (mT 7 (.el (p.rules.flatMap cRu) (r*18))) (oA (Zz (off:=r*18) (.tmp 30) rfl) I0 (oA (fe (r*18+13) 31 U57 1) I0 (oA (lE (iv p.rules[r].pos) 32 U3 ((ZH lenRu p.rules r 13 (by omega) (by decide)).trans rfl)) I0 (oC (Zp rfl (dT hs1)) I0 I0 (pM (mT 34 bT) (gA (fe 1 5 U35 1) I0 (gA (lE (iv i) 36 U3) I0 (gC (Zv rfl (dT' hs2)) I0 I0 (pP (pk true bF bF rfl) (pM (aT 39 bF) (kN 79 [(1,.box 92 ([iv (Jd.lkF p.top c.sh c.st.length i),iv (Jd.lkS p.top c.sh c.st.length i),iv (En.lkP p.top c.sh c.st.length i)]))] [(4,.el (En.cfV sx c) 0),(6,bF),(7,.el (p.rules.flatMap cRu) (r*18)),(8,.box 1 0),(29,bF)] ?_))))))))))))
 rw [show ((decide (p.rules[r].pos=1) && !decide (((i:Nat):Int)=0)))=false by simp only [dT hs1,dT hs2,decide_true,decide_false,Bool.and_true,Bool.true_and,Bool.false_and,Bool.and_false,Bool.true_or,Bool.false_or,Bool.or_true,Bool.or_false,Bool.not_true,Bool.not_false]]
 exact Zx T0 (Zk _ _ rfl (by kernel_rfl) (by kernel_rfl))
 refine Za (pM (mT 7 (.el (p.rules.flatMap cRu) (r*18))) (oA (Zz (off:=r*18) (.tmp 30) rfl) I0 (oA (fe (r*18+13) 31 U57 1) I0 (oA (lE (iv p.rules[r].pos) 32 U3 ((ZH lenRu p.rules r 13 (by omega) (by decide)).trans rfl)) I0 (oC (Zp rfl (dT hs1)) I0 I0 (pM (mT 34 bT) (gA (fe 1 5 U35 1) I0 (gA (lE (iv i) 36 U3) I0 (gC (Zv rfl (dF' hs2)) I0 I0 (pP (pk true bT bF rfl) (pM (aT 39 bT) (kN 79 [(1,.box 92 ([iv (Jd.lkF p.top c.sh c.st.length i),iv (Jd.lkS p.top c.sh c.st.length i),iv (En.lkP p.top c.sh c.st.length i)]))] [(4,.el (En.cfV sx c) 0),(6,bF),(7,.el (p.rules.flatMap cRu) (r*18)),(8,.box 1 0),(29,bT)] ?_))))))))))))
 rw [show ((decide (p.rules[r].pos=1) && !decide (((i:Nat):Int)=0)))=true by simp only [dT hs1,dF hs2,decide_true,decide_false,Bool.and_true,Bool.true_and,Bool.false_and,Bool.and_false,Bool.true_or,Bool.false_or,Bool.or_true,Bool.or_false,Bool.not_true,Bool.not_false]]
 exact Zx T0 (Zk _ _ rfl (by kernel_rfl) (by kernel_rfl))
 refine Za (pM (mT 7 (.el (p.rules.flatMap cRu) (r*18))) (oA (Zz (off:=r*18) (.tmp 30) rfl) I0 (oA (fe (r*18+13) 31 U57 1) I0 (oA (lE (iv p.rules[r].pos) 32 U3 ((ZH lenRu p.rules r 13 (by omega) (by decide)).trans rfl)) I0 (oC (Zp rfl (dF hs1)) I0 I0 (pM (mT 34 bF) (qK (qK (qK (pP (pk false (.v (.tuple #[])) bF rfl) (pM (aT 39 bF) (kN 79 [(1,.box 92 ([iv (Jd.lkF p.top c.sh c.st.length i),iv (Jd.lkS p.top c.sh c.st.length i),iv (En.lkP p.top c.sh c.st.length i)]))] [(4,.el (En.cfV sx c) 0),(6,bF),(7,.el (p.rules.flatMap cRu) (r*18)),(8,.box 1 0),(29,bF)] ?_))))))))))))
 rw [show ((decide (p.rules[r].pos=1) && !decide (((i:Nat):Int)=0)))=false by simp only [dF hs1,decide_true,decide_false,Bool.and_true,Bool.true_and,Bool.false_and,Bool.and_false,Bool.true_or,Bool.false_or,Bool.or_true,Bool.or_false,Bool.not_true,Bool.not_false]]
 exact Zx T0 (Zk _ _ rfl (by kernel_rfl) (by kernel_rfl))
 refine Zc ?_
 by_cases hs3:(decide (p.rules[r].pos=1) && !decide (((i:Nat):Int)=0))=true
 rw [hs3]
 refine kW 79 [(1,.box 92 ([iv (Jd.lkF p.top c.sh c.st.length i),iv (Jd.lkS p.top c.sh c.st.length i),iv (En.lkP p.top c.sh c.st.length i)]))] [(4,.el (En.cfV sx c) 0),(6,bF),(7,.el (p.rules.flatMap cRu) (r*18)),(8,.box 1 0),(29,bT)] (Zm rfl (Zb (Za (pM (aC (.bool false)) (Zd (Zc (Zl (Zu (Zf ?_)))))))))
 refine Zh Tryz.results51 (.tmp rfl) ?_
 exact congrArg (fun x:Bool=>AV.v (.bool x)) ((by unfold En.nbB;simp only [hs3,decide_true,decide_false,Bool.and_true,Bool.true_and,Bool.false_and,Bool.and_false,Bool.true_or,Bool.false_or,Bool.or_true,Bool.or_false,Bool.not_true,Bool.not_false]))
 have hs3f:(decide (p.rules[r].pos=1) && !decide (((i:Nat):Int)=0))=false:=by simpa using hs3
 rw [hs3f]
 refine kW 79 [(1,.box 92 ([iv (Jd.lkF p.top c.sh c.st.length i),iv (Jd.lkS p.top c.sh c.st.length i),iv (En.lkP p.top c.sh c.st.length i)]))] [(4,.el (En.cfV sx c) 0),(6,bF),(7,.el (p.rules.flatMap cRu) (r*18)),(8,.box 1 0),(29,bF)] (Zn rfl (Zb ?_))
 refine YN (True) (ofL [(1,.box 92 ([iv (Jd.lkF p.top c.sh c.st.length i),iv (Jd.lkS p.top c.sh c.st.length i),iv (En.lkP p.top c.sh c.st.length i)]))]) (ofT 79 [(4,.el (En.cfV sx c) 0),(6,bF),(7,.el (p.rules.flatMap cRu) (r*18)),(8,.box 1 0),(40,bv (decide (p.rules[r].pos=2)&&decide (0≤(Jd.lkS p.top c.sh c.st.length i))))]) ?_ (fun _ => ?_)
 by_cases hs4:p.rules[r].pos=2
 by_cases hs5:0≤(Jd.lkS p.top c.sh c.st.length i)
 refine Za (pM (mT 7 (.el (p.rules.flatMap cRu) (r*18))) (oA (Zz (off:=r*18) (.tmp 41) rfl) I0 (oA (fe (r*18+13) 42 U57 1) I0 (oA (lE (iv p.rules[r].pos) 43 U3 ((ZH lenRu p.rules r 13 (by omega) (by decide)).trans rfl)) I0 (oC (Zp rfl (dT hs4)) I0 I0 (pM (mT 45 bT) (gA (fb 1 8 U92 1) I0 (gB (lb (iv (Jd.lkS p.top c.sh c.st.length i)) 47 U3) I0 rfl (gC (YI rfl (dT hs5)) I0 I0 (pP (pk true bT bF rfl) (pM (aT 50 bT) (kN 79 [(1,.box 92 ([iv (Jd.lkF p.top c.sh c.st.length i),iv (Jd.lkS p.top c.sh c.st.length i),iv (En.lkP p.top c.sh c.st.length i)]))] [(4,.el (En.cfV sx c) 0),(6,bF),(7,.el (p.rules.flatMap cRu) (r*18)),(8,.box 1 0),(40,bT)] ?_))))))))))))
 rw [show ((decide (p.rules[r].pos=2)&&decide (0≤(Jd.lkS p.top c.sh c.st.length i))))=true by simp only [hs3f,dT hs4,dT hs5,decide_true,decide_false,Bool.and_true,Bool.true_and,Bool.false_and,Bool.and_false,Bool.true_or,Bool.false_or,Bool.or_true,Bool.or_false,Bool.not_true,Bool.not_false]]
 exact Zx T0 (Zk _ _ rfl (by kernel_rfl) (by kernel_rfl))
 refine Za (pM (mT 7 (.el (p.rules.flatMap cRu) (r*18))) (oA (Zz (off:=r*18) (.tmp 41) rfl) I0 (oA (fe (r*18+13) 42 U57 1) I0 (oA (lE (iv p.rules[r].pos) 43 U3 ((ZH lenRu p.rules r 13 (by omega) (by decide)).trans rfl)) I0 (oC (Zp rfl (dT hs4)) I0 I0 (pM (mT 45 bT) (gA (fb 1 8 U92 1) I0 (gB (lb (iv (Jd.lkS p.top c.sh c.st.length i)) 47 U3) I0 rfl (gC (YI rfl (dF hs5)) I0 I0 (pP (pk true bF bF rfl) (pM (aT 50 bF) (kN 79 [(1,.box 92 ([iv (Jd.lkF p.top c.sh c.st.length i),iv (Jd.lkS p.top c.sh c.st.length i),iv (En.lkP p.top c.sh c.st.length i)]))] [(4,.el (En.cfV sx c) 0),(6,bF),(7,.el (p.rules.flatMap cRu) (r*18)),(8,.box 1 0),(40,bF)] ?_))))))))))))
 rw [show ((decide (p.rules[r].pos=2)&&decide (0≤(Jd.lkS p.top c.sh c.st.length i))))=false by simp only [hs3f,dT hs4,dF hs5,decide_true,decide_false,Bool.and_true,Bool.true_and,Bool.false_and,Bool.and_false,Bool.true_or,Bool.false_or,Bool.or_true,Bool.or_false,Bool.not_true,Bool.not_false]]
 exact Zx T0 (Zk _ _ rfl (by kernel_rfl) (by kernel_rfl))
 refine Za (pM (mT 7 (.el (p.rules.flatMap cRu) (r*18))) (oA (Zz (off:=r*18) (.tmp 41) rfl) I0 (oA (fe (r*18+13) 42 U57 1) I0 (oA (lE (iv p.rules[r].pos) 43 U3 ((ZH lenRu p.rules r 13 (by omega) (by decide)).trans rfl)) I0 (oC (Zp rfl (dF hs4)) I0 I0 (pM (mT 45 bF) (qK (qK (qK (pP (pk false (.v (.tuple #[])) bF rfl) (pM (aT 50 bF) (kN 79 [(1,.box 92 ([iv (Jd.lkF p.top c.sh c.st.length i),iv (Jd.lkS p.top c.sh c.st.length i),iv (En.lkP p.top c.sh c.st.length i)]))] [(4,.el (En.cfV sx c) 0),(6,bF),(7,.el (p.rules.flatMap cRu) (r*18)),(8,.box 1 0),(40,bF)] ?_))))))))))))
 rw [show ((decide (p.rules[r].pos=2)&&decide (0≤(Jd.lkS p.top c.sh c.st.length i))))=false by simp only [hs3f,dF hs4,decide_true,decide_false,Bool.and_true,Bool.true_and,Bool.false_and,Bool.and_false,Bool.true_or,Bool.false_or,Bool.or_true,Bool.or_false,Bool.not_true,Bool.not_false]]
 exact Zx T0 (Zk _ _ rfl (by kernel_rfl) (by kernel_rfl))
 refine Zc ?_
 by_cases hs6:(decide (p.rules[r].pos=2)&&decide (0≤(Jd.lkS p.top c.sh c.st.length i)))=true
 rw [hs6]
 refine kW 79 [(1,.box 92 ([iv (Jd.lkF p.top c.sh c.st.length i),iv (Jd.lkS p.top c.sh c.st.length i),iv (En.lkP p.top c.sh c.st.length i)]))] [(4,.el (En.cfV sx c) 0),(6,bF),(7,.el (p.rules.flatMap cRu) (r*18)),(8,.box 1 0),(40,bT)] (Zm rfl (Zb (Za (pM (aC (.bool false)) (Zd (Zc (Zl (Zu (Zf ?_)))))))))
 refine Zh Tryz.results51 (.tmp rfl) ?_
 exact congrArg (fun x:Bool=>AV.v (.bool x)) ((by unfold En.nbB;simp only [hs3f,hs6,decide_true,decide_false,Bool.and_true,Bool.true_and,Bool.false_and,Bool.and_false,Bool.true_or,Bool.false_or,Bool.or_true,Bool.or_false,Bool.not_true,Bool.not_false]))
 have hs6f:(decide (p.rules[r].pos=2)&&decide (0≤(Jd.lkS p.top c.sh c.st.length i)))=false:=by simpa using hs6
 rw [hs6f]
 refine kW 79 [(1,.box 92 ([iv (Jd.lkF p.top c.sh c.st.length i),iv (Jd.lkS p.top c.sh c.st.length i),iv (En.lkP p.top c.sh c.st.length i)]))] [(4,.el (En.cfV sx c) 0),(6,bF),(7,.el (p.rules.flatMap cRu) (r*18)),(8,.box 1 0),(40,bF)] (Zn rfl (Zi (ZL (Zc (Zb ?_)))))
 by_cases hs7:(En.fitB c (Jd.lkF p.top c.sh c.st.length i) p.rules[r].left)=true
 by_cases hs8:(En.fitB c (Jd.lkS p.top c.sh c.st.length i) p.rules[r].right)=true
 refine Zs (dA (ZC (z:=16) (.tmp 4) rfl U70 rfl (by kernel_rfl) rfl rfl) I0 (dA (fb 0 8 U92 1) I0 (dB (lb (iv (Jd.lkF p.top c.sh c.st.length i)) 52 U3) I0 rfl (dM (mT 7 (.el (p.rules.flatMap cRu) (r*18))) (dA (Zz (off:=r*18) (.tmp 54) rfl) I0 (dA (fe (r*18+14) 55 U57 1) I0 (dA (lE (Ze p.rules[r].left) 56 U24 ((ZH lenRu p.rules r 14 (by omega) (by decide)).trans rfl)) I0 (dR (sc #[.tmp 51,.tmp 53,.tmp 57] [] (ZA (fits_c (Nat.le_trans hrl.left (by decide)) l8 hlk.1) hs7) [.agg (En.cfV sx c),iv (Jd.lkF p.top c.sh c.st.length i),Ze p.rules[r].left] rfl rfl rfl) ⟨I0,I0,I0,I0,T0⟩ T0 T0 (dM (mT 58 bT) (dA (ZC (z:=16) (.tmp 4) rfl U70 rfl (by kernel_rfl) rfl rfl) I0 (dA (fb 1 8 U92 1) I0 (dB (lb (iv (Jd.lkS p.top c.sh c.st.length i)) 61 U3) I0 rfl (dM (mT 7 (.el (p.rules.flatMap cRu) (r*18))) (dA (Zz (off:=r*18) (.tmp 63) rfl) I0 (dA (fe (r*18+15) 64 U57 1) I0 (dA (lE (Ze p.rules[r].right) 65 U24 ((ZH lenRu p.rules r 15 (by omega) (by decide)).trans rfl)) I0 (dR (sc #[.tmp 60,.tmp 62,.tmp 66] [] (ZA (fits_c (Nat.le_trans hrl.right (by decide)) l8 hlk.2.1) hs8) [.agg (En.cfV sx c),iv (Jd.lkS p.top c.sh c.st.length i),Ze p.rules[r].right] rfl rfl rfl) ⟨I0,I0,I0,I0,T0⟩ T0 T0 (dP (pk true bT bF rfl) (dM (mT 68 bT) (dA (ZC (z:=16) (.tmp 4) rfl U70 rfl (by kernel_rfl) rfl rfl) I0 (dA (fb 2 8 U92 1) I0 (dB (lb (iv (En.lkP p.top c.sh c.st.length i)) 71 U3) I0 rfl (dM (mT 7 (.el (p.rules.flatMap cRu) (r*18))) (dA (Zz (off:=r*18) (.tmp 73) rfl) I0 (dA (fe (r*18+16) 74 U57 1) I0 (dA (lE (Ze p.rules[r].parent) 75 U24 ((ZH lenRu p.rules r 16 (by omega) (by decide)).trans rfl)) I0 (dR (sc #[.tmp 70,.tmp 72,.tmp 76] [] (fits_c (Nat.le_trans hrl.parent (by decide)) l8 hlk.2.2) [.agg (En.cfV sx c),iv (En.lkP p.top c.sh c.st.length i),Ze p.rules[r].parent] rfl rfl rfl) ⟨I0,I0,I0,I0,T0⟩ T0 T0 (dP (pk true (bv (En.fitB c (En.lkP p.top c.sh c.st.length i) p.rules[r].parent)) bF rfl) (dM (aT 78 (bv (En.fitB c (En.lkP p.top c.sh c.st.length i) p.rules[r].parent))) (dE ?_)))))))))))))))))))))))))))))) (by kernel_rfl)
 show ETri J w0 _ _ _
 refine Zc (Zl ?_)
 refine Zh Tryz.results51 (.tmp rfl) ?_
 exact congrArg (fun x:Bool=>AV.v (.bool x)) ((by unfold En.nbB;simp only [hs3f,hs6f,hs7,hs8,decide_true,decide_false,Bool.and_true,Bool.true_and,Bool.false_and,Bool.and_false,Bool.true_or,Bool.false_or,Bool.or_true,Bool.or_false,Bool.not_true,Bool.not_false]))
 have hs8f:(En.fitB c (Jd.lkS p.top c.sh c.st.length i) p.rules[r].right)=false:=by simpa using hs8
 refine Zs (dA (ZC (z:=16) (.tmp 4) rfl U70 rfl (by kernel_rfl) rfl rfl) I0 (dA (fb 0 8 U92 1) I0 (dB (lb (iv (Jd.lkF p.top c.sh c.st.length i)) 52 U3) I0 rfl (dM (mT 7 (.el (p.rules.flatMap cRu) (r*18))) (dA (Zz (off:=r*18) (.tmp 54) rfl) I0 (dA (fe (r*18+14) 55 U57 1) I0 (dA (lE (Ze p.rules[r].left) 56 U24 ((ZH lenRu p.rules r 14 (by omega) (by decide)).trans rfl)) I0 (dR (sc #[.tmp 51,.tmp 53,.tmp 57] [] (ZA (fits_c (Nat.le_trans hrl.left (by decide)) l8 hlk.1) hs7) [.agg (En.cfV sx c),iv (Jd.lkF p.top c.sh c.st.length i),Ze p.rules[r].left] rfl rfl rfl) ⟨I0,I0,I0,I0,T0⟩ T0 T0 (dM (mT 58 bT) (dA (ZC (z:=16) (.tmp 4) rfl U70 rfl (by kernel_rfl) rfl rfl) I0 (dA (fb 1 8 U92 1) I0 (dB (lb (iv (Jd.lkS p.top c.sh c.st.length i)) 61 U3) I0 rfl (dM (mT 7 (.el (p.rules.flatMap cRu) (r*18))) (dA (Zz (off:=r*18) (.tmp 63) rfl) I0 (dA (fe (r*18+15) 64 U57 1) I0 (dA (lE (Ze p.rules[r].right) 65 U24 ((ZH lenRu p.rules r 15 (by omega) (by decide)).trans rfl)) I0 (dR (sc #[.tmp 60,.tmp 62,.tmp 66] [] (ZA (fits_c (Nat.le_trans hrl.right (by decide)) l8 hlk.2.1) hs8f) [.agg (En.cfV sx c),iv (Jd.lkS p.top c.sh c.st.length i),Ze p.rules[r].right] rfl rfl rfl) ⟨I0,I0,I0,I0,T0⟩ T0 T0 (dP (pk true bF bF rfl) (dM (mT 68 bF) (dK (dK (dK (dK (dK (dK (dK (dK (dP (pk false (.v (.tuple #[])) bF rfl) (dM (aT 78 bF) (dE ?_)))))))))))))))))))))))))))))) (by kernel_rfl)
 show ETri J w0 _ _ _
 refine Zc (Zl ?_)
 refine Zh Tryz.results51 (.tmp rfl) ?_
 exact congrArg (fun x:Bool=>AV.v (.bool x)) ((by unfold En.nbB;simp only [hs3f,hs6f,hs7,hs8f,decide_true,decide_false,Bool.and_true,Bool.true_and,Bool.false_and,Bool.and_false,Bool.true_or,Bool.false_or,Bool.or_true,Bool.or_false,Bool.not_true,Bool.not_false]))
 have hs7f:(En.fitB c (Jd.lkF p.top c.sh c.st.length i) p.rules[r].left)=false:=by simpa using hs7
 refine Zs (dA (ZC (z:=16) (.tmp 4) rfl U70 rfl (by kernel_rfl) rfl rfl) I0 (dA (fb 0 8 U92 1) I0 (dB (lb (iv (Jd.lkF p.top c.sh c.st.length i)) 52 U3) I0 rfl (dM (mT 7 (.el (p.rules.flatMap cRu) (r*18))) (dA (Zz (off:=r*18) (.tmp 54) rfl) I0 (dA (fe (r*18+14) 55 U57 1) I0 (dA (lE (Ze p.rules[r].left) 56 U24 ((ZH lenRu p.rules r 14 (by omega) (by decide)).trans rfl)) I0 (dR (sc #[.tmp 51,.tmp 53,.tmp 57] [] (ZA (fits_c (Nat.le_trans hrl.left (by decide)) l8 hlk.1) hs7f) [.agg (En.cfV sx c),iv (Jd.lkF p.top c.sh c.st.length i),Ze p.rules[r].left] rfl rfl rfl) ⟨I0,I0,I0,I0,T0⟩ T0 T0 (dM (mT 58 bF) (dK (dK (dK (dK (dK (dK (dK (dK (dP (pk false (.v (.tuple #[])) bF rfl) (dM (mT 68 bF) (dK (dK (dK (dK (dK (dK (dK (dK (dP (pk false (.v (.tuple #[])) bF rfl) (dM (aT 78 bF) (dE ?_)))))))))))))))))))))))))))))) (by kernel_rfl)
 show ETri J w0 _ _ _
 refine Zc (Zl ?_)
 refine Zh Tryz.results51 (.tmp rfl) ?_
 exact congrArg (fun x:Bool=>AV.v (.bool x)) ((by unfold En.nbB;simp only [hs3f,hs6f,hs7f,decide_true,decide_false,Bool.and_true,Bool.true_and,Bool.false_and,Bool.and_false,Bool.true_or,Bool.false_or,Bool.or_true,Bool.or_false,Bool.not_true,Bool.not_false]))
theorem passH_c {p:Fm} {n t f:Int} {c:Cf} (hn:(Ns.cntE p n f).toNat=c.st.length) (l8:c.st.length≤8) {sx:Int} {r:Nat} (hr:r<p.rules.length) {i:Nat} (hi:i<c.st.length) {kp:Int} (hrl:RuLen p.rules[r]) (hx0:0≤sx) (hx1:sx<(((En.shS p.top (Ns.cntE p n f).toNat).length:Nat):Int)) (hx2:(En.shS p.top (Ns.cntE p n f).toNat)[sx.toNat]? = some c.sh) (hlk:Jd.lkF p.top c.sh c.st.length i<((c.st.length:Nat):Int)∧Jd.lkS p.top c.sh c.st.length i<((c.st.length:Nat):Int)∧En.lkP p.top c.sh c.st.length i<((c.st.length:Nat):Int)):Ctr Tryz.prog J 52 [.el (En.sysP p n t f) 0,.agg (En.cfV sx c),.agg [iv r,iv i,iv kp]] (bv (En.psB p.top c p.rules[r] i kp)):=by
 refine Zw Tryz.func52 rfl (by intro X hX;simp only [List.mem_cons,List.not_mem_nil,or_false] at hX;rcases hX with rfl | rfl | rfl;exact (show Plain (.el (En.sysP p n t f) 0) from .el (Ya (En.plain_sysP p n t f)));exact Zq (En.plain_cfV _ c);exact Zq (fun X hX=>by simp only [List.mem_cons,List.not_mem_nil,or_false] at hX;rcases hX with rfl | rfl | rfl<;>exact .v _)) (n:=63) rfl (by simp) (fun w0 => ?_)
 refine kW 63 [] [(0,.el (En.sysP p n t f) 0),(1,.agg (En.cfV sx c)),(2,.agg [iv r,iv i,iv kp])] (Zb (Za (oA (Yo (X := .agg (En.cfV sx c)) (.tmp 1) rfl rfl rfl) I0 (oA (Yo (X := .agg [iv r,iv i,iv kp]) (.tmp 2) rfl rfl rfl) I0 (pM (aC (.bool false)) (Zd (Zc (Zb ?_))))))))
 refine Zs (dM (mT 0 (.el (En.sysP p n t f) 0)) (dA (Zz (off:=0) (.tmp 8) rfl) I0 (dA (fe 32 9 U105 1) I0 (dA (lE (En.lkS p.top (Ns.cntE p n f).toNat) 10 U103) I0 (dA (fe 0 4 U70 1) I0 (dA (lE (iv sx) 12 U3) I0 (dC (xS (sx.toNat*1) 11 13 U103) I0 I0 (dA (lE (Jd.lkA p.top c.sh c.st.length) 14 U95 (En.links_at hx2 hn)) I0 (dA (fe 1 5 U35 1) I0 (dA (lE (iv i) 16 U3) I0 (dC (xS (i*3) 15 17 U95) I0 I0 (dA (ZC (z:=3) (.tmp 18) rfl U92 rfl (by kernel_rfl) (En.lk_el (by omega)) rfl) I0 (dR (Yl (z := .agg #[.int .i64 0,.int .i64 0,.int .i64 0]) (k:=1) rfl (by kernel_rfl)) T0 T0 rfl (dR (sB 3 7 (.tmp 19) (.agg ([iv (Jd.lkF p.top c.sh c.st.length i),iv (Jd.lkS p.top c.sh c.st.length i),iv (En.lkP p.top c.sh c.st.length i)]))) ⟨I0,I0,T0⟩ ⟨rfl,T0⟩ rfl (dE ?_))))))))))))))) (by kernel_rfl)
 show ETri J w0 _ _ _
 refine kW 63 [(1,.box 92 ([iv (Jd.lkF p.top c.sh c.st.length i),iv (Jd.lkS p.top c.sh c.st.length i),iv (En.lkP p.top c.sh c.st.length i)]))] [(0,.el (En.sysP p n t f) 0),(5,.el ([iv r,iv i,iv kp]) 0),(6,bF),(7,.box 1 0)] (Zc (Zb (Zb ?_)))
 refine Zs (dM (mT 0 (.el (En.sysP p n t f) 0)) (dA (Zz (off:=0) (.tmp 20) rfl) I0 (dA (fe 0 21 U105 10) I0 (dA (fe 9 22 U27 1) I0 (dA (lE (slA 18 cRu p.rules) 23 U25) I0 (dA (fe 0 5 U35 1) I0 (dA (lE (iv r) 25 U3) I0 (dC (xS (r*18) 24 26 U25) I0 I0 (dA (fe (r*18+17) 27 U57 1) I0 (dA (lE (iv p.rules[r].dir) 28 U3 ((ZH lenRu p.rules r 17 (by omega) (by decide)).trans rfl)) I0 (dE ?_))))))))))) (by kernel_rfl)
 show ETri J w0 _ _ _
 refine kW 63 [(1,.box 92 ([iv (Jd.lkF p.top c.sh c.st.length i),iv (Jd.lkS p.top c.sh c.st.length i),iv (En.lkP p.top c.sh c.st.length i)]))] [(5,.el ([iv r,iv i,iv kp]) 0),(6,bF),(7,.box 1 0),(29,iv p.rules[r].dir)] (Zc (Zy (Zb ?_)))
 by_cases hs1:p.rules[r].dir=1
 refine Za (oC (Zp rfl (dT hs1)) I0 I0 (pM (aT 31 bT) (Zd (Zc (Zm rfl (Zb (Za (oA (fe 2 5 U35 1) I0 (oA (lE (iv kp) 32 U3) I0 (oA (fb 1 7 U92 1) I0 (oB (lb (iv (Jd.lkS p.top c.sh c.st.length i)) 34 U3) I0 rfl (oC (Zp rfl rfl) I0 I0 (pM (aT 36 (bv (decide (kp=(Jd.lkS p.top c.sh c.st.length i))))) (Zd (Zc (Zl (Zu (Zf ?_))))))))))))))))))
 refine Zh Tryz.results52 (.tmp rfl) ?_
 exact congrArg (fun x:Bool=>AV.v (.bool x)) ((by unfold En.psB;rw [if_pos hs1]))
 refine Za (oC (Zp rfl (dF hs1)) I0 I0 (pM (aT 31 bF) (Zd (Zc (Zn rfl (Zb ?_))))))
 by_cases hs2:p.rules[r].dir=2
 refine Za (oC (Zp rfl (dT hs2)) I0 I0 (pM (aT 38 bT) (Zd (Zc (Zm rfl (Zb (Za (oA (fe 2 5 U35 1) I0 (oA (lE (iv kp) 39 U3) I0 (oA (fb 0 7 U92 1) I0 (oB (lb (iv (Jd.lkF p.top c.sh c.st.length i)) 41 U3) I0 rfl (oC (Zp rfl rfl) I0 I0 (pM (aT 43 (bv (decide (kp=(Jd.lkF p.top c.sh c.st.length i))))) (Zd (Zc (Zl (Zu (Zf ?_))))))))))))))))))
 refine Zh Tryz.results52 (.tmp rfl) ?_
 exact congrArg (fun x:Bool=>AV.v (.bool x)) ((by unfold En.psB;rw [if_neg hs1,if_pos hs2]))
 refine Za (oC (Zp rfl (dF hs2)) I0 I0 (pM (aT 38 bF) (Zd (Zc (Zn rfl (Zb ?_))))))
 by_cases hs3:p.rules[r].dir=3
 refine Za (oC (Zp rfl (dT hs3)) I0 I0 (pM (aT 45 bT) (Zd (Zc (Zm rfl (Zb ?_))))))
 by_cases hs4:kp=(Jd.lkF p.top c.sh c.st.length i)
 refine Za (oA (fe 2 5 U35 1) I0 (oA (lE (iv kp) 46 U3) I0 (oA (fb 0 7 U92 1) I0 (oB (lb (iv (Jd.lkF p.top c.sh c.st.length i)) 48 U3) I0 rfl (oC (Zp rfl (dT hs4)) I0 I0 (pM (mT 50 bT) (qK (qK (qK (qK (qK (pP (pk true bT (.v (.tuple #[])) rfl) (pM (aT 57 bT) (Zd (Zc (Zl (Zu (Zf ?_))))))))))))))))))
 refine Zh Tryz.results52 (.tmp rfl) ?_
 exact congrArg (fun x:Bool=>AV.v (.bool x)) ((by unfold En.psB;rw [if_neg hs1,if_neg hs2,if_pos hs3];simp only [dT hs4,decide_true,decide_false,Bool.and_true,Bool.true_and,Bool.false_and,Bool.and_false,Bool.true_or,Bool.false_or,Bool.or_true,Bool.or_false,Bool.not_true,Bool.not_false]))
 refine Za (oA (fe 2 5 U35 1) I0 (oA (lE (iv kp) 46 U3) I0 (oA (fb 0 7 U92 1) I0 (oB (lb (iv (Jd.lkF p.top c.sh c.st.length i)) 48 U3) I0 rfl (oC (Zp rfl (dF hs4)) I0 I0 (pM (mT 50 bF) (gA (fe 2 5 U35 1) I0 (gA (lE (iv kp) 52 U3) I0 (gA (fb 1 7 U92 1) I0 (gB (lb (iv (Jd.lkS p.top c.sh c.st.length i)) 54 U3) I0 rfl (gC (Zp rfl rfl) I0 I0 (pP (pk false bT (bv (decide (kp=(Jd.lkS p.top c.sh c.st.length i)))) rfl) (pM (aT 57 (bv (decide (kp=(Jd.lkS p.top c.sh c.st.length i))))) (Zd (Zc (Zl (Zu (Zf ?_))))))))))))))))))
 refine Zh Tryz.results52 (.tmp rfl) ?_
 exact congrArg (fun x:Bool=>AV.v (.bool x)) ((by unfold En.psB;rw [if_neg hs1,if_neg hs2,if_pos hs3];simp only [dF hs4,decide_true,decide_false,Bool.and_true,Bool.true_and,Bool.false_and,Bool.and_false,Bool.true_or,Bool.false_or,Bool.or_true,Bool.or_false,Bool.not_true,Bool.not_false]))
 refine Za (oC (Zp rfl (dF hs3)) I0 I0 (pM (aT 45 bF) (Zd (Zc (Zn rfl (Zi (ZL (Zc (Zb (Za (oA (fe 2 5 U35 1) I0 (oA (lE (iv kp) 58 U3) I0 (oA (fb 2 7 U92 1) I0 (oB (lb (iv (En.lkP p.top c.sh c.st.length i)) 60 U3) I0 rfl (oC (Zp rfl rfl) I0 I0 (pM (aT 62 (bv (decide (kp=(En.lkP p.top c.sh c.st.length i))))) (Zd (Zc (Zl ?_)))))))))))))))))))
 refine Zh Tryz.results52 (.tmp rfl) ?_
 exact congrArg (fun x:Bool=>AV.v (.bool x)) ((by unfold En.psB;rw [if_neg hs1,if_neg hs2,if_neg hs3]))
end Go.Proofs.YtmobmhgobpipkaaGreat
