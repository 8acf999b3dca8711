import Derived.Test.YtengacodacejiaaGrpgmllbgef
import Derived.Test.YtengacodacejiaaGrpdbddaiob
import Derived.Test.YtengacodacejiaaGrpaajmcegn
import Derived.Test.YtengacodacejiaaGrpecfdemen
import Derived.Test.YtengacodacejiaaGrpjicnfjoo
import Derived.Test.YtengacodacejiaaGrpogdnddpc
import Derived.Test.YtengacodacejiaaGrpflkjneac
import Derived.Test.YtengacodacejiaaGrppdihiibb
import Derived.Test.YtengacodacejiaaGrpdladfmom
import Derived.Test.YtengacodacejiaaGrpglmclemb
import Derived.Test.YtengacodacejiaaGrpmdopolij
set_option linter.all false
namespace Go.Proofs.Ytengacodacejiaa
open Go.RowKit Go.Deep
namespace Mo
def more (c:Cf) (z:Int):Cf:=⟨c.sh,c.st++[z],c.cor+1,c.se,c.fa,c.val⟩
theorem cov_in {p:Fm} (h:clCo p=true):p.top=1∧p.fault=0∧p.msgs=[]∧p.res=[]∧∀ r∈p.rules,r.fa=[]:=by
  unfold clCo plainQ at h
  simp only [Bool.and_eq_true,Bool.not_eq_true',decide_eq_true_eq,List.any_eq_false] at h
  obtain ⟨⟨⟨⟨h1,h2⟩,h3⟩,h4⟩,h5⟩:=h
  refine ⟨h1,h2,List.eq_nil_of_length_eq_zero h3,List.eq_nil_of_length_eq_zero h4,fun r hr => ?_⟩
  have:=h5 r hr
  unfold demB at this
  simp only [decide_eq_true_eq,Nat.not_lt] at this
  exact List.eq_nil_of_length_eq_zero (by omega)
theorem getD_app {l:List Int} {z:Int} {i:Nat} (h:i<l.length):(l++[z]).getD i 0=l.getD i 0:=by
  rw [List.getD_eq_getElem?_getD,List.getD_eq_getElem?_getD,List.getElem?_append_left h]
theorem isP_app {m:Nat} {i:Int} (h:En.isP m i=true):En.isP (m+1) i=true∧0≤i∧i.toNat<m:=by
  have:=En.isP_in h
  unfold En.isP
  rw [decide_eq_true (by omega),decide_eq_true (by omega)]
  exact ⟨rfl,by omega,by omega⟩
theorem pt_more {c:Cf} {z:Int} {r:Ru} {i:Nat} {k:Int} (h:En.ptB c r i k=true):En.ptB (more c z) r i k=true:=by
  unfold En.ptB at h ⊢
  split
  · rename_i hk
    rw [if_pos hk] at h
    rw [Bool.and_eq_true,Bool.and_eq_true] at h ⊢
    obtain ⟨⟨h1,h2⟩,h3⟩:=h
    have:=isP_app h1
    refine ⟨⟨?_,h2⟩,?_⟩
    · show En.isP (c.st++[z]).length k=true
      rw [List.length_append];exact this.1
    show decide ((c.st++[z]).getD k.toNat 0=r.pf)=true
    rw [getD_app this.2.2];exact h3
  rename_i hk
  rw [if_neg hk] at h
  exact h
theorem ex_more {c:Cf} {z:Int} {r:Ru} {i J:Nat} (hJ:J≤c.st.length) (h:En.exU c r i J=true):∀ K,J≤K→En.exU (more c z) r i K=true:=by
  intro K hK
  unfold En.exU at h ⊢
  rw [Bool.or_eq_true] at h ⊢
  rcases h with h | h
  · exact .inl h
  obtain ⟨j,hj,h⟩:=List.any_eq_true.1 h
  have hj':=List.mem_range.1 hj
  refine .inr (List.any_eq_true.2 ⟨j,List.mem_range.2 (by omega),?_⟩)
  unfold En.exY at h ⊢
  show (!decide (j=i)&&decide ((c.st++[z]).getD j 0∈r.ex))=true
  rw [getD_app (by omega)];exact h
theorem lo_more {n t f n' t' f':Int} {c:Cf} {z:Int} {r:Ru} {g g':Nat→Int} {i:Nat} (hg:r.guards=[]) (hf:r.fa=[]) (h:En.loB n t f c r g i=true):En.loB n' t' f' (more c z) r g' i=true:=by
  unfold En.loB at h ⊢
  rw [Bool.and_eq_true,Bool.and_eq_true,Bool.and_eq_true] at h ⊢
  obtain ⟨h1,_,_,h4⟩:=h
  refine ⟨h1,by rw [hg];rfl,?_,?_⟩
  · rw [Bool.not_eq_true',List.any_eq_false]
    intro j _
    unfold En.faN
    rw [hf];simp
  exact ex_more (Nat.le_refl _) h4 _ (by show _≤(c.st++[z]).length;rw [List.length_append];omega)
theorem en_more {p:Fm} {n t f n' t' f':Int} {c:Cf} {z:Int} {g g':Nat→Int} {x y k:Int} (hcov:clCo p=true) (hv:valE p=0) (h:En.enB p n t f c g x y k=true):En.enB p n' t' f' (more c z) g' x y k=true:=by
  obtain ⟨h1,h2,h3,h4,h5⟩:=cov_in hcov
  unfold En.enB at h ⊢
  rw [Bool.and_eq_true,Bool.and_eq_true] at h ⊢
  obtain ⟨a,b,e⟩:=h
  have hx:=En.isP_in a
  have hy:=isP_app b
  have hr:x.toNat<p.rules.length:=by omega
  have er:p.rules.getD x.toNat default=p.rules[x.toNat]:=by rw [List.getD_eq_getElem?_getD,List.getElem?_eq_getElem hr];rfl
  rw [er] at e ⊢
  have R:=En.val_in hv (List.getElem_mem hr)
  have hgd:p.rules[x.toNat].guards=[]:=by
    cases hgs:p.rules[x.toNat].guards with
    | nil=>rfl
    | cons q l =>
      have:=R.gd q (by rw [hgs];simp)
      rw [h3] at this
      simp at this
      omega
  have hk:p.rules[x.toNat].kind≤3:=R.kt.2 h1
  refine ⟨a,by show En.isP (c.st++[z]).length y=true;rw [List.length_append];exact hy.1,?_⟩
  unfold En.enR at e ⊢
  rw [Bool.and_eq_true,Bool.and_eq_true] at e ⊢
  obtain ⟨e1,e2,e3⟩:=e
  refine ⟨?_,pt_more e2,?_⟩
  · show decide ((c.st++[z]).getD y.toNat 0=_)=true
    rw [getD_app hy.2.2];exact e1
  by_cases k1:p.rules[x.toNat].kind=1
  · rw [if_pos k1] at e3 ⊢
    exact lo_more hgd (h5 _ (List.getElem_mem hr)) e3
  rw [if_neg k1,if_neg (by omega),if_neg (by omega)] at e3 ⊢
  exact e3
theorem adm_more {p:Fm} {n t f:Int} (hcov:clCo p=true) (h:admB p n t f=true) (h8:n<8):admB p (n+1) 0 0=true∧f=0:=by
  obtain ⟨h1,h2,h3,h4,h5⟩:=cov_in hcov
  unfold admB resvB inB at h ⊢
  rw [h4] at h ⊢
  simp only [Bool.and_eq_true,decide_eq_true_eq,List.all_nil] at h ⊢
  simp [h2] at h ⊢
  omega
theorem bel_snoc {l:List Int} {z m:Int} (h:Rd.belB l m=true) (hz:0≤z∧z<m):Rd.belB (l++[z]) m=true:=by
  unfold Rd.belB at h ⊢
  rw [Bool.not_eq_true'] at h ⊢
  rw [List.any_append,h]
  simp [Rd.outB]
  omega
theorem vc_more {p:Fm} {n t f:Int} {c:Cf} {z:Int} (hcov:clCo p=true) (h:Rd.vcE p n t f c=0) (h8:n<8) (hz:0≤z∧z<p.states.length):Rd.vcE p (n+1) 0 0 (more c z)=0:=by
  obtain ⟨hs,hx⟩:=En.vc_ok h
  obtain ⟨hv,ha,_⟩:=Ns.sys_ok hs
  have hcv:=cov_in hcov
  obtain ⟨ha',hf⟩:=adm_more hcov ha h8
  have hs':Ns.sysE p (n+1) 0 0=0:=by
    unfold Ns.sysE
    rw [if_pos hv,if_pos ha',if_neg (by omega)]
  have hx':Rd.rdX p (n+1) 0 (more c z)=true:=by
    unfold Rd.rdX Rd.rdB at hx ⊢
    simp only [Bool.and_eq_true] at hx ⊢
    obtain ⟨⟨⟨⟨⟨⟨⟨⟨⟨a1,a2⟩,a3⟩,a4⟩,a5⟩,a6⟩,a7⟩,a8⟩,a9⟩,a10⟩:=hx
    have hc:Ns.cntE p n f=n:=by unfold Ns.cntE;rw [if_neg (by omega)]
    have hc':Ns.cntE p (n+1) 0=n+1:=by unfold Ns.cntE;rw [if_neg (by omega)]
    rw [hc,decide_eq_true_iff] at a2
    rw [hc] at a1
    rw [hc']
    rw [decide_eq_true_iff] at a4
    rw [Rd.shB_no (by omega)] at a1
    rw [Rd.shB_no (by omega)]
    refine ⟨⟨⟨⟨⟨⟨⟨⟨⟨a1,?_⟩,bel_snoc a3 hz⟩,?_⟩,a5⟩,a6⟩,a7⟩,a8⟩,a9⟩,a10⟩
    · rw [decide_eq_true_iff]
      show (((c.st++[z]).length:Nat):Int)=n+1
      rw [List.length_append]
      simp
      omega
    rw [decide_eq_true_iff]
    show c.cor+1=n+1-0
    omega
  unfold Rd.vcE
  rw [if_pos hs',if_pos hx']
end Mo
variable {J:World→Prop}
end Go.Proofs.Ytengacodacejiaa
namespace Go.Proofs.Ytengacodacejiaa
open Go.RowKit Go.Deep
section
variable {P:Program} {J:World→Prop} {o:Oper}
theorem sp_conv {src dst:TypeId} {x:Operand} {k k':IntKind} {n c:Int} {d:TypeDesc} (ho:o.op = .convert src dst x) (hs:P.underlying src=some d) (hd:P.underlying dst=some (.int k')) (hc:k'.wrap n=c):ASpec P J o [(x,.v (.int k n))] [] (.v (.int k' c)) .no :=
  ZY fun ρ B a w _ ha _=>by
    subst hc
    have h1:=(ha (x,.v (.int k n)) (by simp)).v_inv
    refine ⟨_,?_,.pu (.v _)⟩
    simp only [execOp,ho,h1]
    exact Yh (by simp [convert,run_underlying hs,run_underlying hd,Conv.intToInt])
end
def uN (n:Int):Int:=IntKind.u64.wrap n
theorem uN_nonneg (n:Int):0≤uN n:=Int.emod_nonneg _ (by decide)
theorem u64_small {x:Nat} (h:x≤100):IntKind.u64.wrap (x:Int)=x:=by
  show (x:Int) % 18446744073709551616=x;omega
theorem i64_small {x:Nat} (h:x≤100):IntKind.i64.wrap (x:Int)=x:=by
  show (if (true&&decide ((x:Int) % 18446744073709551616≥9223372036854775808))=true then (x:Int) % 18446744073709551616-18446744073709551616 else (x:Int) % 18446744073709551616)=x
  rw [if_neg (by simp;omega)];omega
theorem rulesE_all {q:Fm}:∀ (f i:Nat),rulesE q i f=0→∀ k,i≤k→k<i+f→ruleE q k (q.rules.getD k default)=0
  | 0,i,_,k,a,b=>absurd b (by omega)
  | f+1,i,e,k,a,b=>by
    unfold rulesE at e
    split at e
    · rename_i e1
      by_cases x:i=k
      · subst x;exact e1
      exact rulesE_all f (i+1) e k (by omega) (by omega)
    exact absurd e (by assumption)
variable {J:World→Prop}
end Go.Proofs.Ytengacodacejiaa
namespace Go.Proofs.Ytengacodacejiaa
open Go.RowKit Go.Deep
namespace Mo
def zS (p:Fm) (s:Int):Nat:=(uN s).toNat % p.states.length
theorem st_pos {p:Fm} (h:valE p=0):0<p.states.length:=by
  unfold valE at h
  split at h
  · cases h
  split at h
  · cases h
  split at h
  · cases h
  omega
theorem zS_lt {p:Fm} (s:Int) (h:valE p=0):zS p s<p.states.length:=Nat.mod_lt _ (st_pos h)
theorem zS_in {p:Fm} (s:Int) (h:valE p=0):0≤((zS p s:Nat):Int)∧((zS p s:Nat):Int)<p.states.length:=by
  have:=zS_lt s h;omega
theorem zS_rem {p:Fm} (s:Int):(uN s).tmod ((p.states.length:Nat):Int)=(zS p s:Nat):=by
  have h:=uN_nonneg s
  rw [Int.tmod_eq_emod_of_nonneg h]
  unfold zS
  rw [Int.natCast_emod,Int.toNat_of_nonneg h]
theorem ok_more {p:Fm} (HL:FamLen p) {n t f:Int} {c:Cf} (HC:Rd.CgOk c) (hcov:clCo p=true) (hz:Rd.vcE p n t f c=0) (h8:n<8) {z:Int} (hi:0≤z∧z<p.states.length):Rd.CgOk (more c z):=by
  have hl:c.st.length≤99:=by
    have h1:=(En.cf_in (En.vc_ok hz).2).ln
    have h2:=cov_in hcov
    unfold Ns.cntE at h1
    rw [if_neg (by omega)] at h1
    omega
  have h60:=HL.states
  refine ⟨HC.sh,fun x hx => ?_,HC.se,HC.fa,HC.lsh,?_,HC.lse,HC.lfa⟩
  · rcases List.mem_append.1 hx with h | h
    · exact HC.st x h
    rw [List.mem_singleton.1 h];unfold I64;omega
  show (c.st++[z]).length≤100
  rw [List.length_append];simp;omega
end Mo
variable {J:World→Prop}
def clA (q:Fm):List AV:=[bv (decide (valE q=0)&&clTh q),bv (decide (valE q=0)&&clCo q),bv (decide (valE q=0)&&clWo q),bv (decide (valE q=0)&&clTr q),bv (decide (valE q=0)&&clMo q)]
def plI (q:Fm):Bool:=((decide (q.top=1)&&decide (q.fault=0))&&decide (((q.msgs.length:Nat):Int)=0))&&decide (((q.res.length:Nat):Int)=0)
theorem plI_eq (q:Fm):plI q=plainQ q:=by
  rw [Bool.eq_iff_iff];unfold plI plainQ;simp only [Bool.and_eq_true,decide_eq_true_eq];omega
def thI0 (q:Fm):Bool:=decide (q.top=1)&&decide (((q.vals.length:Nat):Int)=0)
def moI (q:Fm):Bool:=plI q&&decide (((q.states.length:Nat):Int)≤4)
def woI (q:Fm):Bool:=decide (q.top=2)||decide (q.top=3)
def trI (q:Fm):Bool:=decide (q.top=4)
def noIc (r:Ru):Bool:=((!decide (r.kind=1)||decide (r.to≤r.frm))||decide ((0:Int)<((r.ex.length:Nat):Int)))||decide ((0:Int)<((r.fa.length:Nat):Int))
theorem noI_eq (r:Ru):noIc r=noThrB r:=by
  rw [Bool.eq_iff_iff];unfold noIc noThrB;simp only [Bool.or_eq_true,Bool.not_eq_true',decide_eq_true_eq,decide_eq_false_iff_not];omega
def cT (q:Fm) (k:Nat):Bool:=thI0 q && !(q.rules.take k).any noThrB
def cC (q:Fm) (k:Nat):Bool:=plI q && !(q.rules.take k).any demB
theorem cT_zero (q:Fm):cT q 0=thI0 q:=by unfold cT;simp
theorem cC_zero (q:Fm):cC q 0=plI q:=by unfold cC;simp
theorem any_snoc {α:Type} {p:α→Bool} {xs:List α} {k:Nat} (h:k<xs.length):(xs.take (k+1)).any p=((xs.take k).any p||p xs[k]):=by
  rw [List.take_succ_eq_append_getElem h,List.any_append];simp
theorem cT_t {q:Fm} {k:Nat} (h:k<q.rules.length) (e:noIc q.rules[k]=true):cT q (k+1)=false:=by
  unfold cT;rw [any_snoc h,← noI_eq,e];simp
theorem cT_f {q:Fm} {k:Nat} (h:k<q.rules.length) (e:noIc q.rules[k]=false):cT q (k+1)=cT q k:=by
  unfold cT;rw [any_snoc h,← noI_eq,e];simp
theorem dem_iff {r:Ru}:demB r=decide ((0:Int)<((r.fa.length:Nat):Int)):=by unfold demB;rw [Bool.eq_iff_iff];simp only [decide_eq_true_eq];omega
theorem cC_t {q:Fm} {k:Nat} (h:k<q.rules.length) (e:(0:Int)<((q.rules[k].fa.length:Nat):Int)):cC q (k+1)=false:=by
  unfold cC;rw [any_snoc h,dem_iff,decide_eq_true e];simp
theorem cC_f {q:Fm} {k:Nat} (h:k<q.rules.length) (e:¬ (0:Int)<((q.rules[k].fa.length:Nat):Int)):cC q (k+1)=cC q k:=by
  unfold cC;rw [any_snoc h,dem_iff,decide_eq_false e];simp
theorem cls_end {q:Fm} (h:valE q=0) {k:Nat} (hk:k=q.rules.length):AV.tup [.agg [bv (cT q k),bv (cC q k),bv (woI q),bv (trI q),bv (moI q)],iv 0] = .tup [.agg (clA q),iv (valE q)]:=by
  subst hk
  unfold clA
  rw [h]
  have e1:cT q q.rules.length=clTh q:=by
    unfold cT clTh thI0;rw [List.take_length,Bool.eq_iff_iff];simp only [Bool.and_eq_true,decide_eq_true_eq,Bool.not_eq_true']
    constructor
    · rintro ⟨⟨a,b⟩,c⟩;exact ⟨a,by omega,c⟩
    rintro ⟨a,b,c⟩;exact ⟨⟨a,by omega⟩,c⟩
  have e2:cC q q.rules.length=clCo q:=by unfold cC clCo;rw [List.take_length,plI_eq]
  have e3:moI q=clMo q:=by
    unfold moI clMo;rw [plI_eq,Bool.eq_iff_iff];simp only [Bool.and_eq_true,decide_eq_true_eq]
    constructor
    · rintro ⟨a,b⟩;exact ⟨a,by omega⟩
    rintro ⟨a,b⟩;exact ⟨a,by omega⟩
  rw [e1,e2,e3]
  rfl
theorem cls_err {q:Fm} (h:¬ valE q=0):AV.tup [.agg [bF,bF,bF,bF,bF],iv (valE q)] = .tup [.agg (clA q),iv (valE q)]:=by
  unfold clA;rw [decide_eq_false h];rfl
set_option maxRecDepth 100000 in
set_option maxHeartbeats 6400000 in
theorem rClassify_c {q:Fm} (HQ:FmOk q):Ctr Try.prog J 16 [.agg (cFm q)] (.tup [.agg (clA q),iv (valE q)]):=by
 have l4:=HQ.lrules
 refine ZJ Try.func16 rfl (by intro X hX;simp only [List.mem_cons,List.not_mem_nil,or_false] at hX;rcases hX with rfl;exact Zt (YN q)) (n:=105) rfl (by simp) (fun w0 => ?_)
 refine kW 105 [] [(0,.agg (cFm q))] (Zb (Za (ZQ rfl (YC (X := .agg (cFm q)) (k:=1) (.tmp 0) rfl rfl) ⟨I0,T0⟩ T0 rfl (ZQ rfl (Z0 (z := .agg #[.bool false,.bool false,.bool false,.bool false,.bool false]) (k:=2) rfl (by kernel_rfl)) T0 T0 rfl (pM (aC (.int .i64 0)) (Ze (Zc (Zb (Zb (Za (oB (lS (cFm q) 10 1 U27) I0 rfl (oC (sc #[.tmp 10] [] (rValidate_c HQ) [.agg (cFm q)] rfl rfl rfl) I0 I0 (pM (aT 11 (iv (valE q))) (Ze (Zc (Zb ?_))))))))))))))))
 by_cases hs1:valE q=0
 refine Za (pM (mT 4 (iv (valE q))) (oC (Zs rfl (dT' hs1)) I0 I0 (Ze (Zc (Zo rfl (Zn (Zc (Zb (Za (oA (fb 1 1 U27 1) I0 (oB (lb (iv q.top) 16 U3) I0 rfl (oC (Zp rfl rfl) I0 I0 (pM (aT 18 (bv (decide (q.top=1)))) (kN 105 [(1,.box 27 (cFm q)),(2,.box 57 [bF,bF,bF,bF,bF])] [(1,.box 1 0),(2,.box 2 0),(3,iv 0),(5,bv (decide (q.top=1)))] (Zc (Zb ?_))))))))))))))))
 refine Y6 (True) (ofL [(1,.box 27 (cFm q)),(2,.box 57 [bF,bF,bF,bF,bF])]) (ofT 105 [(1,.box 1 0),(2,.box 2 0),(3,iv 0),(5,bv (decide (q.top=1))),(6,bv (plI q))]) ?_ (fun _ => ?_)
 by_cases hs2:q.top=1
 rw [dT hs2]
 refine kW 105 [(1,.box 27 (cFm q)),(2,.box 57 [bF,bF,bF,bF,bF])] [(1,.box 1 0),(2,.box 2 0),(3,iv 0),(5,bT)] ?_
 by_cases hs3:q.fault=0
 by_cases hs4:((q.msgs.length:Nat):Int)=0
 refine Za (pM (mT 5 bT) (pM (mT 19 bT) (gA (fb 5 1 U27 1) I0 (gB (lb (iv q.fault) 21 U3) I0 rfl (gC (Zp rfl (dT hs3)) I0 I0 (pP (pk true bT bF rfl) (pM (mT 24 bT) (gA (fb 3 1 U27 1) I0 (gB (lb (Zw q.msgs) 26 U22) I0 rfl (gA (nS 27 U22) I0 (gC (Zp rfl (dT hs4)) I0 I0 (pP (pk true bT bF rfl) (pM (mT 30 bT) (gA (fb 6 1 U27 1) I0 (gB (lb (slA 4 cLn q.res) 32 U23) I0 rfl (gA (nS 33 U23) I0 (gC (Zp rfl rfl) I0 I0 (pP (pk true (bv (decide (((q.res.length:Nat):Int)=0))) bF rfl) (pM (aT 36 (bv (decide (((q.res.length:Nat):Int)=0)))) (kN 105 [(1,.box 27 (cFm q)),(2,.box 57 [bF,bF,bF,bF,bF])] [(1,.box 1 0),(2,.box 2 0),(3,iv 0),(5,bT),(6,bv (decide (((q.res.length:Nat):Int)=0)))] ?_))))))))))))))))))))
 rw [show (plI q)=(decide (((q.res.length:Nat):Int)=0)) by simp only [plI,Bool.or_true,Bool.true_or,Bool.or_false,Bool.false_or,Bool.and_true,Bool.true_and,Bool.and_false,Bool.false_and,Bool.not_true,Bool.not_false,decide_eq_true hs1,decide_eq_true hs2,decide_eq_true hs3,decide_eq_true hs4]]
 exact Zr T0 (Zj _ _ rfl (by kernel_rfl) (by kernel_rfl))
 refine Za (pM (mT 5 bT) (pM (mT 19 bT) (gA (fb 5 1 U27 1) I0 (gB (lb (iv q.fault) 21 U3) I0 rfl (gC (Zp rfl (dT hs3)) I0 I0 (pP (pk true bT bF rfl) (pM (mT 24 bT) (gA (fb 3 1 U27 1) I0 (gB (lb (Zw q.msgs) 26 U22) I0 rfl (gA (nS 27 U22) I0 (gC (Zp rfl (dF hs4)) I0 I0 (pP (pk true bF bF rfl) (pM (mT 30 bF) (qK (qK (qK (qK (pP (pk false (.v (.tuple #[])) bF rfl) (pM (aT 36 bF) (kN 105 [(1,.box 27 (cFm q)),(2,.box 57 [bF,bF,bF,bF,bF])] [(1,.box 1 0),(2,.box 2 0),(3,iv 0),(5,bT),(6,bF)] ?_))))))))))))))))))))
 rw [show (plI q)=false by simp only [plI,Bool.or_true,Bool.true_or,Bool.or_false,Bool.false_or,Bool.and_true,Bool.true_and,Bool.and_false,Bool.false_and,Bool.not_true,Bool.not_false,decide_eq_true hs1,decide_eq_true hs2,decide_eq_true hs3,decide_eq_false hs4]]
 exact Zr T0 (Zj _ _ rfl (by kernel_rfl) (by kernel_rfl))
 refine Za (pM (mT 5 bT) (pM (mT 19 bT) (gA (fb 5 1 U27 1) I0 (gB (lb (iv q.fault) 21 U3) I0 rfl (gC (Zp rfl (dF hs3)) I0 I0 (pP (pk true bF bF rfl) (pM (mT 24 bF) (qK (qK (qK (qK (pP (pk false (.v (.tuple #[])) bF rfl) (pM (mT 30 bF) (qK (qK (qK (qK (pP (pk false (.v (.tuple #[])) bF rfl) (pM (aT 36 bF) (kN 105 [(1,.box 27 (cFm q)),(2,.box 57 [bF,bF,bF,bF,bF])] [(1,.box 1 0),(2,.box 2 0),(3,iv 0),(5,bT),(6,bF)] ?_))))))))))))))))))))
 rw [show (plI q)=false by simp only [plI,Bool.or_true,Bool.true_or,Bool.or_false,Bool.false_or,Bool.and_true,Bool.true_and,Bool.and_false,Bool.false_and,Bool.not_true,Bool.not_false,decide_eq_true hs1,decide_eq_true hs2,decide_eq_false hs3]]
 exact Zr T0 (Zj _ _ rfl (by kernel_rfl) (by kernel_rfl))
 rw [dF hs2]
 refine kW 105 [(1,.box 27 (cFm q)),(2,.box 57 [bF,bF,bF,bF,bF])] [(1,.box 1 0),(2,.box 2 0),(3,iv 0),(5,bF)] (Za (pM (mT 5 bF) (pM (mT 19 bF) (qK (qK (qK (pP (pk false (.v (.tuple #[])) bF rfl) (pM (mT 24 bF) (qK (qK (qK (qK (pP (pk false (.v (.tuple #[])) bF rfl) (pM (mT 30 bF) (qK (qK (qK (qK (pP (pk false (.v (.tuple #[])) bF rfl) (pM (aT 36 bF) (kN 105 [(1,.box 27 (cFm q)),(2,.box 57 [bF,bF,bF,bF,bF])] [(1,.box 1 0),(2,.box 2 0),(3,iv 0),(5,bF),(6,bF)] ?_)))))))))))))))))))))
 rw [show (plI q)=false by simp only [plI,Bool.or_true,Bool.true_or,Bool.or_false,Bool.false_or,Bool.and_true,Bool.true_and,Bool.and_false,Bool.false_and,Bool.not_true,Bool.not_false,decide_eq_true hs1,decide_eq_false hs2]]
 exact Zr T0 (Zj _ _ rfl (by kernel_rfl) (by kernel_rfl))
 refine Zc (Zb ?_)
 refine Y6 (True) (ofL [(1,.box 27 (cFm q)),(2,.box 57 [bF,bF,bF,bF,bF]),(3,.box 57 [bv (thI0 q),bv (plI q),bv (woI q),bv (trI q),bv (moI q)])]) (ofT 105 [(1,.box 1 0),(2,.box 2 0),(3,iv 0),(7,.box 3 0)]) ?_ (fun _ => ?_)
 by_cases hs5:q.top=1
 rw [dT hs5]
 refine kW 105 [(1,.box 27 (cFm q)),(2,.box 57 [bF,bF,bF,bF,bF])] [(1,.box 1 0),(2,.box 2 0),(3,iv 0),(5,bT),(6,bv (plI q))] ?_
 by_cases hs6:(plI q)=true
 rw [hs6]
 refine kW 105 [(1,.box 27 (cFm q)),(2,.box 57 [bF,bF,bF,bF,bF])] [(1,.box 1 0),(2,.box 2 0),(3,iv 0),(5,bT),(6,bT)] ?_
 by_cases hs7:q.top=2
 refine Za (pM (mT 5 bT) (pM (mT 37 bT) (gA (fb 4 1 U27 1) I0 (gB (lb (Zw q.vals) 39 U22) I0 rfl (gA (nS 40 U22) I0 (gC (Zp rfl rfl) I0 I0 (pP (pk true (bv (decide (((q.vals.length:Nat):Int)=0))) bF rfl) (pM (mT 6 bT) (pM (mT 6 bT) (pM (mT 45 bT) (gA (fb 2 1 U27 1) I0 (gB (lb (Zw q.states) 47 U22) I0 rfl (gA (nS 48 U22) I0 (gC (sp_leq rfl rfl) I0 I0 (pP (pk true (bv (decide (((q.states.length:Nat):Int)≤4))) bF rfl) (oA (fb 1 1 U27 1) I0 (oB (lb (iv q.top) 52 U3) I0 rfl (oC (Zp rfl (dT hs7)) I0 I0 (pM (mT 54 bT) (qK (qK (qK (pP (pk true bT (.v (.tuple #[])) rfl) ?_)))))))))))))))))))))))
 refine oA (fb 1 1 U27 1) I0 (oB (lb (iv q.top) 60 U3) I0 rfl (oC (Zp rfl rfl) I0 I0 (ZQ rfl (YM [(.tmp 43,.bool (decide (((q.vals.length:Nat):Int)=0))),(.tmp 44,.bool true),(.tmp 51,.bool (decide (((q.states.length:Nat):Int)≤4))),(.tmp 59,.bool true),(.tmp 62,.bool (decide (q.top=4)))] #[.bool (decide (((q.vals.length:Nat):Int)=0)),.bool true,.bool true,.bool (decide (q.top=4)),.bool (decide (((q.states.length:Nat):Int)≤4))] rfl rfl (by kernel_rfl) rfl) ⟨I0,I0,I0,I0,I0,T0⟩ T0 T0 (ZQ rfl (Z0 (z := .agg #[.bool false,.bool false,.bool false,.bool false,.bool false]) (k:=3) rfl (by kernel_rfl)) T0 T0 rfl (ZQ rfl (sB 5 7 (.tmp 63) (.agg [bv (decide (((q.vals.length:Nat):Int)=0)),bT,bT,bv (decide (q.top=4)),bv (decide (((q.states.length:Nat):Int)≤4))])) ⟨I0,I0,T0⟩ ⟨rfl,T0⟩ rfl (kN 105 [(1,.box 27 (cFm q)),(2,.box 57 [bF,bF,bF,bF,bF]),(3,.box 57 [bv (decide (((q.vals.length:Nat):Int)=0)),bT,bT,bv (decide (q.top=4)),bv (decide (((q.states.length:Nat):Int)≤4))])] [(1,.box 1 0),(2,.box 2 0),(3,iv 0),(7,.box 3 0)] ?_))))))
 try rw [show (thI0 q)=(decide (((q.vals.length:Nat):Int)=0)) by simp only [thI0,Bool.or_true,Bool.true_or,Bool.or_false,Bool.false_or,Bool.and_true,Bool.true_and,Bool.and_false,Bool.false_and,Bool.not_true,Bool.not_false,decide_eq_true hs1,decide_eq_true hs5,hs6,decide_eq_true hs7]]
 try rw [show (plI q)=true by simp only [plI,Bool.or_true,Bool.true_or,Bool.or_false,Bool.false_or,Bool.and_true,Bool.true_and,Bool.and_false,Bool.false_and,Bool.not_true,Bool.not_false,decide_eq_true hs1,decide_eq_true hs5,hs6,decide_eq_true hs7]]
 try rw [show (woI q)=true by simp only [woI,Bool.or_true,Bool.true_or,Bool.or_false,Bool.false_or,Bool.and_true,Bool.true_and,Bool.and_false,Bool.false_and,Bool.not_true,Bool.not_false,decide_eq_true hs1,decide_eq_true hs5,hs6,decide_eq_true hs7]]
 try rw [show (trI q)=(decide (q.top=4)) by simp only [trI,Bool.or_true,Bool.true_or,Bool.or_false,Bool.false_or,Bool.and_true,Bool.true_and,Bool.and_false,Bool.false_and,Bool.not_true,Bool.not_false,decide_eq_true hs1,decide_eq_true hs5,hs6,decide_eq_true hs7]]
 try rw [show (moI q)=(decide (((q.states.length:Nat):Int)≤4)) by simp only [moI,Bool.or_true,Bool.true_or,Bool.or_false,Bool.false_or,Bool.and_true,Bool.true_and,Bool.and_false,Bool.false_and,Bool.not_true,Bool.not_false,decide_eq_true hs1,decide_eq_true hs5,hs6,decide_eq_true hs7]]
 exact Zr T0 (Zj _ _ rfl (by kernel_rfl) (by kernel_rfl))
 refine Za (pM (mT 5 bT) (pM (mT 37 bT) (gA (fb 4 1 U27 1) I0 (gB (lb (Zw q.vals) 39 U22) I0 rfl (gA (nS 40 U22) I0 (gC (Zp rfl rfl) I0 I0 (pP (pk true (bv (decide (((q.vals.length:Nat):Int)=0))) bF rfl) (pM (mT 6 bT) (pM (mT 6 bT) (pM (mT 45 bT) (gA (fb 2 1 U27 1) I0 (gB (lb (Zw q.states) 47 U22) I0 rfl (gA (nS 48 U22) I0 (gC (sp_leq rfl rfl) I0 I0 (pP (pk true (bv (decide (((q.states.length:Nat):Int)≤4))) bF rfl) (oA (fb 1 1 U27 1) I0 (oB (lb (iv q.top) 52 U3) I0 rfl (oC (Zp rfl (dF hs7)) I0 I0 (pM (mT 54 bF) (gA (fb 1 1 U27 1) I0 (gB (lb (iv q.top) 56 U3) I0 rfl (gC (Zp rfl rfl) I0 I0 (pP (pk false bT (bv (decide (q.top=3))) rfl) ?_)))))))))))))))))))))))
 refine oA (fb 1 1 U27 1) I0 (oB (lb (iv q.top) 60 U3) I0 rfl (oC (Zp rfl rfl) I0 I0 (ZQ rfl (YM [(.tmp 43,.bool (decide (((q.vals.length:Nat):Int)=0))),(.tmp 44,.bool true),(.tmp 51,.bool (decide (((q.states.length:Nat):Int)≤4))),(.tmp 59,.bool (decide (q.top=3))),(.tmp 62,.bool (decide (q.top=4)))] #[.bool (decide (((q.vals.length:Nat):Int)=0)),.bool true,.bool (decide (q.top=3)),.bool (decide (q.top=4)),.bool (decide (((q.states.length:Nat):Int)≤4))] rfl rfl (by kernel_rfl) rfl) ⟨I0,I0,I0,I0,I0,T0⟩ T0 T0 (ZQ rfl (Z0 (z := .agg #[.bool false,.bool false,.bool false,.bool false,.bool false]) (k:=3) rfl (by kernel_rfl)) T0 T0 rfl (ZQ rfl (sB 5 7 (.tmp 63) (.agg [bv (decide (((q.vals.length:Nat):Int)=0)),bT,bv (decide (q.top=3)),bv (decide (q.top=4)),bv (decide (((q.states.length:Nat):Int)≤4))])) ⟨I0,I0,T0⟩ ⟨rfl,T0⟩ rfl (kN 105 [(1,.box 27 (cFm q)),(2,.box 57 [bF,bF,bF,bF,bF]),(3,.box 57 [bv (decide (((q.vals.length:Nat):Int)=0)),bT,bv (decide (q.top=3)),bv (decide (q.top=4)),bv (decide (((q.states.length:Nat):Int)≤4))])] [(1,.box 1 0),(2,.box 2 0),(3,iv 0),(7,.box 3 0)] ?_))))))
 try rw [show (thI0 q)=(decide (((q.vals.length:Nat):Int)=0)) by simp only [thI0,Bool.or_true,Bool.true_or,Bool.or_false,Bool.false_or,Bool.and_true,Bool.true_and,Bool.and_false,Bool.false_and,Bool.not_true,Bool.not_false,decide_eq_true hs1,decide_eq_true hs5,hs6,decide_eq_false hs7]]
 try rw [show (plI q)=true by simp only [plI,Bool.or_true,Bool.true_or,Bool.or_false,Bool.false_or,Bool.and_true,Bool.true_and,Bool.and_false,Bool.false_and,Bool.not_true,Bool.not_false,decide_eq_true hs1,decide_eq_true hs5,hs6,decide_eq_false hs7]]
 try rw [show (woI q)=(decide (q.top=3)) by simp only [woI,Bool.or_true,Bool.true_or,Bool.or_false,Bool.false_or,Bool.and_true,Bool.true_and,Bool.and_false,Bool.false_and,Bool.not_true,Bool.not_false,decide_eq_true hs1,decide_eq_true hs5,hs6,decide_eq_false hs7]]
 try rw [show (trI q)=(decide (q.top=4)) by simp only [trI,Bool.or_true,Bool.true_or,Bool.or_false,Bool.false_or,Bool.and_true,Bool.true_and,Bool.and_false,Bool.false_and,Bool.not_true,Bool.not_false,decide_eq_true hs1,decide_eq_true hs5,hs6,decide_eq_false hs7]]
 try rw [show (moI q)=(decide (((q.states.length:Nat):Int)≤4)) by simp only [moI,Bool.or_true,Bool.true_or,Bool.or_false,Bool.false_or,Bool.and_true,Bool.true_and,Bool.and_false,Bool.false_and,Bool.not_true,Bool.not_false,decide_eq_true hs1,decide_eq_true hs5,hs6,decide_eq_false hs7]]
 exact Zr T0 (Zj _ _ rfl (by kernel_rfl) (by kernel_rfl))
 have hs6f:(plI q)=false:=by simpa using hs6
 rw [hs6f]
 refine kW 105 [(1,.box 27 (cFm q)),(2,.box 57 [bF,bF,bF,bF,bF])] [(1,.box 1 0),(2,.box 2 0),(3,iv 0),(5,bT),(6,bF)] ?_
 by_cases hs8:q.top=2
 refine Za (pM (mT 5 bT) (pM (mT 37 bT) (gA (fb 4 1 U27 1) I0 (gB (lb (Zw q.vals) 39 U22) I0 rfl (gA (nS 40 U22) I0 (gC (Zp rfl rfl) I0 I0 (pP (pk true (bv (decide (((q.vals.length:Nat):Int)=0))) bF rfl) (pM (mT 6 bF) (pM (mT 6 bF) (pM (mT 45 bF) (qK (qK (qK (qK (pP (pk false (.v (.tuple #[])) bF rfl) (oA (fb 1 1 U27 1) I0 (oB (lb (iv q.top) 52 U3) I0 rfl (oC (Zp rfl (dT hs8)) I0 I0 (pM (mT 54 bT) (qK (qK (qK (pP (pk true bT (.v (.tuple #[])) rfl) ?_)))))))))))))))))))))))
 refine oA (fb 1 1 U27 1) I0 (oB (lb (iv q.top) 60 U3) I0 rfl (oC (Zp rfl rfl) I0 I0 (ZQ rfl (YM [(.tmp 43,.bool (decide (((q.vals.length:Nat):Int)=0))),(.tmp 44,.bool false),(.tmp 51,.bool false),(.tmp 59,.bool true),(.tmp 62,.bool (decide (q.top=4)))] #[.bool (decide (((q.vals.length:Nat):Int)=0)),.bool false,.bool true,.bool (decide (q.top=4)),.bool false] rfl rfl (by kernel_rfl) rfl) ⟨I0,I0,I0,I0,I0,T0⟩ T0 T0 (ZQ rfl (Z0 (z := .agg #[.bool false,.bool false,.bool false,.bool false,.bool false]) (k:=3) rfl (by kernel_rfl)) T0 T0 rfl (ZQ rfl (sB 5 7 (.tmp 63) (.agg [bv (decide (((q.vals.length:Nat):Int)=0)),bF,bT,bv (decide (q.top=4)),bF])) ⟨I0,I0,T0⟩ ⟨rfl,T0⟩ rfl (kN 105 [(1,.box 27 (cFm q)),(2,.box 57 [bF,bF,bF,bF,bF]),(3,.box 57 [bv (decide (((q.vals.length:Nat):Int)=0)),bF,bT,bv (decide (q.top=4)),bF])] [(1,.box 1 0),(2,.box 2 0),(3,iv 0),(7,.box 3 0)] ?_))))))
 try rw [show (thI0 q)=(decide (((q.vals.length:Nat):Int)=0)) by simp only [thI0,Bool.or_true,Bool.true_or,Bool.or_false,Bool.false_or,Bool.and_true,Bool.true_and,Bool.and_false,Bool.false_and,Bool.not_true,Bool.not_false,decide_eq_true hs1,decide_eq_true hs5,hs6f,decide_eq_true hs8]]
 try rw [show (plI q)=false by simp only [plI,Bool.or_true,Bool.true_or,Bool.or_false,Bool.false_or,Bool.and_true,Bool.true_and,Bool.and_false,Bool.false_and,Bool.not_true,Bool.not_false,decide_eq_true hs1,decide_eq_true hs5,hs6f,decide_eq_true hs8]]
 try rw [show (woI q)=true by simp only [woI,Bool.or_true,Bool.true_or,Bool.or_false,Bool.false_or,Bool.and_true,Bool.true_and,Bool.and_false,Bool.false_and,Bool.not_true,Bool.not_false,decide_eq_true hs1,decide_eq_true hs5,hs6f,decide_eq_true hs8]]
 try rw [show (trI q)=(decide (q.top=4)) by simp only [trI,Bool.or_true,Bool.true_or,Bool.or_false,Bool.false_or,Bool.and_true,Bool.true_and,Bool.and_false,Bool.false_and,Bool.not_true,Bool.not_false,decide_eq_true hs1,decide_eq_true hs5,hs6f,decide_eq_true hs8]]
 try rw [show (moI q)=false by simp only [moI,Bool.or_true,Bool.true_or,Bool.or_false,Bool.false_or,Bool.and_true,Bool.true_and,Bool.and_false,Bool.false_and,Bool.not_true,Bool.not_false,decide_eq_true hs1,decide_eq_true hs5,hs6f,decide_eq_true hs8]]
 exact Zr T0 (Zj _ _ rfl (by kernel_rfl) (by kernel_rfl))
 refine Za (pM (mT 5 bT) (pM (mT 37 bT) (gA (fb 4 1 U27 1) I0 (gB (lb (Zw q.vals) 39 U22) I0 rfl (gA (nS 40 U22) I0 (gC (Zp rfl rfl) I0 I0 (pP (pk true (bv (decide (((q.vals.length:Nat):Int)=0))) bF rfl) (pM (mT 6 bF) (pM (mT 6 bF) (pM (mT 45 bF) (qK (qK (qK (qK (pP (pk false (.v (.tuple #[])) bF rfl) (oA (fb 1 1 U27 1) I0 (oB (lb (iv q.top) 52 U3) I0 rfl (oC (Zp rfl (dF hs8)) I0 I0 (pM (mT 54 bF) (gA (fb 1 1 U27 1) I0 (gB (lb (iv q.top) 56 U3) I0 rfl (gC (Zp rfl rfl) I0 I0 (pP (pk false bT (bv (decide (q.top=3))) rfl) ?_)))))))))))))))))))))))
 refine oA (fb 1 1 U27 1) I0 (oB (lb (iv q.top) 60 U3) I0 rfl (oC (Zp rfl rfl) I0 I0 (ZQ rfl (YM [(.tmp 43,.bool (decide (((q.vals.length:Nat):Int)=0))),(.tmp 44,.bool false),(.tmp 51,.bool false),(.tmp 59,.bool (decide (q.top=3))),(.tmp 62,.bool (decide (q.top=4)))] #[.bool (decide (((q.vals.length:Nat):Int)=0)),.bool false,.bool (decide (q.top=3)),.bool (decide (q.top=4)),.bool false] rfl rfl (by kernel_rfl) rfl) ⟨I0,I0,I0,I0,I0,T0⟩ T0 T0 (ZQ rfl (Z0 (z := .agg #[.bool false,.bool false,.bool false,.bool false,.bool false]) (k:=3) rfl (by kernel_rfl)) T0 T0 rfl (ZQ rfl (sB 5 7 (.tmp 63) (.agg [bv (decide (((q.vals.length:Nat):Int)=0)),bF,bv (decide (q.top=3)),bv (decide (q.top=4)),bF])) ⟨I0,I0,T0⟩ ⟨rfl,T0⟩ rfl (kN 105 [(1,.box 27 (cFm q)),(2,.box 57 [bF,bF,bF,bF,bF]),(3,.box 57 [bv (decide (((q.vals.length:Nat):Int)=0)),bF,bv (decide (q.top=3)),bv (decide (q.top=4)),bF])] [(1,.box 1 0),(2,.box 2 0),(3,iv 0),(7,.box 3 0)] ?_))))))
 try rw [show (thI0 q)=(decide (((q.vals.length:Nat):Int)=0)) by simp only [thI0,Bool.or_true,Bool.true_or,Bool.or_false,Bool.false_or,Bool.and_true,Bool.true_and,Bool.and_false,Bool.false_and,Bool.not_true,Bool.not_false,decide_eq_true hs1,decide_eq_true hs5,hs6f,decide_eq_false hs8]]
 try rw [show (plI q)=false by simp only [plI,Bool.or_true,Bool.true_or,Bool.or_false,Bool.false_or,Bool.and_true,Bool.true_and,Bool.and_false,Bool.false_and,Bool.not_true,Bool.not_false,decide_eq_true hs1,decide_eq_true hs5,hs6f,decide_eq_false hs8]]
 try rw [show (woI q)=(decide (q.top=3)) by simp only [woI,Bool.or_true,Bool.true_or,Bool.or_false,Bool.false_or,Bool.and_true,Bool.true_and,Bool.and_false,Bool.false_and,Bool.not_true,Bool.not_false,decide_eq_true hs1,decide_eq_true hs5,hs6f,decide_eq_false hs8]]
 try rw [show (trI q)=(decide (q.top=4)) by simp only [trI,Bool.or_true,Bool.true_or,Bool.or_false,Bool.false_or,Bool.and_true,Bool.true_and,Bool.and_false,Bool.false_and,Bool.not_true,Bool.not_false,decide_eq_true hs1,decide_eq_true hs5,hs6f,decide_eq_false hs8]]
 try rw [show (moI q)=false by simp only [moI,Bool.or_true,Bool.true_or,Bool.or_false,Bool.false_or,Bool.and_true,Bool.true_and,Bool.and_false,Bool.false_and,Bool.not_true,Bool.not_false,decide_eq_true hs1,decide_eq_true hs5,hs6f,decide_eq_false hs8]]
 exact Zr T0 (Zj _ _ rfl (by kernel_rfl) (by kernel_rfl))
 rw [dF hs5]
 refine kW 105 [(1,.box 27 (cFm q)),(2,.box 57 [bF,bF,bF,bF,bF])] [(1,.box 1 0),(2,.box 2 0),(3,iv 0),(5,bF),(6,bv (plI q))] ?_
 by_cases hs9:(plI q)=true
 rw [hs9]
 refine kW 105 [(1,.box 27 (cFm q)),(2,.box 57 [bF,bF,bF,bF,bF])] [(1,.box 1 0),(2,.box 2 0),(3,iv 0),(5,bF),(6,bT)] ?_
 by_cases hs10:q.top=2
 refine Za (pM (mT 5 bF) (pM (mT 37 bF) (qK (qK (qK (qK (pP (pk false (.v (.tuple #[])) bF rfl) (pM (mT 6 bT) (pM (mT 6 bT) (pM (mT 45 bT) (gA (fb 2 1 U27 1) I0 (gB (lb (Zw q.states) 47 U22) I0 rfl (gA (nS 48 U22) I0 (gC (sp_leq rfl rfl) I0 I0 (pP (pk true (bv (decide (((q.states.length:Nat):Int)≤4))) bF rfl) (oA (fb 1 1 U27 1) I0 (oB (lb (iv q.top) 52 U3) I0 rfl (oC (Zp rfl (dT hs10)) I0 I0 (pM (mT 54 bT) (qK (qK (qK (pP (pk true bT (.v (.tuple #[])) rfl) ?_)))))))))))))))))))))))
 refine oA (fb 1 1 U27 1) I0 (oB (lb (iv q.top) 60 U3) I0 rfl (oC (Zp rfl rfl) I0 I0 (ZQ rfl (YM [(.tmp 43,.bool false),(.tmp 44,.bool true),(.tmp 51,.bool (decide (((q.states.length:Nat):Int)≤4))),(.tmp 59,.bool true),(.tmp 62,.bool (decide (q.top=4)))] #[.bool false,.bool true,.bool true,.bool (decide (q.top=4)),.bool (decide (((q.states.length:Nat):Int)≤4))] rfl rfl (by kernel_rfl) rfl) ⟨I0,I0,I0,I0,I0,T0⟩ T0 T0 (ZQ rfl (Z0 (z := .agg #[.bool false,.bool false,.bool false,.bool false,.bool false]) (k:=3) rfl (by kernel_rfl)) T0 T0 rfl (ZQ rfl (sB 5 7 (.tmp 63) (.agg [bF,bT,bT,bv (decide (q.top=4)),bv (decide (((q.states.length:Nat):Int)≤4))])) ⟨I0,I0,T0⟩ ⟨rfl,T0⟩ rfl (kN 105 [(1,.box 27 (cFm q)),(2,.box 57 [bF,bF,bF,bF,bF]),(3,.box 57 [bF,bT,bT,bv (decide (q.top=4)),bv (decide (((q.states.length:Nat):Int)≤4))])] [(1,.box 1 0),(2,.box 2 0),(3,iv 0),(7,.box 3 0)] ?_))))))
 try rw [show (thI0 q)=false by simp only [thI0,Bool.or_true,Bool.true_or,Bool.or_false,Bool.false_or,Bool.and_true,Bool.true_and,Bool.and_false,Bool.false_and,Bool.not_true,Bool.not_false,decide_eq_true hs1,decide_eq_false hs5,hs9,decide_eq_true hs10]]
 try rw [show (plI q)=true by simp only [plI,Bool.or_true,Bool.true_or,Bool.or_false,Bool.false_or,Bool.and_true,Bool.true_and,Bool.and_false,Bool.false_and,Bool.not_true,Bool.not_false,decide_eq_true hs1,decide_eq_false hs5,hs9,decide_eq_true hs10]]
 try rw [show (woI q)=true by simp only [woI,Bool.or_true,Bool.true_or,Bool.or_false,Bool.false_or,Bool.and_true,Bool.true_and,Bool.and_false,Bool.false_and,Bool.not_true,Bool.not_false,decide_eq_true hs1,decide_eq_false hs5,hs9,decide_eq_true hs10]]
 try rw [show (trI q)=(decide (q.top=4)) by simp only [trI,Bool.or_true,Bool.true_or,Bool.or_false,Bool.false_or,Bool.and_true,Bool.true_and,Bool.and_false,Bool.false_and,Bool.not_true,Bool.not_false,decide_eq_true hs1,decide_eq_false hs5,hs9,decide_eq_true hs10]]
 try rw [show (moI q)=(decide (((q.states.length:Nat):Int)≤4)) by simp only [moI,Bool.or_true,Bool.true_or,Bool.or_false,Bool.false_or,Bool.and_true,Bool.true_and,Bool.and_false,Bool.false_and,Bool.not_true,Bool.not_false,decide_eq_true hs1,decide_eq_false hs5,hs9,decide_eq_true hs10]]
 exact Zr T0 (Zj _ _ rfl (by kernel_rfl) (by kernel_rfl))
 refine Za (pM (mT 5 bF) (pM (mT 37 bF) (qK (qK (qK (qK (pP (pk false (.v (.tuple #[])) bF rfl) (pM (mT 6 bT) (pM (mT 6 bT) (pM (mT 45 bT) (gA (fb 2 1 U27 1) I0 (gB (lb (Zw q.states) 47 U22) I0 rfl (gA (nS 48 U22) I0 (gC (sp_leq rfl rfl) I0 I0 (pP (pk true (bv (decide (((q.states.length:Nat):Int)≤4))) bF rfl) (oA (fb 1 1 U27 1) I0 (oB (lb (iv q.top) 52 U3) I0 rfl (oC (Zp rfl (dF hs10)) I0 I0 (pM (mT 54 bF) (gA (fb 1 1 U27 1) I0 (gB (lb (iv q.top) 56 U3) I0 rfl (gC (Zp rfl rfl) I0 I0 (pP (pk false bT (bv (decide (q.top=3))) rfl) ?_)))))))))))))))))))))))
 refine oA (fb 1 1 U27 1) I0 (oB (lb (iv q.top) 60 U3) I0 rfl (oC (Zp rfl rfl) I0 I0 (ZQ rfl (YM [(.tmp 43,.bool false),(.tmp 44,.bool true),(.tmp 51,.bool (decide (((q.states.length:Nat):Int)≤4))),(.tmp 59,.bool (decide (q.top=3))),(.tmp 62,.bool (decide (q.top=4)))] #[.bool false,.bool true,.bool (decide (q.top=3)),.bool (decide (q.top=4)),.bool (decide (((q.states.length:Nat):Int)≤4))] rfl rfl (by kernel_rfl) rfl) ⟨I0,I0,I0,I0,I0,T0⟩ T0 T0 (ZQ rfl (Z0 (z := .agg #[.bool false,.bool false,.bool false,.bool false,.bool false]) (k:=3) rfl (by kernel_rfl)) T0 T0 rfl (ZQ rfl (sB 5 7 (.tmp 63) (.agg [bF,bT,bv (decide (q.top=3)),bv (decide (q.top=4)),bv (decide (((q.states.length:Nat):Int)≤4))])) ⟨I0,I0,T0⟩ ⟨rfl,T0⟩ rfl (kN 105 [(1,.box 27 (cFm q)),(2,.box 57 [bF,bF,bF,bF,bF]),(3,.box 57 [bF,bT,bv (decide (q.top=3)),bv (decide (q.top=4)),bv (decide (((q.states.length:Nat):Int)≤4))])] [(1,.box 1 0),(2,.box 2 0),(3,iv 0),(7,.box 3 0)] ?_))))))
 try rw [show (thI0 q)=false by simp only [thI0,Bool.or_true,Bool.true_or,Bool.or_false,Bool.false_or,Bool.and_true,Bool.true_and,Bool.and_false,Bool.false_and,Bool.not_true,Bool.not_false,decide_eq_true hs1,decide_eq_false hs5,hs9,decide_eq_false hs10]]
 try rw [show (plI q)=true by simp only [plI,Bool.or_true,Bool.true_or,Bool.or_false,Bool.false_or,Bool.and_true,Bool.true_and,Bool.and_false,Bool.false_and,Bool.not_true,Bool.not_false,decide_eq_true hs1,decide_eq_false hs5,hs9,decide_eq_false hs10]]
 try rw [show (woI q)=(decide (q.top=3)) by simp only [woI,Bool.or_true,Bool.true_or,Bool.or_false,Bool.false_or,Bool.and_true,Bool.true_and,Bool.and_false,Bool.false_and,Bool.not_true,Bool.not_false,decide_eq_true hs1,decide_eq_false hs5,hs9,decide_eq_false hs10]]
 try rw [show (trI q)=(decide (q.top=4)) by simp only [trI,Bool.or_true,Bool.true_or,Bool.or_false,Bool.false_or,Bool.and_true,Bool.true_and,Bool.and_false,Bool.false_and,Bool.not_true,Bool.not_false,decide_eq_true hs1,decide_eq_false hs5,hs9,decide_eq_false hs10]]
 try rw [show (moI q)=(decide (((q.states.length:Nat):Int)≤4)) by simp only [moI,Bool.or_true,Bool.true_or,Bool.or_false,Bool.false_or,Bool.and_true,Bool.true_and,Bool.and_false,Bool.false_and,Bool.not_true,Bool.not_false,decide_eq_true hs1,decide_eq_false hs5,hs9,decide_eq_false hs10]]
 exact Zr T0 (Zj _ _ rfl (by kernel_rfl) (by kernel_rfl))
 have hs9f:(plI q)=false:=by simpa using hs9
 rw [hs9f]
 refine kW 105 [(1,.box 27 (cFm q)),(2,.box 57 [bF,bF,bF,bF,bF])] [(1,.box 1 0),(2,.box 2 0),(3,iv 0),(5,bF),(6,bF)] ?_
 by_cases hs11:q.top=2
 refine Za (pM (mT 5 bF) (pM (mT 37 bF) (qK (qK (qK (qK (pP (pk false (.v (.tuple #[])) bF rfl) (pM (mT 6 bF) (pM (mT 6 bF) (pM (mT 45 bF) (qK (qK (qK (qK (pP (pk false (.v (.tuple #[])) bF rfl) (oA (fb 1 1 U27 1) I0 (oB (lb (iv q.top) 52 U3) I0 rfl (oC (Zp rfl (dT hs11)) I0 I0 (pM (mT 54 bT) (qK (qK (qK (pP (pk true bT (.v (.tuple #[])) rfl) ?_)))))))))))))))))))))))
 refine oA (fb 1 1 U27 1) I0 (oB (lb (iv q.top) 60 U3) I0 rfl (oC (Zp rfl rfl) I0 I0 (ZQ rfl (YM [(.tmp 43,.bool false),(.tmp 44,.bool false),(.tmp 51,.bool false),(.tmp 59,.bool true),(.tmp 62,.bool (decide (q.top=4)))] #[.bool false,.bool false,.bool true,.bool (decide (q.top=4)),.bool false] rfl rfl (by kernel_rfl) rfl) ⟨I0,I0,I0,I0,I0,T0⟩ T0 T0 (ZQ rfl (Z0 (z := .agg #[.bool false,.bool false,.bool false,.bool false,.bool false]) (k:=3) rfl (by kernel_rfl)) T0 T0 rfl (ZQ rfl (sB 5 7 (.tmp 63) (.agg [bF,bF,bT,bv (decide (q.top=4)),bF])) ⟨I0,I0,T0⟩ ⟨rfl,T0⟩ rfl (kN 105 [(1,.box 27 (cFm q)),(2,.box 57 [bF,bF,bF,bF,bF]),(3,.box 57 [bF,bF,bT,bv (decide (q.top=4)),bF])] [(1,.box 1 0),(2,.box 2 0),(3,iv 0),(7,.box 3 0)] ?_))))))
 try rw [show (thI0 q)=false by simp only [thI0,Bool.or_true,Bool.true_or,Bool.or_false,Bool.false_or,Bool.and_true,Bool.true_and,Bool.and_false,Bool.false_and,Bool.not_true,Bool.not_false,decide_eq_true hs1,decide_eq_false hs5,hs9f,decide_eq_true hs11]]
 try rw [show (plI q)=false by simp only [plI,Bool.or_true,Bool.true_or,Bool.or_false,Bool.false_or,Bool.and_true,Bool.true_and,Bool.and_false,Bool.false_and,Bool.not_true,Bool.not_false,decide_eq_true hs1,decide_eq_false hs5,hs9f,decide_eq_true hs11]]
 try rw [show (woI q)=true by simp only [woI,Bool.or_true,Bool.true_or,Bool.or_false,Bool.false_or,Bool.and_true,Bool.true_and,Bool.and_false,Bool.false_and,Bool.not_true,Bool.not_false,decide_eq_true hs1,decide_eq_false hs5,hs9f,decide_eq_true hs11]]
 try rw [show (trI q)=(decide (q.top=4)) by simp only [trI,Bool.or_true,Bool.true_or,Bool.or_false,Bool.false_or,Bool.and_true,Bool.true_and,Bool.and_false,Bool.false_and,Bool.not_true,Bool.not_false,decide_eq_true hs1,decide_eq_false hs5,hs9f,decide_eq_true hs11]]
 try rw [show (moI q)=false by simp only [moI,Bool.or_true,Bool.true_or,Bool.or_false,Bool.false_or,Bool.and_true,Bool.true_and,Bool.and_false,Bool.false_and,Bool.not_true,Bool.not_false,decide_eq_true hs1,decide_eq_false hs5,hs9f,decide_eq_true hs11]]
 exact Zr T0 (Zj _ _ rfl (by kernel_rfl) (by kernel_rfl))
 refine Za (pM (mT 5 bF) (pM (mT 37 bF) (qK (qK (qK (qK (pP (pk false (.v (.tuple #[])) bF rfl) (pM (mT 6 bF) (pM (mT 6 bF) (pM (mT 45 bF) (qK (qK (qK (qK (pP (pk false (.v (.tuple #[])) bF rfl) (oA (fb 1 1 U27 1) I0 (oB (lb (iv q.top) 52 U3) I0 rfl (oC (Zp rfl (dF hs11)) I0 I0 (pM (mT 54 bF) (gA (fb 1 1 U27 1) I0 (gB (lb (iv q.top) 56 U3) I0 rfl (gC (Zp rfl rfl) I0 I0 (pP (pk false bT (bv (decide (q.top=3))) rfl) ?_)))))))))))))))))))))))
 refine oA (fb 1 1 U27 1) I0 (oB (lb (iv q.top) 60 U3) I0 rfl (oC (Zp rfl rfl) I0 I0 (ZQ rfl (YM [(.tmp 43,.bool false),(.tmp 44,.bool false),(.tmp 51,.bool false),(.tmp 59,.bool (decide (q.top=3))),(.tmp 62,.bool (decide (q.top=4)))] #[.bool false,.bool false,.bool (decide (q.top=3)),.bool (decide (q.top=4)),.bool false] rfl rfl (by kernel_rfl) rfl) ⟨I0,I0,I0,I0,I0,T0⟩ T0 T0 (ZQ rfl (Z0 (z := .agg #[.bool false,.bool false,.bool false,.bool false,.bool false]) (k:=3) rfl (by kernel_rfl)) T0 T0 rfl (ZQ rfl (sB 5 7 (.tmp 63) (.agg [bF,bF,bv (decide (q.top=3)),bv (decide (q.top=4)),bF])) ⟨I0,I0,T0⟩ ⟨rfl,T0⟩ rfl (kN 105 [(1,.box 27 (cFm q)),(2,.box 57 [bF,bF,bF,bF,bF]),(3,.box 57 [bF,bF,bv (decide (q.top=3)),bv (decide (q.top=4)),bF])] [(1,.box 1 0),(2,.box 2 0),(3,iv 0),(7,.box 3 0)] ?_))))))
 try rw [show (thI0 q)=false by simp only [thI0,Bool.or_true,Bool.true_or,Bool.or_false,Bool.false_or,Bool.and_true,Bool.true_and,Bool.and_false,Bool.false_and,Bool.not_true,Bool.not_false,decide_eq_true hs1,decide_eq_false hs5,hs9f,decide_eq_false hs11]]
 try rw [show (plI q)=false by simp only [plI,Bool.or_true,Bool.true_or,Bool.or_false,Bool.false_or,Bool.and_true,Bool.true_and,Bool.and_false,Bool.false_and,Bool.not_true,Bool.not_false,decide_eq_true hs1,decide_eq_false hs5,hs9f,decide_eq_false hs11]]
 try rw [show (woI q)=(decide (q.top=3)) by simp only [woI,Bool.or_true,Bool.true_or,Bool.or_false,Bool.false_or,Bool.and_true,Bool.true_and,Bool.and_false,Bool.false_and,Bool.not_true,Bool.not_false,decide_eq_true hs1,decide_eq_false hs5,hs9f,decide_eq_false hs11]]
 try rw [show (trI q)=(decide (q.top=4)) by simp only [trI,Bool.or_true,Bool.true_or,Bool.or_false,Bool.false_or,Bool.and_true,Bool.true_and,Bool.and_false,Bool.false_and,Bool.not_true,Bool.not_false,decide_eq_true hs1,decide_eq_false hs5,hs9f,decide_eq_false hs11]]
 try rw [show (moI q)=false by simp only [moI,Bool.or_true,Bool.true_or,Bool.or_false,Bool.false_or,Bool.and_true,Bool.true_and,Bool.and_false,Bool.false_and,Bool.not_true,Bool.not_false,decide_eq_true hs1,decide_eq_false hs5,hs9f,decide_eq_false hs11]]
 exact Zr T0 (Zj _ _ rfl (by kernel_rfl) (by kernel_rfl))
 refine Zc (Zb (Zb (Za (pM (aC (.int .i64 0)) (kN 105 [(1,.box 27 (cFm q)),(2,.box 57 [bF,bF,bF,bF,bF]),(3,.box 57 [bv (thI0 q),bv (plI q),bv (woI q),bv (trI q),bv (moI q)])] [(1,.box 1 0),(2,.box 2 0),(3,iv 0),(7,.box 3 0),(8,iv 0)] (Zc (ZE ?_)))))))
 rw [← cT_zero,← cC_zero]
 refine Yp (σ:={k:Nat // k≤q.rules.length}) (fun s=>(ofL [(1,.box 27 (cFm q)),(2,.box 57 [bF,bF,bF,bF,bF]),(3,.box 57 [bv (cT q s.1),bv (cC q s.1),bv (woI q),bv (trI q),bv (moI q)])],ofT 105 [(1,.box 1 0),(2,.box 2 0),(3,iv 0),(7,.box 3 0),(8,iv s.1)])) (fun s=>q.rules.length-s.1) ⟨0,Nat.zero_le _⟩ (Zj _ _ rfl (by kernel_rfl) (by kernel_rfl)) (fun s => ?_)
 obtain ⟨k,hk0⟩:=s
 show ETri J w0 (ofL [(1,.box 27 (cFm q)),(2,.box 57 [bF,bF,bF,bF,bF]),(3,.box 57 [bv (cT q k),bv (cC q k),bv (woI q),bv (trI q),bv (moI q)])]) (ofT 105 [(1,.box 1 0),(2,.box 2 0),(3,iv 0),(7,.box 3 0),(8,iv k)]) _
 refine Zb (Zb ?_)
 by_cases hs12:((k:Nat):Int)<((q.rules.length:Nat):Int)
 refine Za (pM (mT 8 (iv k)) (oA (fb 9 1 U27 1) I0 (oB (lb (slA 18 cRu q.rules) 65 U25) I0 rfl (oA (nS 66 U25) I0 (oC (Z5 rfl (dT hs12)) I0 I0 (Ze (Zc (Zm rfl (Zn (Zc (Zb (ZE (Zb (Za (oA (fb 9 1 U27 1) I0 (oB (lb (slA 18 cRu q.rules) 71 U25) I0 rfl (pM (mT 8 (iv k)) (oC (xS (k*18) 72 73 U25) I0 I0 (oA (ZF (z:=18) (.tmp 74) rfl U65 rfl (by kernel_rfl) (Kh lenRu q.rules k (by omega)) rfl) I0 (ZQ rfl (Z0 (z := .agg #[.string (⟨#[]⟩),.int .i64 0,.int .i64 0,.int .i64 0,.int .i64 0,.int .i64 0,.slice none 0 0,.slice none 0 0,.slice none 0 0,.slice none 0 0,.int .i64 0,.int .i64 0,.slice none 0 0,.int .i64 0,.slice none 0 0,.slice none 0 0,.slice none 0 0,.int .i64 0]) (k:=4) rfl (by kernel_rfl)) T0 T0 rfl (ZQ rfl (sB 18 9 (.tmp 75) (.agg (cRu q.rules[k]))) ⟨I0,I0,T0⟩ ⟨rfl,T0⟩ rfl (kN 105 [(1,.box 27 (cFm q)),(2,.box 57 [bF,bF,bF,bF,bF]),(3,.box 57 [bv (cT q k),bv (cC q k),bv (woI q),bv (trI q),bv (moI q)]),(4,.box 65 (cRu q.rules[k]))] [(1,.box 1 0),(2,.box 2 0),(3,iv 0),(7,.box 3 0),(8,iv k),(9,.box 4 0),(68,bT)] (Zc ?_)))))))))))))))))))))))
 refine Zb (Zb ?_)
 refine Y6 (True) (ofL [(1,.box 27 (cFm q)),(2,.box 57 [bF,bF,bF,bF,bF]),(3,.box 57 [bv (cT q k),bv (cC q k),bv (woI q),bv (trI q),bv (moI q)]),(4,.box 65 (cRu q.rules[k]))]) (ofT 105 [(1,.box 1 0),(2,.box 2 0),(3,iv 0),(7,.box 3 0),(8,iv k),(9,.box 4 0),(68,bT),(97,bv (noIc q.rules[k]))]) ?_ (fun _ => ?_)
 by_cases hs13:q.rules[k].kind=1
 by_cases hs14:q.rules[k].to≤q.rules[k].frm
 refine Za (oA (fb 1 9 U65 1) I0 (oB (lb (iv q.rules[k].kind) 76 U3) I0 rfl (oC (Zs rfl (dT' hs13)) I0 I0 (pM (mT 78 bF) (gA (fb 2 9 U65 1) I0 (gB (lb (iv q.rules[k].frm) 80 U3) I0 rfl (gA (fb 3 9 U65 1) I0 (gB (lb (iv q.rules[k].to) 82 U3) I0 rfl (gC (YL rfl (dT hs14)) I0 I0 (pP (pk false bT bT rfl) (pM (mT 85 bT) (qK (qK (qK (qK (pP (pk true bT (.v (.tuple #[])) rfl) (pM (mT 91 bT) (qK (qK (qK (qK (pP (pk true bT (.v (.tuple #[])) rfl) (kN 105 [(1,.box 27 (cFm q)),(2,.box 57 [bF,bF,bF,bF,bF]),(3,.box 57 [bv (cT q k),bv (cC q k),bv (woI q),bv (trI q),bv (moI q)]),(4,.box 65 (cRu q.rules[k]))] [(1,.box 1 0),(2,.box 2 0),(3,iv 0),(7,.box 3 0),(8,iv k),(9,.box 4 0),(68,bT),(97,bT)] ?_)))))))))))))))))))))))
 rw [show (noIc q.rules[k])=true by simp only [noIc,Bool.or_true,Bool.true_or,Bool.or_false,Bool.false_or,Bool.and_true,Bool.true_and,Bool.and_false,Bool.false_and,Bool.not_true,Bool.not_false,decide_eq_true hs1,decide_eq_true hs12,decide_eq_true hs13,decide_eq_true hs14]]
 exact Zr T0 (Zj _ _ rfl (by kernel_rfl) (by kernel_rfl))
 by_cases hs15:0<((q.rules[k].ex.length:Nat):Int)
 refine Za (oA (fb 1 9 U65 1) I0 (oB (lb (iv q.rules[k].kind) 76 U3) I0 rfl (oC (Zs rfl (dT' hs13)) I0 I0 (pM (mT 78 bF) (gA (fb 2 9 U65 1) I0 (gB (lb (iv q.rules[k].frm) 80 U3) I0 rfl (gA (fb 3 9 U65 1) I0 (gB (lb (iv q.rules[k].to) 82 U3) I0 rfl (gC (YL rfl (dF hs14)) I0 I0 (pP (pk false bT bF rfl) (pM (mT 85 bF) (gA (fb 8 9 U65 1) I0 (gB (lb (Zd q.rules[k].ex) 87 U24) I0 rfl (gA (nS 88 U24) I0 (gC (ZK rfl (dT hs15)) I0 I0 (pP (pk false bT bT rfl) (pM (mT 91 bT) (qK (qK (qK (qK (pP (pk true bT (.v (.tuple #[])) rfl) (kN 105 [(1,.box 27 (cFm q)),(2,.box 57 [bF,bF,bF,bF,bF]),(3,.box 57 [bv (cT q k),bv (cC q k),bv (woI q),bv (trI q),bv (moI q)]),(4,.box 65 (cRu q.rules[k]))] [(1,.box 1 0),(2,.box 2 0),(3,iv 0),(7,.box 3 0),(8,iv k),(9,.box 4 0),(68,bT),(97,bT)] ?_)))))))))))))))))))))))
 rw [show (noIc q.rules[k])=true by simp only [noIc,Bool.or_true,Bool.true_or,Bool.or_false,Bool.false_or,Bool.and_true,Bool.true_and,Bool.and_false,Bool.false_and,Bool.not_true,Bool.not_false,decide_eq_true hs1,decide_eq_true hs12,decide_eq_true hs13,decide_eq_false hs14,decide_eq_true hs15]]
 exact Zr T0 (Zj _ _ rfl (by kernel_rfl) (by kernel_rfl))
 by_cases hs16:0<((q.rules[k].fa.length:Nat):Int)
 refine Za (oA (fb 1 9 U65 1) I0 (oB (lb (iv q.rules[k].kind) 76 U3) I0 rfl (oC (Zs rfl (dT' hs13)) I0 I0 (pM (mT 78 bF) (gA (fb 2 9 U65 1) I0 (gB (lb (iv q.rules[k].frm) 80 U3) I0 rfl (gA (fb 3 9 U65 1) I0 (gB (lb (iv q.rules[k].to) 82 U3) I0 rfl (gC (YL rfl (dF hs14)) I0 I0 (pP (pk false bT bF rfl) (pM (mT 85 bF) (gA (fb 8 9 U65 1) I0 (gB (lb (Zd q.rules[k].ex) 87 U24) I0 rfl (gA (nS 88 U24) I0 (gC (ZK rfl (dF hs15)) I0 I0 (pP (pk false bT bF rfl) (pM (mT 91 bF) (gA (fb 9 9 U65 1) I0 (gB (lb (Zd q.rules[k].fa) 93 U24) I0 rfl (gA (nS 94 U24) I0 (gC (ZK rfl (dT hs16)) I0 I0 (pP (pk false bT bT rfl) (kN 105 [(1,.box 27 (cFm q)),(2,.box 57 [bF,bF,bF,bF,bF]),(3,.box 57 [bv (cT q k),bv (cC q k),bv (woI q),bv (trI q),bv (moI q)]),(4,.box 65 (cRu q.rules[k]))] [(1,.box 1 0),(2,.box 2 0),(3,iv 0),(7,.box 3 0),(8,iv k),(9,.box 4 0),(68,bT),(97,bT)] ?_)))))))))))))))))))))))
 rw [show (noIc q.rules[k])=true by simp only [noIc,Bool.or_true,Bool.true_or,Bool.or_false,Bool.false_or,Bool.and_true,Bool.true_and,Bool.and_false,Bool.false_and,Bool.not_true,Bool.not_false,decide_eq_true hs1,decide_eq_true hs12,decide_eq_true hs13,decide_eq_false hs14,decide_eq_false hs15,decide_eq_true hs16]]
 exact Zr T0 (Zj _ _ rfl (by kernel_rfl) (by kernel_rfl))
 refine Za (oA (fb 1 9 U65 1) I0 (oB (lb (iv q.rules[k].kind) 76 U3) I0 rfl (oC (Zs rfl (dT' hs13)) I0 I0 (pM (mT 78 bF) (gA (fb 2 9 U65 1) I0 (gB (lb (iv q.rules[k].frm) 80 U3) I0 rfl (gA (fb 3 9 U65 1) I0 (gB (lb (iv q.rules[k].to) 82 U3) I0 rfl (gC (YL rfl (dF hs14)) I0 I0 (pP (pk false bT bF rfl) (pM (mT 85 bF) (gA (fb 8 9 U65 1) I0 (gB (lb (Zd q.rules[k].ex) 87 U24) I0 rfl (gA (nS 88 U24) I0 (gC (ZK rfl (dF hs15)) I0 I0 (pP (pk false bT bF rfl) (pM (mT 91 bF) (gA (fb 9 9 U65 1) I0 (gB (lb (Zd q.rules[k].fa) 93 U24) I0 rfl (gA (nS 94 U24) I0 (gC (ZK rfl (dF hs16)) I0 I0 (pP (pk false bT bF rfl) (kN 105 [(1,.box 27 (cFm q)),(2,.box 57 [bF,bF,bF,bF,bF]),(3,.box 57 [bv (cT q k),bv (cC q k),bv (woI q),bv (trI q),bv (moI q)]),(4,.box 65 (cRu q.rules[k]))] [(1,.box 1 0),(2,.box 2 0),(3,iv 0),(7,.box 3 0),(8,iv k),(9,.box 4 0),(68,bT),(97,bF)] ?_)))))))))))))))))))))))
 rw [show (noIc q.rules[k])=false by simp only [noIc,Bool.or_true,Bool.true_or,Bool.or_false,Bool.false_or,Bool.and_true,Bool.true_and,Bool.and_false,Bool.false_and,Bool.not_true,Bool.not_false,decide_eq_true hs1,decide_eq_true hs12,decide_eq_true hs13,decide_eq_false hs14,decide_eq_false hs15,decide_eq_false hs16]]
 exact Zr T0 (Zj _ _ rfl (by kernel_rfl) (by kernel_rfl))
 refine Za (oA (fb 1 9 U65 1) I0 (oB (lb (iv q.rules[k].kind) 76 U3) I0 rfl (oC (Zs rfl (dF' hs13)) I0 I0 (pM (mT 78 bT) (qK (qK (qK (qK (qK (pP (pk true bT (.v (.tuple #[])) rfl) (pM (mT 85 bT) (qK (qK (qK (qK (pP (pk true bT (.v (.tuple #[])) rfl) (pM (mT 91 bT) (qK (qK (qK (qK (pP (pk true bT (.v (.tuple #[])) rfl) (kN 105 [(1,.box 27 (cFm q)),(2,.box 57 [bF,bF,bF,bF,bF]),(3,.box 57 [bv (cT q k),bv (cC q k),bv (woI q),bv (trI q),bv (moI q)]),(4,.box 65 (cRu q.rules[k]))] [(1,.box 1 0),(2,.box 2 0),(3,iv 0),(7,.box 3 0),(8,iv k),(9,.box 4 0),(68,bT),(97,bT)] ?_)))))))))))))))))))))))
 rw [show (noIc q.rules[k])=true by simp only [noIc,Bool.or_true,Bool.true_or,Bool.or_false,Bool.false_or,Bool.and_true,Bool.true_and,Bool.and_false,Bool.false_and,Bool.not_true,Bool.not_false,decide_eq_true hs1,decide_eq_true hs12,decide_eq_false hs13]]
 exact Zr T0 (Zj _ _ rfl (by kernel_rfl) (by kernel_rfl))
 refine Zc ?_
 by_cases hs17:(noIc q.rules[k])=true
 rw [hs17]
 refine kW 105 [(1,.box 27 (cFm q)),(2,.box 57 [bF,bF,bF,bF,bF]),(3,.box 57 [bv (cT q k),bv (cC q k),bv (woI q),bv (trI q),bv (moI q)]),(4,.box 65 (cRu q.rules[k]))] [(1,.box 1 0),(2,.box 2 0),(3,iv 0),(7,.box 3 0),(8,iv k),(9,.box 4 0),(68,bT),(97,bT)] (Zm rfl (Za (oA (fb 0 7 U57 1) I0 (ZQ rfl (sB 1 98 (.const (.bool false)) bF) ⟨I0,I0,T0⟩ ⟨rfl,T0⟩ rfl (Ze (Zc (Zb ?_)))))))
 by_cases hs18:0<((q.rules[k].fa.length:Nat):Int)
 refine Za (oA (fb 9 9 U65 1) I0 (oB (lb (Zd q.rules[k].fa) 99 U24) I0 rfl (oA (nS 100 U24) I0 (oC (ZK rfl (dT hs18)) I0 I0 (Ze (Zc (Zm rfl (Za (oA (fb 1 7 U57 1) I0 (ZQ rfl (sB 1 103 (.const (.bool false)) bF) ⟨I0,I0,T0⟩ ⟨rfl,T0⟩ rfl (Ze (ZX (Zc (Za (pM (mT 8 (iv k)) (oC (Yj (c:=((k+1:Nat):Int)) rfl (w64 (by omega) (by omega) (by omega))) I0 I0 (pM (aT 70 (iv (k+1:Nat))) (kN 105 [(1,.box 27 (cFm q)),(2,.box 57 [bF,bF,bF,bF,bF]),(3,.box 57 [bF,bF,bv (woI q),bv (trI q),bv (moI q)]),(4,.box 65 (cRu q.rules[k]))] [(1,.box 1 0),(2,.box 2 0),(3,iv 0),(7,.box 3 0),(8,iv (k+1:Nat)),(9,.box 4 0),(68,bT),(97,bT),(102,bT)] (Zc ?_)))))))))))))))))))
 refine ZZ ⟨k+1,by omega⟩ (show q.rules.length-(k+1)<q.rules.length-k by omega) ?_
 show Wk _ _ (ofL [(1,.box 27 (cFm q)),(2,.box 57 [bF,bF,bF,bF,bF]),(3,.box 57 [bv (cT q (k+1)),bv (cC q (k+1)),bv (woI q),bv (trI q),bv (moI q)])]) (ofT 105 [(1,.box 1 0),(2,.box 2 0),(3,iv 0),(7,.box 3 0),(8,iv ((k+1):Nat))])
 rw [cT_t (by omega) hs17,cC_t (by omega) hs18]
 exact Zj _ _ rfl (by kernel_rfl) (by kernel_rfl)
 refine Za (oA (fb 9 9 U65 1) I0 (oB (lb (Zd q.rules[k].fa) 99 U24) I0 rfl (oA (nS 100 U24) I0 (oC (ZK rfl (dF hs18)) I0 I0 (Ze (Zc (Zo rfl (Zn (ZX (Zc (Za (pM (mT 8 (iv k)) (oC (Yj (c:=((k+1:Nat):Int)) rfl (w64 (by omega) (by omega) (by omega))) I0 I0 (pM (aT 70 (iv (k+1:Nat))) (kN 105 [(1,.box 27 (cFm q)),(2,.box 57 [bF,bF,bF,bF,bF]),(3,.box 57 [bF,bv (cC q k),bv (woI q),bv (trI q),bv (moI q)]),(4,.box 65 (cRu q.rules[k]))] [(1,.box 1 0),(2,.box 2 0),(3,iv 0),(7,.box 3 0),(8,iv (k+1:Nat)),(9,.box 4 0),(68,bT),(97,bT),(102,bF)] (Zc ?_))))))))))))))))
 refine ZZ ⟨k+1,by omega⟩ (show q.rules.length-(k+1)<q.rules.length-k by omega) ?_
 show Wk _ _ (ofL [(1,.box 27 (cFm q)),(2,.box 57 [bF,bF,bF,bF,bF]),(3,.box 57 [bv (cT q (k+1)),bv (cC q (k+1)),bv (woI q),bv (trI q),bv (moI q)])]) (ofT 105 [(1,.box 1 0),(2,.box 2 0),(3,iv 0),(7,.box 3 0),(8,iv ((k+1):Nat))])
 rw [cT_t (by omega) hs17,cC_f (by omega) hs18]
 exact Zj _ _ rfl (by kernel_rfl) (by kernel_rfl)
 have hs17f:(noIc q.rules[k])=false:=by simpa using hs17
 rw [hs17f]
 refine kW 105 [(1,.box 27 (cFm q)),(2,.box 57 [bF,bF,bF,bF,bF]),(3,.box 57 [bv (cT q k),bv (cC q k),bv (woI q),bv (trI q),bv (moI q)]),(4,.box 65 (cRu q.rules[k]))] [(1,.box 1 0),(2,.box 2 0),(3,iv 0),(7,.box 3 0),(8,iv k),(9,.box 4 0),(68,bT),(97,bF)] (Zo rfl (Zn (Zc (Zb ?_))))
 by_cases hs19:0<((q.rules[k].fa.length:Nat):Int)
 refine Za (oA (fb 9 9 U65 1) I0 (oB (lb (Zd q.rules[k].fa) 99 U24) I0 rfl (oA (nS 100 U24) I0 (oC (ZK rfl (dT hs19)) I0 I0 (Ze (Zc (Zm rfl (Za (oA (fb 1 7 U57 1) I0 (ZQ rfl (sB 1 103 (.const (.bool false)) bF) ⟨I0,I0,T0⟩ ⟨rfl,T0⟩ rfl (Ze (ZX (Zc (Za (pM (mT 8 (iv k)) (oC (Yj (c:=((k+1:Nat):Int)) rfl (w64 (by omega) (by omega) (by omega))) I0 I0 (pM (aT 70 (iv (k+1:Nat))) (kN 105 [(1,.box 27 (cFm q)),(2,.box 57 [bF,bF,bF,bF,bF]),(3,.box 57 [bv (cT q k),bF,bv (woI q),bv (trI q),bv (moI q)]),(4,.box 65 (cRu q.rules[k]))] [(1,.box 1 0),(2,.box 2 0),(3,iv 0),(7,.box 3 0),(8,iv (k+1:Nat)),(9,.box 4 0),(68,bT),(97,bF),(102,bT)] (Zc ?_)))))))))))))))))))
 refine ZZ ⟨k+1,by omega⟩ (show q.rules.length-(k+1)<q.rules.length-k by omega) ?_
 show Wk _ _ (ofL [(1,.box 27 (cFm q)),(2,.box 57 [bF,bF,bF,bF,bF]),(3,.box 57 [bv (cT q (k+1)),bv (cC q (k+1)),bv (woI q),bv (trI q),bv (moI q)])]) (ofT 105 [(1,.box 1 0),(2,.box 2 0),(3,iv 0),(7,.box 3 0),(8,iv ((k+1):Nat))])
 rw [cT_f (by omega) hs17f,cC_t (by omega) hs19]
 exact Zj _ _ rfl (by kernel_rfl) (by kernel_rfl)
 refine Za (oA (fb 9 9 U65 1) I0 (oB (lb (Zd q.rules[k].fa) 99 U24) I0 rfl (oA (nS 100 U24) I0 (oC (ZK rfl (dF hs19)) I0 I0 (Ze (Zc (Zo rfl (Zn (ZX (Zc (Za (pM (mT 8 (iv k)) (oC (Yj (c:=((k+1:Nat):Int)) rfl (w64 (by omega) (by omega) (by omega))) I0 I0 (pM (aT 70 (iv (k+1:Nat))) (kN 105 [(1,.box 27 (cFm q)),(2,.box 57 [bF,bF,bF,bF,bF]),(3,.box 57 [bv (cT q k),bv (cC q k),bv (woI q),bv (trI q),bv (moI q)]),(4,.box 65 (cRu q.rules[k]))] [(1,.box 1 0),(2,.box 2 0),(3,iv 0),(7,.box 3 0),(8,iv (k+1:Nat)),(9,.box 4 0),(68,bT),(97,bF),(102,bF)] (Zc ?_))))))))))))))))
 refine ZZ ⟨k+1,by omega⟩ (show q.rules.length-(k+1)<q.rules.length-k by omega) ?_
 show Wk _ _ (ofL [(1,.box 27 (cFm q)),(2,.box 57 [bF,bF,bF,bF,bF]),(3,.box 57 [bv (cT q (k+1)),bv (cC q (k+1)),bv (woI q),bv (trI q),bv (moI q)])]) (ofT 105 [(1,.box 1 0),(2,.box 2 0),(3,iv 0),(7,.box 3 0),(8,iv ((k+1):Nat))])
 rw [cT_f (by omega) hs17f,cC_f (by omega) hs19]
 exact Zj _ _ rfl (by kernel_rfl) (by kernel_rfl)
 refine Za (pM (mT 8 (iv k)) (oA (fb 9 1 U27 1) I0 (oB (lb (slA 18 cRu q.rules) 65 U25) I0 rfl (oA (nS 66 U25) I0 (oC (Z5 rfl (dF hs12)) I0 I0 (Ze (Zc (Zo rfl (Yn (Zy (Zy (t_hit (Zc (Zb (Za (oB (lS ([bv (cT q k),bv (cC q k),bv (woI q),bv (trI q),bv (moI q)]) 5 7 U57) I0 rfl (ZQ rfl (sB 5 2 (.tmp 104) (.agg [bv (cT q k),bv (cC q k),bv (woI q),bv (trI q),bv (moI q)])) ⟨I0,I0,T0⟩ ⟨rfl,T0⟩ rfl (pM (aC (.int .i64 0)) (Ze (Zc (Zk ?_)))))))))))))))))))))
 refine Yr Try.results16 (.cellS rfl rfl U57 rfl (z:=5) (by kernel_rfl) rfl (by decide)) (.tmp rfl) ?_
 exact cls_end hs1 (by omega)
 refine Za (pM (mT 4 (iv (valE q))) (oC (Zs rfl (dF' hs1)) I0 I0 (Ze (Zc (Zm rfl (Zb (Za (ZQ rfl (YM [] #[.bool false,.bool false,.bool false,.bool false,.bool false] rfl rfl (by kernel_rfl) rfl) T0 T0 T0 (pM (mT 4 (iv (valE q))) (ZQ rfl (sB 5 2 (.tmp 14) (.agg [bF,bF,bF,bF,bF])) ⟨I0,I0,T0⟩ ⟨rfl,T0⟩ rfl (pM (aT 15 (iv (valE q))) (Ze (Zc (Zk (Zh ?_)))))))))))))))
 refine Yr Try.results16 (.cellS rfl rfl U57 rfl (z:=5) (by kernel_rfl) rfl (by decide)) (.tmp rfl) ?_
 exact cls_err hs1
set_option maxRecDepth 100000 in
set_option maxHeartbeats 6400000 in
theorem CopyInts_u (xs:List Int) (hx:xs.length≤17592186044416):Ctr Try.prog J 34 [Zd xs] (Zd xs):=by
 refine ZJ Try.func34 rfl (by intro X hX;simp at hX;subst hX;exact Yc _) (n:=6) rfl (by simp) (fun w0 => ?_)
 refine kW 6 [] [(0,Zd xs)] (Zb (Za (pM (Ym (.const (.slice none 0 0)) (.v (.slice none 0 0)) rfl) (Ze (Zc (Zb (Za (ZQ rfl (sp_build0 (z:=1) (k:=1) true rfl U24 (by kernel_rfl)) T0 T0 rfl (pM (mT 0 (Zd xs)) (ZQ rfl (sp_append (n:=0) (cs:=[]) (fr:=true) (m:=xs.length) (ds:=(xs.map iv)) (⟨U24,by kernel_rfl,by decide⟩:Elt Try.prog 24 3 1 8) (.tmp 3) (.tmp 4) rfl (fun _ d hd=>by obtain ⟨x,_,rfl⟩:=List.mem_map.1 hd;rfl) (by unfold maxLen;omega) (by omega) (fun d hd=>by obtain ⟨x,_,rfl⟩:=List.mem_map.1 hd;rfl) (es:=(xs.map iv)) (by rw [unfr_ints];rfl)) ⟨I0,I0,T0⟩ ⟨rfl,T0⟩ rfl (pM (aT 5 (.own 1)) (Ze (Zc (Zk ?_))))))))))))))
 refine Zl Try.results34 (.tmp rfl) ?_
 show AV.sl 1 (0+xs.length) (xs.map iv)=Zd xs
 rw [Nat.zero_add];rfl
set_option maxRecDepth 100000
set_option maxHeartbeats 6400000
theorem CopyInts_n (xs:List Int) (hx:xs.length≤17592186044416) (k:Nat):CtrO Try.prog J 34 [Zd xs] k (.row true 3 1 (0+xs.length) (xs.map iv)) (.own k):=by
 refine ctrO_of_tri Try.func34 rfl (by intro X hX;simp at hX;subst hX;exact Yc _) (n:=6) rfl (by simp) (fun w0 => ?_)
 refine kW 6 [] [(0,Zd xs)] (Zb (Za (pM (Ym (.const (.slice none 0 0)) (.v (.slice none 0 0)) rfl) (Ze (Zc (Zb (Za (ZQ rfl (sp_build0 (z:=1) (k:=1) true rfl U24 (by kernel_rfl)) T0 T0 rfl (pM (mT 0 (Zd xs)) (ZQ rfl (sp_append (n:=0) (cs:=[]) (fr:=true) (m:=xs.length) (ds:=(xs.map iv)) (⟨U24,by kernel_rfl,by decide⟩:Elt Try.prog 24 3 1 8) (.tmp 3) (.tmp 4) rfl (fun _ d hd=>by obtain ⟨x,_,rfl⟩:=List.mem_map.1 hd;rfl) (by unfold maxLen;omega) (by omega) (fun d hd=>by obtain ⟨x,_,rfl⟩:=List.mem_map.1 hd;rfl) (es:=(xs.map iv)) (by rw [unfr_ints];rfl)) ⟨I0,I0,T0⟩ ⟨rfl,T0⟩ rfl (pM (aT 5 (.own 1)) (Ze (Zc (Zk ?_))))))))))))))
 refine tri_give1 1 Try.results34 (.tmp rfl) rfl rfl
theorem CopyCf_o {c:Cf} (HC:Rd.CgOk c) (k:Nat):CtrO Try.prog J 17 [.agg (Rd.cCg c)] k (.row true 3 1 (0+c.st.length) (c.st.map iv)) (.agg [.fr (Zd c.sh),.own k,iv c.cor,.fr (Zd c.se),.fr (Zd c.fa),iv c.val]):=by
 refine ctrO_of_tri Try.func17 rfl (by intro X hX;simp only [List.mem_cons,List.not_mem_nil,or_false] at hX;rcases hX with rfl;exact Zt (Rd.plain_cg c)) (n:=20) rfl (by simp) (fun w0 => ?_)
 refine kW 20 [] [(0,.agg (Rd.cCg c))] (Zb (Za (ZQ rfl (YC (X := .agg (Rd.cCg c)) (k:=1) (.tmp 0) rfl rfl) ⟨I0,T0⟩ T0 rfl (ZQ rfl (Z0 (z := .agg #[.slice none 0 0,.slice none 0 0,.int .i64 0,.slice none 0 0,.slice none 0 0,.int .i64 0]) (k:=2) rfl (by kernel_rfl)) T0 T0 rfl (Ze (Zc (Zb ?_)))))))
 refine Zu (dA (fb 0 1 U31 1) I0 (dB (lb (Zd c.sh) 3 U24) I0 rfl (dC (sc #[.tmp 4] [] (CopyInts_u c.sh (Nat.le_trans HC.lsh (by decide))) [Zd c.sh] rfl rfl rfl) I0 I0 (dA (fb 1 1 U31 1) I0 (dB (lb (Zd c.st) 6 U24) I0 rfl (dR (sp_callO (c := .func 34) (xs := #[.tmp 7]) [] (CopyInts_n c.st (Nat.le_trans HC.lst (by decide)) 3) rfl (by kernel_rfl) rfl (Xs:=[Zd c.st]) rfl rfl rfl) ⟨I0,I0,T0⟩ T0 rfl (dA (fb 2 1 U31 1) I0 (dB (lb (iv c.cor) 9 U3) I0 rfl (dA (fb 3 1 U31 1) I0 (dB (lb (Zd c.se) 11 U24) I0 rfl (dC (sc #[.tmp 12] [] (CopyInts_u c.se (Nat.le_trans HC.lse (by decide))) [Zd c.se] rfl rfl rfl) I0 I0 (dA (fb 4 1 U31 1) I0 (dB (lb (Zd c.fa) 14 U24) I0 rfl (dC (sc #[.tmp 15] [] (CopyInts_u c.fa (Nat.le_trans HC.lfa (by decide))) [Zd c.fa] rfl rfl rfl) I0 I0 (dA (fb 5 1 U31 1) I0 (dB (lb (iv c.val) 17 U3) I0 rfl (dR (sp_bldN [0,1,2,3,4,5] [.tmp 5,.tmp 8,.tmp 10,.tmp 13,.tmp 16,.tmp 18] [.fr (Zd c.sh),.own 3,iv c.cor,.fr (Zd c.se),.fr (Zd c.fa),iv c.val] [.inr 0,.inr 1,.inr 2,.inr 3,.inr 4,.inr 5] rfl rfl rfl rfl rfl (fun _=>by kernel_rfl) rfl (ds:=[.fr (Zd c.sh),.own 3,iv c.cor,.fr (Zd c.se),.fr (Zd c.fa),iv c.val]) rfl) ⟨I0,I0,I0,I0,I0,I0,T0⟩ T0 T0 (dR (sB 6 2 (.tmp 19) (.agg [.fr (Zd c.sh),.own 3,iv c.cor,.fr (Zd c.se),.fr (Zd c.fa),iv c.val])) ⟨I0,I0,T0⟩ ⟨rfl,T0⟩ rfl (dE ?_))))))))))))))))))) (by kernel_rfl)
 show ETri J w0 _ _ _
 refine Zc (Zk ?_)
 refine tri_give1 3 Try.results17 (.cellS rfl rfl U31 rfl (z:=6) (by kernel_rfl) rfl (by decide)) rfl rfl
theorem enAgain {p:Fm} (HP:FmOk p) (HL:FamLen p) {n t f:Int} {c:Cf} (HC:Rd.CgOk c) {x y kp z:Int} (hz:Rd.vcE p n t f c=0) (hc:(decide (valE p=0)&&clCo p)=true) (he:En.eaR p n t f c x y kp=true) (h8:n<8) (hi:0≤z∧z<p.states.length):Ctr Try.prog J 12 [.agg (cFm p),.agg (cSz (n+1) 0 0),.agg [Zd c.sh,.sl 1 (0+c.st.length+1) ((Mo.more c z).st.map iv),iv (c.cor+1),Zd c.se,Zd c.fa,iv c.val],.agg [iv x,iv y,iv kp]] (.tup [bT,iv 0]):=by
  rw [show 0+c.st.length+1=(Mo.more c z).st.length by simp [Mo.more]]
  rw [Bool.and_eq_true,decide_eq_true_iff] at hc
  have h1:=Mo.vc_more hc.2 hz h8 hi
  have h2:En.eaR p (n+1) 0 0 (Mo.more c z) x y kp=true:=by
    unfold En.eaR at he ⊢
    rw [if_pos hz] at he
    rw [if_pos h1]
    exact Mo.en_more hc.2 hc.1 he
  have h3:=Enabled_c (J:=J) HP HL (Mo.ok_more HL HC hc.2 hz h8 hi) (n:=n+1) (t:=0) (f:=0) (x:=x) (y:=y) (kp:=kp)
  rwa [h2,h1] at h3
theorem lawMonotone_c {p:Fm} (HP:FmOk p) {n t f:Int} {c:Cf} (HI:Rd.CgIn c) {x y kp:Int} (sa:Int):Ctr Try.prog J 5 [.agg (cFm p++(cSz n t f++Rd.cCg c)),.agg [iv x,iv y,iv kp],iv sa] bT:=by
 have hsp:valE p=0→0<p.states.length:=Mo.st_pos
 refine ZJ Try.func5 rfl (by intro X hX;simp only [List.mem_cons,List.not_mem_nil,or_false] at hX;rcases hX with rfl | rfl | rfl;exact Zt (fun X hX=>by rcases List.mem_append.1 hX with h | h;exact YN p X h;rcases List.mem_append.1 h with h | h;exact KH n t f X h;exact Rd.plain_cg c X h);exact Zt (fun X hX=>by simp only [List.mem_cons,List.not_mem_nil,or_false] at hX;rcases hX with rfl | rfl | rfl<;>exact .v _);exact .v _) (n:=104) rfl (by simp) (fun w0 => ?_)
 refine kW 104 [] [(0,.agg (cFm p++(cSz n t f++Rd.cCg c))),(1,.agg [iv x,iv y,iv kp]),(2,iv sa)] (Zb (Za (ZQ rfl (YC (X := .agg (cFm p++(cSz n t f++Rd.cCg c))) (k:=1) (.tmp 0) rfl rfl) ⟨I0,T0⟩ T0 rfl (ZQ rfl (YC (X := .agg [iv x,iv y,iv kp]) (k:=2) (.tmp 1) rfl rfl) ⟨I0,T0⟩ T0 rfl (pM (aC (.bool false)) (Ze (Zc (Zb (Zb ?_)))))))))
 by_cases hs1:(bigF p)=true
 refine Za (oA (fb 0 3 U33 10) I0 (oB (lS (cFm p) 10 14 U27) I0 rfl (oC (sc #[.tmp 15] [] (ZS (Big_c HP) hs1) [.agg (cFm p)] rfl rfl rfl) I0 I0 (pM (mT 16 bT) (qK (qK (qK (pP (pk true bT (.v (.tuple #[])) rfl) (Ze (Zc (Zm rfl (Zb (Za (oA (sc #[] [] Sh.zknown_c [] rfl rfl rfl) I0 (pM (aT 22 bT) (Ze (Zc (Zk (Zh ?_)))))))))))))))))))
 refine Zl Try.results5 (.tmp rfl) ?_
 exact rfl
 have hs1f:(bigF p)=false:=by simpa using hs1
 by_cases hs2:(wideCf c)=true
 refine Za (oA (fb 0 3 U33 10) I0 (oB (lS (cFm p) 10 14 U27) I0 rfl (oC (sc #[.tmp 15] [] (ZS (Big_c HP) hs1f) [.agg (cFm p)] rfl rfl rfl) I0 I0 (pM (mT 16 bF) (gA (fb 13 3 U33 6) I0 (gB (lS (Rd.cCg c) 6 18 U31) I0 rfl (gC (sc #[.tmp 19] [] (ZS (Rd.Wide_c HI) hs2) [.agg (Rd.cCg c)] rfl rfl rfl) I0 I0 (pP (pk false bT bT rfl) (Ze (Zc (Zm rfl (Zb (Za (oA (sc #[] [] Sh.zknown_c [] rfl rfl rfl) I0 (pM (aT 22 bT) (Ze (Zc (Zk (Zh ?_)))))))))))))))))))
 refine Zl Try.results5 (.tmp rfl) ?_
 exact rfl
 have hs2f:(wideCf c)=false:=by simpa using hs2
 refine Za (oA (fb 0 3 U33 10) I0 (oB (lS (cFm p) 10 14 U27) I0 rfl (oC (sc #[.tmp 15] [] (ZS (Big_c HP) hs1f) [.agg (cFm p)] rfl rfl rfl) I0 I0 (pM (mT 16 bF) (gA (fb 13 3 U33 6) I0 (gB (lS (Rd.cCg c) 6 18 U31) I0 rfl (gC (sc #[.tmp 19] [] (ZS (Rd.Wide_c HI) hs2f) [.agg (Rd.cCg c)] rfl rfl rfl) I0 I0 (pP (pk false bT bF rfl) (Ze (Zc (Zo rfl (Zn (Zc (Zb (Za (oA (fb 0 3 U33 10) I0 (oB (lS (cFm p) 10 24 U27) I0 rfl (oC (sc #[.tmp 25] [] (rClassify_c HP) [.agg (cFm p)] rfl rfl rfl) I0 I0 (pM (mT 26 (.tup [.fr (.agg [bv (decide (valE p=0)&&clTh p),bv (decide (valE p=0)&&clCo p),bv (decide (valE p=0)&&clWo p),bv (decide (valE p=0)&&clTr p),bv (decide (valE p=0)&&clMo p)]),iv (valE p)])) (oA (ZT (X := .fr (.agg [bv (decide (valE p=0)&&clTh p),bv (decide (valE p=0)&&clCo p),bv (decide (valE p=0)&&clWo p),bv (decide (valE p=0)&&clTr p),bv (decide (valE p=0)&&clMo p)])) (.tmp 23) rfl rfl) I0 (oA (ZT (X:=iv (valE p)) (.tmp 23) rfl rfl) I0 (ZQ rfl (Z0 (z := .agg #[.bool false,.bool false,.bool false,.bool false,.bool false]) (k:=3) rfl (by kernel_rfl)) T0 T0 rfl (ZQ rfl (sB 5 7 (.tmp 27) (.agg [bv (decide (valE p=0)&&clTh p),bv (decide (valE p=0)&&clCo p),bv (decide (valE p=0)&&clWo p),bv (decide (valE p=0)&&clTr p),bv (decide (valE p=0)&&clMo p)])) ⟨I0,.inr (.inr (.inl ⟨_,rfl,rfl⟩)),T0⟩ ⟨rfl,T0⟩ rfl ?_)))))))))))))))))))))))
 refine pM (aT 28 (iv (valE p))) (Ze (Zc (Zb (Za (oA (fb 0 3 U33 10) I0 (oB (lS (cFm p) 10 30 U27) I0 rfl (oA (fb 10 3 U33 3) I0 (oB (lS (cSz n t f) 3 32 U29) I0 rfl (oA (fb 13 3 U33 6) I0 (oB (lS (Rd.cCg c) 6 34 U31) I0 rfl (oB (lS ([iv x,iv y,iv kp]) 3 4 U35) I0 rfl (ZQ rfl (sc #[.tmp 31,.tmp 33,.tmp 35,.tmp 36] [] (Enabled_c HP (famLen hs1f) (Rd.cg_ok HI hs2f)) [.agg (cFm p),.agg (cSz n t f),.agg (Rd.cCg c),.agg [iv x,iv y,iv kp]] rfl rfl rfl) ⟨I0,I0,I0,I0,I0,T0⟩ T0 T0 (pM (mT 37 (.tup [bv (En.eaR p n t f c x y kp),iv (Rd.vcE p n t f c)])) (oA (ZT (X:=bv (En.eaR p n t f c x y kp)) (.tmp 29) rfl rfl) I0 (oA (ZT (X:=iv (Rd.vcE p n t f c)) (.tmp 29) rfl rfl) I0 (pM (aT 38 (bv (En.eaR p n t f c x y kp))) (pM (aT 39 (iv (Rd.vcE p n t f c))) (Ze (Zc (Zb (Zb ?_)))))))))))))))))))))
 by_cases hs3:valE p=0
 by_cases hs4:(Rd.vcE p n t f c)=0
 have hvk:=En.vc_ok hs4
 have hco:=(En.cf_in hvk.2).co
 have hai:=Ns.adm_in (Ns.sys_ok hvk.1).2.1
 by_cases hs5:(decide (valE p=0)&&clCo p)=true
 rw [hs5]
 refine kW 104 [(1,.box 33 (cFm p++(cSz n t f++Rd.cCg c))),(2,.box 35 [iv x,iv y,iv kp]),(3,.box 57 [bv (decide (valE p=0)&&clTh p),bT,bv (decide (valE p=0)&&clWo p),bv (decide (valE p=0)&&clTr p),bv (decide (valE p=0)&&clMo p)])] [(2,iv sa),(3,.box 1 0),(4,.box 2 0),(6,bF),(7,.box 3 0),(8,iv (valE p)),(9,bv (En.eaR p n t f c x y kp)),(10,iv (Rd.vcE p n t f c))] ?_
 by_cases hs6:(En.eaR p n t f c x y kp)=true
 rw [hs6]
 refine kW 104 [(1,.box 33 (cFm p++(cSz n t f++Rd.cCg c))),(2,.box 35 [iv x,iv y,iv kp]),(3,.box 57 [bv (decide (valE p=0)&&clTh p),bT,bv (decide (valE p=0)&&clWo p),bv (decide (valE p=0)&&clTr p),bv (decide (valE p=0)&&clMo p)])] [(2,iv sa),(3,.box 1 0),(4,.box 2 0),(6,bF),(7,.box 3 0),(8,iv (valE p)),(9,bT),(10,iv (Rd.vcE p n t f c))] ?_
 by_cases hs7:8≤n
 refine Za (pM (mT 8 (iv (valE p))) (oC (Zs rfl (dT' hs3)) I0 I0 (pM (mT 41 bF) (qM (mT 10 (iv (Rd.vcE p n t f c))) (gC (Zs rfl (dT' hs4)) I0 I0 (pP (pk false bT bF rfl) (pM (mT 45 bF) (gA (fb 1 7 U57 1) I0 (gB (lb bT 47 U4) I0 rfl (gA (Zq rfl rfl) I0 (pP (pk false bT bF rfl) (pM (mT 50 bF) (qM (mT 9 bT) (gA (Zq rfl rfl) I0 (pP (pk false bT bF rfl) (pM (mT 54 bF) (gA (fb 10 3 U33 3) I0 (gA (fb 10 56 U29 1) I0 (gB (lb (iv n) 57 U3) I0 rfl (gC (YL rfl (dT hs7)) I0 I0 (pP (pk false bT bT rfl) (Ze (Zc ?_)))))))))))))))))))))))
 refine Zm rfl (Zb (Za (oA (sc #[] [] Sh.zknown_c [] rfl rfl rfl) I0 (pM (aT 61 bT) (Ze (Zc (Zk (Zh ?_))))))))
 refine Zl Try.results5 (.tmp rfl) ?_
 exact rfl
 refine Za (pM (mT 8 (iv (valE p))) (oC (Zs rfl (dT' hs3)) I0 I0 (pM (mT 41 bF) (qM (mT 10 (iv (Rd.vcE p n t f c))) (gC (Zs rfl (dT' hs4)) I0 I0 (pP (pk false bT bF rfl) (pM (mT 45 bF) (gA (fb 1 7 U57 1) I0 (gB (lb bT 47 U4) I0 rfl (gA (Zq rfl rfl) I0 (pP (pk false bT bF rfl) (pM (mT 50 bF) (qM (mT 9 bT) (gA (Zq rfl rfl) I0 (pP (pk false bT bF rfl) (pM (mT 54 bF) (gA (fb 10 3 U33 3) I0 (gA (fb 10 56 U29 1) I0 (gB (lb (iv n) 57 U3) I0 rfl (gC (YL rfl (dF hs7)) I0 I0 (pP (pk false bT bF rfl) (Ze (Zc ?_)))))))))))))))))))))))
 refine Zo rfl (Zn (Zc (Zb (Za (oA (fb 13 3 U33 6) I0 (oB (lS (Rd.cCg c) 6 62 U31) I0 rfl (ZQ rfl (sp_callO (c := .func 17) (xs := #[.tmp 63]) [] (CopyCf_o (Rd.cg_ok HI hs2f) 4) rfl (by kernel_rfl) rfl (Xs:=[.agg (Rd.cCg c)]) rfl rfl rfl) ⟨I0,I0,T0⟩ T0 rfl (ZQ rfl (Z0 (z := .agg #[.slice none 0 0,.slice none 0 0,.int .i64 0,.slice none 0 0,.slice none 0 0,.int .i64 0]) (k:=5) rfl (by kernel_rfl)) T0 T0 rfl (ZQ rfl (sB 6 11 (.tmp 64) (.agg [.fr (Zd c.sh),.own 4,iv c.cor,.fr (Zd c.se),.fr (Zd c.fa),iv c.val])) ⟨I0,I0,T0⟩ ⟨rfl,T0⟩ rfl (Ze (Zc (Zb ?_))))))))))))
 refine Zu (dA (fb 1 11 U31 1) I0 (dB (lb (.own 4) 65 U24) I0 rfl (dM (mT 2 (iv sa)) (dA (sp_conv (c:=uN sa) rfl U3 U51 rfl) I0 (dA (fb 0 3 U33 10) I0 (dA (fb 2 69 U27 1) I0 (dB (lb (Zw p.states) 70 U22) I0 rfl (dA (nS 71 U22) I0 (dA (sp_conv (c:=((p.states.length:Nat):Int)) rfl U3 U51 (u64_small (Nat.le_trans (famLen hs1f).states (by decide)))) I0 (dC (sp_rem (c:=(((Mo.zS p sa):Nat):Int)) rfl (by omega) (Mo.zS_rem sa)) I0 I0 (dA (sp_conv (c:=(((Mo.zS p sa):Nat):Int)) rfl U51 U3 (i64_small (Nat.le_trans (Nat.le_of_lt (Mo.zS_lt sa hs3)) (Nat.le_trans (famLen hs1f).states (by decide))))) I0 (dR (sp_build (z:=1) (k:=6) (fr:=true) (cs:=[iv ((Mo.zS p sa):Nat)]) [.tmp 75] [iv ((Mo.zS p sa):Nat)] rfl U24 (by kernel_rfl) (by decide) (by decide) rfl rfl rfl (by kernel_rfl) (by decide) (fun _=>by simp [AV.cellsOf,AV.isNew,cLn,cTh]) (by kernel_rfl)) ⟨I0,T0⟩ T0 rfl (dR (sp_appendOwn (n:=(0+c.st.length)) (cs:=(c.st.map iv)) (fr:=true) (m:=1) (ds:=[iv ((Mo.zS p sa):Nat)]) (⟨U24,by kernel_rfl,by decide⟩:Elt Try.prog 24 3 1 8) (.tmp 66) (.tmp 76) rfl (fun _ d hd=>by simp only [List.mem_cons,List.not_mem_nil,or_false] at hd;subst hd;rfl) (by unfold maxLen;have:=(Rd.cg_ok HI hs2f).lst;omega) (by have:=(Rd.cg_ok HI hs2f).lst;omega) (fun d hd=>by simp only [List.mem_cons,List.not_mem_nil,or_false] at hd;subst hd;rfl) (es:=((Mo.more c ((Mo.zS p sa:Nat):Int)).st.map iv)) (by simp [Mo.more,Ye,AV.unfr])) ⟨I0,I0,T0⟩ ⟨rfl,rfl,T0⟩ rfl (dA (fb 1 11 U31 1) I0 (dR (sB 1 78 (.tmp 77) (.own 4)) ⟨I0,I0,T0⟩ ⟨rfl,T0⟩ rfl (dE ?_)))))))))))))))) (by kernel_rfl)
 show ETri J w0 _ _ _
 refine kW 104 [(1,.box 33 (cFm p++(cSz n t f++Rd.cCg c))),(2,.box 35 [iv x,iv y,iv kp]),(4,.row true 3 1 (0+c.st.length+1) ((Mo.more c ((Mo.zS p sa:Nat):Int)).st.map iv)),(5,.box 31 [.fr (Zd c.sh),.own 4,iv c.cor,.fr (Zd c.se),.fr (Zd c.fa),iv c.val])] [(3,.box 1 0),(4,.box 2 0),(6,bF),(11,.box 5 0)] (Zc (Zb (Za (oA (fb 2 11 U31 1) I0 (oB (lb (iv c.cor) 79 U3) I0 rfl (oC (Yj (c:=c.cor+1) rfl (w64 (by omega) (by omega) (by omega))) I0 I0 (oA (fb 2 11 U31 1) I0 (ZQ rfl (sB 1 82 (.tmp 81) (iv (c.cor+1))) ⟨I0,I0,T0⟩ ⟨rfl,T0⟩ rfl (Ze (Zc (Zb (Za (oA (fb 0 3 U33 10) I0 (oB (lS (cFm p) 10 84 U27) I0 rfl (oA (fb 10 3 U33 3) I0 (oA (fb 10 86 U29 1) I0 (oB (lb (iv n) 87 U3) I0 rfl (oC (Yj (c:=n+1) rfl (w64 (by omega) (by omega) (by omega))) I0 I0 (oA (YM [(.tmp 89,.int .i64 (n+1))] #[.int .i64 (n+1),.int .i64 0,.int .i64 0] rfl rfl (by kernel_rfl) rfl) I0 (oB (lS ([.fr (Zd c.sh),.own 4,iv (c.cor+1),.fr (Zd c.se),.fr (Zd c.fa),iv c.val]) 6 11 U31) I0 rfl (oB (lS ([iv x,iv y,iv kp]) 3 4 U35) I0 rfl (ZQ rfl (sc #[.tmp 85,.tmp 90,.tmp 91,.tmp 92] [(4,.row true 3 1 (0+c.st.length+1) ((Mo.more c ((Mo.zS p sa:Nat):Int)).st.map iv))] (enAgain HP (famLen hs1f) (Rd.cg_ok HI hs2f) hs4 hs5 hs6 (by omega) (Mo.zS_in sa hs3)) [.agg (cFm p),.agg [iv (n+1),iv 0,iv 0],.agg [.fr (Zd c.sh),.own 4,iv (c.cor+1),.fr (Zd c.se),.fr (Zd c.fa),iv c.val],.agg [iv x,iv y,iv kp]] rfl rfl rfl) ⟨I0,I0,I0,I0,I0,T0⟩ ⟨rfl,T0⟩ T0 (pM (mT 93 (.tup [bT,iv 0])) ?_)))))))))))))))))))))))
 refine oA (ZT (X:=bT) (.tmp 83) rfl rfl) I0 (oA (ZT (X:=iv 0) (.tmp 83) rfl rfl) I0 (pM (aT 94 bT) (pM (aT 95 (iv 0)) (Ze (Zc (Zb (Za (pM (mT 13 (iv 0)) (oC (Zp (r:=true) rfl (by decide)) I0 I0 (pM (mT 97 bT) (qM (mT 12 bT) (pP (pk true bT bF rfl) (pM (mT 100 bT) (gA (sc #[] [] Sh.zknown_c [] rfl rfl rfl) I0 (pP (pk true bT bF rfl) (pM (aT 103 bT) (Ze (Zc (Zk ?_)))))))))))))))))))
 refine Zl Try.results5 (.tmp rfl) ?_
 exact rfl
 have hs6f:(En.eaR p n t f c x y kp)=false:=by simpa using hs6
 rw [hs6f]
 refine kW 104 [(1,.box 33 (cFm p++(cSz n t f++Rd.cCg c))),(2,.box 35 [iv x,iv y,iv kp]),(3,.box 57 [bv (decide (valE p=0)&&clTh p),bT,bv (decide (valE p=0)&&clWo p),bv (decide (valE p=0)&&clTr p),bv (decide (valE p=0)&&clMo p)])] [(2,iv sa),(3,.box 1 0),(4,.box 2 0),(6,bF),(7,.box 3 0),(8,iv (valE p)),(9,bF),(10,iv (Rd.vcE p n t f c))] (Za (pM (mT 8 (iv (valE p))) (oC (Zs rfl (dT' hs3)) I0 I0 (pM (mT 41 bF) (qM (mT 10 (iv (Rd.vcE p n t f c))) (gC (Zs rfl (dT' hs4)) I0 I0 (pP (pk false bT bF rfl) (pM (mT 45 bF) (gA (fb 1 7 U57 1) I0 (gB (lb bT 47 U4) I0 rfl (gA (Zq rfl rfl) I0 (pP (pk false bT bF rfl) (pM (mT 50 bF) (qM (mT 9 bF) (gA (Zq rfl rfl) I0 (pP (pk false bT bT rfl) (pM (mT 54 bT) (qK (qK (qK (qK (pP (pk true bT (.v (.tuple #[])) rfl) (Ze ?_)))))))))))))))))))))))
 refine Zc (Zm rfl (Zb (Za (oA (sc #[] [] Sh.zknown_c [] rfl rfl rfl) I0 (pM (aT 61 bT) (Ze (Zc (Zk (Zh ?_)))))))))
 refine Zl Try.results5 (.tmp rfl) ?_
 exact rfl
 have hs5f:(decide (valE p=0)&&clCo p)=false:=by simpa using hs5
 rw [hs5f]
 refine kW 104 [(1,.box 33 (cFm p++(cSz n t f++Rd.cCg c))),(2,.box 35 [iv x,iv y,iv kp]),(3,.box 57 [bv (decide (valE p=0)&&clTh p),bF,bv (decide (valE p=0)&&clWo p),bv (decide (valE p=0)&&clTr p),bv (decide (valE p=0)&&clMo p)])] [(2,iv sa),(3,.box 1 0),(4,.box 2 0),(6,bF),(7,.box 3 0),(8,iv (valE p)),(9,bv (En.eaR p n t f c x y kp)),(10,iv (Rd.vcE p n t f c))] (Za (pM (mT 8 (iv (valE p))) (oC (Zs rfl (dT' hs3)) I0 I0 (pM (mT 41 bF) (qM (mT 10 (iv (Rd.vcE p n t f c))) (gC (Zs rfl (dT' hs4)) I0 I0 (pP (pk false bT bF rfl) (pM (mT 45 bF) (gA (fb 1 7 U57 1) I0 (gB (lb bF 47 U4) I0 rfl (gA (Zq rfl rfl) I0 (pP (pk false bT bT rfl) (pM (mT 50 bT) (qK (qK (pP (pk true bT (.v (.tuple #[])) rfl) (pM (mT 54 bT) (qK (qK (qK (qK (pP (pk true bT (.v (.tuple #[])) rfl) (Ze ?_)))))))))))))))))))))))
 refine Zc (Zm rfl (Zb (Za (oA (sc #[] [] Sh.zknown_c [] rfl rfl rfl) I0 (pM (aT 61 bT) (Ze (Zc (Zk (Zh ?_)))))))))
 refine Zl Try.results5 (.tmp rfl) ?_
 exact rfl
 refine Za (pM (mT 8 (iv (valE p))) (oC (Zs rfl (dT' hs3)) I0 I0 (pM (mT 41 bF) (qM (mT 10 (iv (Rd.vcE p n t f c))) (gC (Zs rfl (dF' hs4)) I0 I0 (pP (pk false bT bT rfl) (pM (mT 45 bT) (qK (qK (qK (pP (pk true bT (.v (.tuple #[])) rfl) (pM (mT 50 bT) (qK (qK (pP (pk true bT (.v (.tuple #[])) rfl) (pM (mT 54 bT) (qK (qK (qK (qK (pP (pk true bT (.v (.tuple #[])) rfl) (Ze (Zc ?_)))))))))))))))))))))))
 refine Zm rfl (Zb (Za (oA (sc #[] [] Sh.zknown_c [] rfl rfl rfl) I0 (pM (aT 61 bT) (Ze (Zc (Zk (Zh ?_))))))))
 refine Zl Try.results5 (.tmp rfl) ?_
 exact rfl
 refine Za (pM (mT 8 (iv (valE p))) (oC (Zs rfl (dF' hs3)) I0 I0 (pM (mT 41 bT) (qK (qK (pP (pk true bT (.v (.tuple #[])) rfl) (pM (mT 45 bT) (qK (qK (qK (pP (pk true bT (.v (.tuple #[])) rfl) (pM (mT 50 bT) (qK (qK (pP (pk true bT (.v (.tuple #[])) rfl) (pM (mT 54 bT) (qK (qK (qK (qK (pP (pk true bT (.v (.tuple #[])) rfl) (Ze (Zc ?_)))))))))))))))))))))))
 refine Zm rfl (Zb (Za (oA (sc #[] [] Sh.zknown_c [] rfl rfl rfl) I0 (pM (aT 61 bT) (Ze (Zc (Zk (Zh ?_))))))))
 refine Zl Try.results5 (.tmp rfl) ?_
 exact rfl
theorem walk_UnfoldMonotone {v:Value} {p:Fm} {n t f:Int} {c:Cf} {x y kp sa:Int} (w:World) (h:IsAt w v p n t f c) (_:I64 x) (_:I64 y) (_:I64 kp) (_:I64 sa) :
    Calls Try.prog 5 #[v,.agg #[.int .i64 x,.int .i64 y,.int .i64 kp],.int .i64 sa] w fun e w'=>e = .returned (.bool true)∧Below w.heap.size w w':=by
  have hp:=Rd.at_pu h
  obtain ⟨fs,cs,_,hF,hC⟩:=h
  exact (lawMonotone_c (J:=fun _=>True) hF.ok (Rd.cf_in hC) sa w #[v,.agg #[.int .i64 x,.int .i64 y,.int .i64 kp],.int .i64 sa] (fun _ _=>T0) rfl fun j hj=>(match j,hj with
    | 0,_=>hp
    | 1,_ => .agg rfl fun j hj=>(match j,hj with | 0,_ => .v _ | 1,_ => .v _ | 2,_ => .v _)
    | 2,_ => .v _)).mono fun _ _ ⟨_,he,hp,hb⟩=>⟨by rw [he,hp.v_inv],hb⟩
end Go.Proofs.Ytengacodacejiaa
namespace Go.Proofs.Ytengacodacejiaa
open Go.RowKit Go.Deep Go.ChangeShapes Go.WideShapes Go.ChangeAt Go.Joins
theorem cells_step:Try.prog.cellsOf 35=3:=by kernel_rfl
set_option maxRecDepth 100000 in
theorem step_of_trod {H:Type} {enc:TypeId × Value→H} {w:World} {base:Nat} {sp:Nat→Bool} {held:Bool} {n:Nat} {cs:List Value} {x:DataW H × List MemPlace} (h:DataW.trod enc Try.prog w base sp held n 35 cs=some x) :
    ∃ c0 c1 c2,cs=[.int .i64 c0,.int .i64 c1,.int .i64 c2]∧I64 c0∧I64 c1∧I64 c2:=by
  obtain ⟨ys,m,_,_,hlen,_,hf⟩:=DataW.trod_struct Try.underlying35 h
  rw [cells_step] at hlen
  match cs,hlen with
  | [v0,v1,v2],_ =>
    have h0:DataW.trod enc Try.prog w base sp held m 3 (([v0,v1,v2].drop 0).take (Try.prog.cellsOf 3))=ys[0]? := hf 0 _ rfl
    have h1:DataW.trod enc Try.prog w base sp held m 3 (([v0,v1,v2].drop 1).take (Try.prog.cellsOf 3))=ys[1]? := hf 1 _ rfl
    have h2:DataW.trod enc Try.prog w base sp held m 3 (([v0,v1,v2].drop 2).take (Try.prog.cellsOf 3))=ys[2]? := hf 2 _ rfl
    rw [Z7] at h0 h1 h2
    simp only [List.drop_zero,List.take_succ_cons,List.take_zero] at h0
    simp only [List.drop_succ_cons,List.drop_zero,List.take_succ_cons,List.take_zero] at h1 h2
    have hx:∀ i,i<3→∃ y,ys[i]? = some y:=fun i hi=>⟨ys[i]'(by simp at *;omega),List.getElem?_eq_getElem _⟩
    obtain ⟨y0,e0⟩:=hx 0 (by omega)
    rw [e0] at h0
    obtain ⟨c0,rfl,q0⟩:=ZU h0
    obtain ⟨y1,e1⟩:=hx 1 (by omega)
    rw [e1] at h1
    obtain ⟨c1,rfl,q1⟩:=ZU h1
    obtain ⟨y2,e2⟩:=hx 2 (by omega)
    rw [e2] at h2
    obtain ⟨c2,rfl,q2⟩:=ZU h2
    exact ⟨c0,c1,c2,rfl,q0,q1,q2⟩
set_option maxRecDepth 100000 in
theorem arg_step {H:Type} {enc:TypeId × Value→H} {w:World} {r:Reach} {b0:Nat} {v:Value} {d:DataW H} {p:List MemPlace} (hv:Value.okWide Try.prog w r b0 35 v) (h:DataW.Trod enc Try.prog w 0 (fun _=>true) true 35 v d p) :
    ∃ c0 c1 c2,v = .agg #[.int .i64 c0,.int .i64 c1,.int .i64 c2]∧I64 c0∧I64 c1∧I64 c2:=by
  obtain ⟨cs,rfl,_⟩:=okWide_struct Try.underlying35 hv
  obtain ⟨fuel,hf⟩:=h
  obtain ⟨c0,c1,c2,e,q⟩:=step_of_trod hf
  have e2:cs = #[.int .i64 c0,.int .i64 c1,.int .i64 c2]:=by obtain ⟨l⟩:=cs;simp [Value.cells] at e;simpa using e
  exact ⟨c0,c1,c2,by rw [e2],q⟩
end Go.Proofs.Ytengacodacejiaa
