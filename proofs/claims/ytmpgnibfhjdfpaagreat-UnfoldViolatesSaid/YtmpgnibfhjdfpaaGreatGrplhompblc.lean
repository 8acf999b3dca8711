import Derived.Test.YtmpgnibfhjdfpaaGreatGrphldnmggl
import Derived.Test.YtmpgnibfhjdfpaaGreatGrplfdmpooj
set_option linter.all false
namespace Go.Proofs.YtmpgnibfhjdfpaaGreat
open Go.RowKit Go.Deep
variable {J:World->Prop}
def nmA (q:Fm):List ByteArray:=q.sz++(q.msgs++q.vals)
theorem nmA_len (q:Fm):(nmA q).length=0+q.sz.length+q.msgs.length+q.vals.length:=by unfold nmA;simp;omega
theorem nmA_map (q:Fm):(q.sz++q.msgs).map sv++q.vals.map sv=(nmA q).map sv:=by unfold nmA;simp
def argB (q:Fm):Bool := !inB 1 4 q.top || !inB 0 3 q.fzz
def tooI (q:Fm):Bool:=(((decide ((6:Int)<(q.sz.length:Int))||decide ((3:Int)<(q.msgs.length:Int)))||decide ((3:Int)<(q.vals.length:Int)))||decide ((4:Int)<(q.res.length:Int)))||decide ((8:Int)<(q.rz.length:Int))
theorem tooI_eq (q:Fm):tooI q=tooB q:=by
 rw [Bool.eq_iff_iff]
 unfold tooI tooB
 simp only [Bool.or_eq_true,decide_eq_true_eq]
 omega
variable {q:Fm}
theorem Wi (h:tooI q=false):q.sz.length<=6/\q.msgs.length<=3/\q.vals.length<=3/\q.res.length<=4/\q.rz.length<=8:=by
 unfold tooI at h
 simp only [Bool.or_eq_false_iff,decide_eq_false_iff_not] at h
 omega
def misB (q:Fm):Bool:=(!decide (q.top=1)&&(((decide ((0:Int)<(q.msgs.length:Int))||decide ((0:Int)<(q.vals.length:Int)))||decide ((0:Int)<(q.res.length:Int))) || !decide (q.fzz=0)))||(decide (q.top=1)&&decide ((0:Int)<(q.lz.length:Int)))
theorem misB_iff (q:Fm):misB q=true↔((q.top≠1/\cliB q=true)\/(q.top=1/\0<q.lz.length)):=by
 unfold misB cliB
 simp only [Bool.or_eq_true,Bool.and_eq_true,Bool.not_eq_true',decide_eq_true_eq,decide_eq_false_iff_not]
 omega
def resB2 (q:Fm) (k:Nat):Bool:=(q.res.take k).any λl => !smL l.c l.n l.t l.f
variable {k:Nat}
theorem resB2_succ (hk:k<q.res.length) (h:resB2 q k=false) (e:smL q.res[k].c q.res[k].n q.res[k].t q.res[k].f=true):resB2 q (k+1)=false:=by
 unfold resB2 at *
 rw [List.take_succ_eq_append_getElem hk,List.any_append,h];simp [e]
theorem resB2_yes (hk:k<q.res.length) (e:smL q.res[k].c q.res[k].n q.res[k].t q.res[k].f=false):resB2 q q.res.length=true:=by
 unfold resB2;rw [List.take_length,List.any_eq_true];exact ⟨q.res[k],List.getElem_mem hk,by rw [e];rfl⟩
structure VA (q:Fm):Prop where
 nm:nameB q.nm.toList=true
 ar:argB q=false
 st:¬ ((q.sz.length:Int)=0)
 tb:tooI q=false
def val3 (q:Fm):Int:=orE (if q.init.length=0 then 1 else setE q.sz.length q.init) (orE (setE q.sz.length q.lz) (orE (rulesE q 0 q.rz.length) (if 3<(diffG q.rz).length then 4 else 0)))
def val2 (q:Fm):Int:=if nmOk (nmA q) (nmA q).length=false then 2 else if misB q=true then 1 else if resB2 q q.res.length=true then 4 else val3 q
theorem argB_t (h:argB q=true):inB 1 4 q.top=false\/inB 0 3 q.fzz=false:=by
 unfold argB at h;simpa using h
theorem argB_f (h:argB q=false):¬ (inB 1 4 q.top=false\/inB 0 3 q.fzz=false):=by
 unfold argB at h;simpa using h
theorem valE_nm (h:nameB q.nm.toList=false):valE q=2:=if_pos h
theorem valE_ar (h:nameB q.nm.toList=true) (h2:argB q=true):valE q=1:=by
 unfold valE;rw [if_neg (by rw [h];simp),if_pos (argB_t h2)]
theorem valE_st (h:nameB q.nm.toList=true) (h2:argB q=false) (h3:(q.sz.length:Int)=0):valE q=1:=by
 unfold valE;rw [if_neg (by rw [h];simp),if_neg (argB_f h2),if_pos (by omega)]
theorem valE_tb (h:nameB q.nm.toList=true) (h2:argB q=false) (h3:¬ ((q.sz.length:Int)=0)) (h4:tooI q=true):valE q=4:=by
 unfold valE;rw [if_neg (by rw [h];simp),if_neg (argB_f h2),if_neg (by omega),if_pos (by rw [<- tooI_eq];exact h4)]
theorem W6 (h:VA q):valE q=val2 q:=by
 unfold valE val2
 rw [if_neg (by rw [h.nm];simp),if_neg (argB_f h.ar),if_neg (by have:=h.st;omega),if_neg (by rw [<- tooI_eq,h.tb];simp)]
 have e:resB2 q q.res.length=(q.res.any λl => !smL l.c l.n l.t l.f):=by unfold resB2;rw [List.take_length]
 rw [e]
 by_cases m:misB q=true
 ·rw [if_pos m,if_pos ((misB_iff q).1 m)];rfl
 rw [if_neg m,if_neg (λk=>m ((misB_iff q).2 k))];rfl
theorem val2_nm (h:nmOk (nmA q) (nmA q).length=false):val2 q=2:=if_pos h
theorem val2_mis (h:nmOk (nmA q) (nmA q).length=true) (h2:misB q=true):val2 q=1:=by
 unfold val2;rw [if_neg (by rw [h];simp),if_pos h2]
theorem val2_res (h:nmOk (nmA q) (nmA q).length=true) (h2:misB q=false) (h3:resB2 q q.res.length=true):val2 q=4:=by
 unfold val2;rw [if_neg (by rw [h];simp),if_neg (by rw [h2];simp),if_pos h3]
theorem Zco (h:nmOk (nmA q) (nmA q).length=true) (h2:misB q=false) (h3:resB2 q q.res.length=false):val2 q=val3 q:=by
 unfold val2;rw [if_neg (by rw [h];simp),if_neg (by rw [h2];simp),if_neg (by rw [h3];simp)]
theorem val3_i (h:¬ setE q.sz.length q.init=0):val3 q=setE q.sz.length q.init:=by
 have:q.init.length≠0:=by
  intro e;rw [List.eq_nil_of_length_eq_zero e,KC] at h;exact h rfl
 unfold val3;rw [if_neg this,Ki _ h]
theorem val3_n (h:(q.init.length:Int)=0):val3 q=1:=by
 unfold val3;rw [if_pos (by omega),Ki _ (by omega)]
structure VC (q:Fm):Prop where
 i:setE q.sz.length q.init=0
 n:¬ ((q.init.length:Int)=0)
theorem val3_l (h:VC q) (h2:¬ setE q.sz.length q.lz=0):val3 q=setE q.sz.length q.lz:=by
 unfold val3;rw [if_neg (by have:=h.n;omega),h.i,ZD,Ki _ h2]
def rulOk (q:Fm) (k:Nat):Prop:=∀ i (h:i<q.rz.length),i<k->rruleE q i q.rz[i]=0
theorem rulOk_zero (q:Fm):rulOk q 0:=λ_ _ h=>absurd h (by omega)
theorem rulOk_succ (hk:k<q.rz.length) (h:rulOk q k) (e:rruleE q k q.rz[k]=0):rulOk q (k+1):=λi hi h'=>by
 by_cases x:i=k
 ·subst x;exact e
 exact h i hi (by omega)
theorem Za9 {q:Fm}:∀ (f i j:Nat),i<=j->j<i+f->(∀ k,i<=k->k<j->ruleE q k (q.rz.getD k default)=0)->ruleE q j (q.rz.getD j default)≠0->rulesE q i f=ruleE q j (q.rz.getD j default)
 | 0,i,j,h1,h2,_,_=>absurd h2 (by omega)
 | f+1,i,j,h1,h2,h3,h4=>by
   unfold rulesE
   by_cases e:i=j
   ·subst e;rw [if_neg h4]
   rw [if_pos (h3 i (Nat.le_refl _) (by omega))]
   exact Za9 f (i+1) j (by omega) (by omega) (λk a b=>h3 k (by omega) b) h4
theorem ZbL {q:Fm}:∀ (f i:Nat),(∀ k,i<=k->k<i+f->ruleE q k (q.rz.getD k default)=0)->rulesE q i f=0
 | 0,i,_=>rfl
 | f+1,i,h=>by
   unfold rulesE
   rw [if_pos (h i (Nat.le_refl _) (by omega))]
   exact ZbL f (i+1) (λk a b=>h k (by omega) (by omega))
theorem rul_get (hk:k<q.rz.length):q.rz.getD k default=q.rz[k]:=by simp [List.getD,hk]
theorem Zd4 (hs:¬ ((q.sz.length:Int)=0)) (hk:k<q.rz.length):ruleE q k (q.rz.getD k default)=rruleE q k q.rz[k]:=by
 rw [rul_get hk];exact rule_eq q k _ (by rintro e;rw [e] at hs;simp at hs)
theorem val3_r (h:VC q) (h2:setE q.sz.length q.lz=0) (hs:¬ ((q.sz.length:Int)=0)) (hk:k<q.rz.length) (hr:rulOk q k) (e:¬ rruleE q k q.rz[k]=0):val3 q=rruleE q k q.rz[k]:=by
 have e':rulesE q 0 q.rz.length=rruleE q k q.rz[k]:=by
  rw [Za9 q.rz.length 0 k (by omega) (by omega) (λj _ b=>by rw [Zd4 hs (by omega)];exact hr j (by omega) b) (by rw [Zd4 hs hk];exact e),Zd4 hs hk]
 unfold val3;rw [if_neg (by have:=h.n;omega),h.i,ZD,h2,ZD,e',Ki _ e]
theorem val3_e (h:VC q) (h2:setE q.sz.length q.lz=0) (hs:¬ ((q.sz.length:Int)=0)) (hr:rulOk q q.rz.length):val3 q=if 3<(diffG q.rz).length then 4 else 0:=by
 have e':rulesE q 0 q.rz.length=0:=ZbL _ _ λk _ b=>by rw [Zd4 hs (by omega)];exact hr k (by omega) (by omega)
 unfold val3;rw [if_neg (by have:=h.n;omega),h.i,ZD,h2,ZD,e',ZD]
theorem val3_d (h:VC q) (h2:setE q.sz.length q.lz=0) (hs:¬ ((q.sz.length:Int)=0)) (hr:rulOk q q.rz.length) (h3:(3:Int)<(((diffG q.rz).length:Nat):Int)):val3 q=4:=by
 rw [val3_e h h2 hs hr,if_pos (by omega)]
theorem val3_0 (h:VC q) (h2:setE q.sz.length q.lz=0) (hs:¬ ((q.sz.length:Int)=0)) (hr:rulOk q q.rz.length) (h3:¬ (3:Int)<(((diffG q.rz).length:Nat):Int)):val3 q=0:=by
 rw [val3_e h h2 hs hr,if_neg (by omega)]
theorem ZcA (hs:¬ ((q.sz.length:Int)=0)) (hr:rulOk q q.rz.length):∀ r∈q.rz,r.gz.length<=2:=λr h=>by
 obtain ⟨i,hi,rfl⟩:=List.getElem_of_mem h
 exact Wq (q:=q) (i:=i) (by have:=Zd4 hs hi;rw [rul_get hi] at this;rw [this];exact hr i hi hi)
variable {lo:Nat}{w:World}{v:Value}{xs:List ByteArray}
theorem strs_of (h:IsSl 1 StrEl lo w v xs):IsStrs lo w v xs:=by
 have h0:∀ x∈xs,x.size<=maxLen:=h.all λcs x h=>h.2
 obtain ⟨a,cap,hv,a1,a2,a3,a4⟩:=h
 refine ⟨a,cap,hv,a1,a2,⟨h0,a3⟩,?_⟩
 rcases a4 with a4 | ⟨b,off,b1,b2,b3,b4⟩
 ·exact .inl a4
 refine .inr ⟨b,off,b1,b2,b3,λi hi => ?_⟩
 obtain ⟨cs,c1,c2,c3⟩:=b4 i hi
 obtain ⟨e,_⟩:=c3
 subst e
 have:=c2 0 (by simp)
 simpa [List.getD_eq_getElem?_getD,hi] using this
theorem ZeW (hx:∀ s∈xs,s.size<=maxLen) (hk:k<=xs.length) (s:ByteArray):Ctr Tryz.prog J 107 [.sl 1 (k-0) ((xs.take k).map sv),sv s] (bv (hasT (xs.take k) s)):=by
 have e:AV.sl 1 (k-0) ((xs.take k).map sv)=ZN (xs.take k):=by unfold ZN;rw [List.length_take,Nat.min_eq_left hk];rfl
 rw [e]
 exact ctr2 λw v v' _ h h'=>by
  rw [h'.v_inv];exact (Zcc s (strs_of (Zdh (λs hs=>hx s (List.mem_of_mem_take hs)) lo0 h))).mono λ_ _=>Zay
theorem WJ (h:FmOk q):∀ s∈nmA q,s.size<=maxLen:=λs hs=>by
 unfold nmA at hs
 simp only [List.mem_append] at hs
 rcases hs with hs | hs | hs
 ·exact h.sz s hs
 ·exact h.msgs s hs
 exact h.vals s hs
theorem th_own {F:Nat->Prop} {l:List Th} (h:OwnTh lo w v l):Pu F w (nw w lo) (slA 6 cTh l) v:=by
 have:=owns_v (F:=F) h.1 (ok:=nw w lo) λb h1 h2=>⟨h1,h2⟩
 rw [List.map_flatMap] at this
 exact this
theorem ZcM (hq:FmOk q) (h8:q.rz.length<=8) (h2:∀ r∈q.rz,r.gz.length<=2):Ctr Tryz.prog J 110 [.agg (cFm q)] (slA 6 cTh (diffG q.rz)):=ctr1 λw v _ h =>
 (ZeC (fam_of hq lo0 h) h8 h2).mono λ_ _ ⟨v',he,ho,hb⟩=>⟨v',he,th_own ho,hb⟩
end Go.Proofs.YtmpgnibfhjdfpaaGreat
