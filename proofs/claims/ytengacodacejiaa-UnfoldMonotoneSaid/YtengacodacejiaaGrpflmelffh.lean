import Derived.Test.YtengacodacejiaaGrpnncoefma
import Derived.Test.YtengacodacejiaaGrpglmclemb
set_option linter.all false
namespace Go.Proofs.Ytengacodacejiaa
open Go.RowKit Go.Deep
variable {J:World→Prop}
def nmA (q:Fm):List ByteArray:=q.states++(q.msgs++q.vals)
theorem nmA_len (q:Fm):(nmA q).length=0+q.states.length+q.msgs.length+q.vals.length:=by unfold nmA;simp;omega
theorem nmA_map (q:Fm):(q.states++q.msgs).map sv++q.vals.map sv=(nmA q).map sv:=by unfold nmA;simp
def argB (q:Fm):Bool := !inB 1 4 q.top || !inB 0 3 q.fault
def tooI (q:Fm):Bool:=(((decide ((6:Int)<((q.states.length:Nat):Int))||decide ((3:Int)<((q.msgs.length:Nat):Int)))||decide ((3:Int)<((q.vals.length:Nat):Int)))||decide ((4:Int)<((q.res.length:Nat):Int)))||decide ((8:Int)<((q.rules.length:Nat):Int))
theorem tooI_eq (q:Fm):tooI q=tooB q:=by
  rw [Bool.eq_iff_iff]
  unfold tooI tooB
  simp only [Bool.or_eq_true,decide_eq_true_eq]
  omega
theorem tooI_no {q:Fm} (h:tooI q=false):q.states.length≤6∧q.msgs.length≤3∧q.vals.length≤3∧q.res.length≤4∧q.rules.length≤8:=by
  unfold tooI at h
  simp only [Bool.or_eq_false_iff,decide_eq_false_iff_not] at h
  omega
def misB (q:Fm):Bool:=(!decide (q.top=1)&&(((decide ((0:Int)<((q.msgs.length:Nat):Int))||decide ((0:Int)<((q.vals.length:Nat):Int)))||decide ((0:Int)<((q.res.length:Nat):Int))) || !decide (q.fault=0)))||(decide (q.top=1)&&decide ((0:Int)<((q.leader.length:Nat):Int)))
theorem misB_iff (q:Fm):misB q=true↔((q.top≠1∧cliB q=true)∨(q.top=1∧0<q.leader.length)):=by
  unfold misB cliB
  simp only [Bool.or_eq_true,Bool.and_eq_true,Bool.not_eq_true',decide_eq_true_eq,decide_eq_false_iff_not]
  omega
def resB2 (q:Fm) (k:Nat):Bool:=(q.res.take k).any fun l => !smL l.c l.n l.t l.f
theorem resB2_succ {q:Fm} {k:Nat} (hk:k<q.res.length) (h:resB2 q k=false) (e:smL q.res[k].c q.res[k].n q.res[k].t q.res[k].f=true):resB2 q (k+1)=false:=by
  unfold resB2 at *
  rw [List.take_succ_eq_append_getElem hk,List.any_append,h];simp [e]
theorem resB2_yes {q:Fm} {k:Nat} (hk:k<q.res.length) (e:smL q.res[k].c q.res[k].n q.res[k].t q.res[k].f=false):resB2 q q.res.length=true:=by
  unfold resB2;rw [List.take_length,List.any_eq_true];exact ⟨q.res[k],List.getElem_mem hk,by rw [e];rfl⟩
structure VA (q:Fm):Prop where
  nm:nameB q.nm.toList=true
  ar:argB q=false
  st:¬ (((q.states.length:Nat):Int)=0)
  tb:tooI q=false
def val3 (q:Fm):Int:=orE (if q.init.length=0 then 1 else setE q.states.length q.init) (orE (setE q.states.length q.leader) (orE (rulesE q 0 q.rules.length) (if 3<(diffG q.rules).length then 4 else 0)))
def val2 (q:Fm):Int:=if nmOk (nmA q) (nmA q).length=false then 2 else if misB q=true then 1 else if resB2 q q.res.length=true then 4 else val3 q
theorem argB_t {q:Fm} (h:argB q=true):inB 1 4 q.top=false∨inB 0 3 q.fault=false:=by
  unfold argB at h;simpa using h
theorem argB_f {q:Fm} (h:argB q=false):¬ (inB 1 4 q.top=false∨inB 0 3 q.fault=false):=by
  unfold argB at h;simpa using h
theorem valE_nm {q:Fm} (h:nameB q.nm.toList=false):valE q=2:=if_pos h
theorem valE_ar {q:Fm} (h:nameB q.nm.toList=true) (h2:argB q=true):valE q=1:=by
  unfold valE;rw [if_neg (by rw [h];simp),if_pos (argB_t h2)]
theorem valE_st {q:Fm} (h:nameB q.nm.toList=true) (h2:argB q=false) (h3:((q.states.length:Nat):Int)=0):valE q=1:=by
  unfold valE;rw [if_neg (by rw [h];simp),if_neg (argB_f h2),if_pos (by omega)]
theorem valE_tb {q:Fm} (h:nameB q.nm.toList=true) (h2:argB q=false) (h3:¬ (((q.states.length:Nat):Int)=0)) (h4:tooI q=true):valE q=4:=by
  unfold valE;rw [if_neg (by rw [h];simp),if_neg (argB_f h2),if_neg (by omega),if_pos (by rw [← tooI_eq];exact h4)]
theorem valE_2 {q:Fm} (h:VA q):valE q=val2 q:=by
  unfold valE val2
  rw [if_neg (by rw [h.nm];simp),if_neg (argB_f h.ar),if_neg (by have:=h.st;omega),if_neg (by rw [← tooI_eq,h.tb];simp)]
  have e:resB2 q q.res.length=(q.res.any fun l => !smL l.c l.n l.t l.f):=by unfold resB2;rw [List.take_length]
  rw [e]
  by_cases m:misB q=true
  · rw [if_pos m,if_pos ((misB_iff q).1 m)];rfl
  rw [if_neg m,if_neg (fun k=>m ((misB_iff q).2 k))];rfl
theorem val2_nm {q:Fm} (h:nmOk (nmA q) (nmA q).length=false):val2 q=2:=if_pos h
theorem val2_mis {q:Fm} (h:nmOk (nmA q) (nmA q).length=true) (h2:misB q=true):val2 q=1:=by
  unfold val2;rw [if_neg (by rw [h];simp),if_pos h2]
theorem val2_res {q:Fm} (h:nmOk (nmA q) (nmA q).length=true) (h2:misB q=false) (h3:resB2 q q.res.length=true):val2 q=4:=by
  unfold val2;rw [if_neg (by rw [h];simp),if_neg (by rw [h2];simp),if_pos h3]
theorem val2_3 {q:Fm} (h:nmOk (nmA q) (nmA q).length=true) (h2:misB q=false) (h3:resB2 q q.res.length=false):val2 q=val3 q:=by
  unfold val2;rw [if_neg (by rw [h];simp),if_neg (by rw [h2];simp),if_neg (by rw [h3];simp)]
theorem val3_i {q:Fm} (h:¬ setE q.states.length q.init=0):val3 q=setE q.states.length q.init:=by
  have:q.init.length≠0:=by
    intro e;rw [List.eq_nil_of_length_eq_zero e,KG] at h;exact h rfl
  unfold val3;rw [if_neg this,Y8 _ h]
theorem val3_n {q:Fm} (h:((q.init.length:Nat):Int)=0):val3 q=1:=by
  unfold val3;rw [if_pos (by omega),Y8 _ (by omega)]
structure VC (q:Fm):Prop where
  i:setE q.states.length q.init=0
  n:¬ (((q.init.length:Nat):Int)=0)
theorem val3_l {q:Fm} (h:VC q) (h2:¬ setE q.states.length q.leader=0):val3 q=setE q.states.length q.leader:=by
  unfold val3;rw [if_neg (by have:=h.n;omega),h.i,ZL,Y8 _ h2]
def rulOk (q:Fm) (k:Nat):Prop:=∀ i (h:i<q.rules.length),i<k→rruleE q i q.rules[i]=0
theorem rulOk_zero (q:Fm):rulOk q 0:=fun _ _ h=>absurd h (by omega)
theorem rulOk_succ {q:Fm} {k:Nat} (hk:k<q.rules.length) (h:rulOk q k) (e:rruleE q k q.rules[k]=0):rulOk q (k+1):=fun i hi h'=>by
  by_cases x:i=k
  · subst x;exact e
  exact h i hi (by omega)
theorem rulesE_first {q:Fm}:∀ (f i j:Nat),i≤j→j<i+f→(∀ k,i≤k→k<j→ruleE q k (q.rules.getD k default)=0)→ruleE q j (q.rules.getD j default)≠0→rulesE q i f=ruleE q j (q.rules.getD j default)
  | 0,i,j,h1,h2,_,_=>absurd h2 (by omega)
  | f+1,i,j,h1,h2,h3,h4=>by
    unfold rulesE
    by_cases e:i=j
    · subst e;rw [if_neg h4]
    rw [if_pos (h3 i (Nat.le_refl _) (by omega))]
    exact rulesE_first f (i+1) j (by omega) (by omega) (fun k a b=>h3 k (by omega) b) h4
theorem rulesE_zero {q:Fm}:∀ (f i:Nat),(∀ k,i≤k→k<i+f→ruleE q k (q.rules.getD k default)=0)→rulesE q i f=0
  | 0,i,_=>rfl
  | f+1,i,h=>by
    unfold rulesE
    rw [if_pos (h i (Nat.le_refl _) (by omega))]
    exact rulesE_zero f (i+1) (fun k a b=>h k (by omega) (by omega))
theorem rul_get {q:Fm} {k:Nat} (hk:k<q.rules.length):q.rules.getD k default=q.rules[k]:=by simp [List.getD,hk]
theorem rul_eq {q:Fm} (hs:¬ (((q.states.length:Nat):Int)=0)) {k:Nat} (hk:k<q.rules.length):ruleE q k (q.rules.getD k default)=rruleE q k q.rules[k]:=by
  rw [rul_get hk];exact rule_eq q k _ (by rintro e;rw [e] at hs;simp at hs)
theorem val3_r {q:Fm} (h:VC q) (h2:setE q.states.length q.leader=0) (hs:¬ (((q.states.length:Nat):Int)=0)) {k:Nat} (hk:k<q.rules.length) (hr:rulOk q k) (e:¬ rruleE q k q.rules[k]=0):val3 q=rruleE q k q.rules[k]:=by
  have e':rulesE q 0 q.rules.length=rruleE q k q.rules[k]:=by
    rw [rulesE_first q.rules.length 0 k (by omega) (by omega) (fun j _ b=>by rw [rul_eq hs (by omega)];exact hr j (by omega) b) (by rw [rul_eq hs hk];exact e),rul_eq hs hk]
  unfold val3;rw [if_neg (by have:=h.n;omega),h.i,ZL,h2,ZL,e',Y8 _ e]
theorem val3_e {q:Fm} (h:VC q) (h2:setE q.states.length q.leader=0) (hs:¬ (((q.states.length:Nat):Int)=0)) (hr:rulOk q q.rules.length):val3 q=if 3<(diffG q.rules).length then 4 else 0:=by
  have e':rulesE q 0 q.rules.length=0:=rulesE_zero _ _ fun k _ b=>by rw [rul_eq hs (by omega)];exact hr k (by omega) (by omega)
  unfold val3;rw [if_neg (by have:=h.n;omega),h.i,ZL,h2,ZL,e',ZL]
theorem val3_d {q:Fm} (h:VC q) (h2:setE q.states.length q.leader=0) (hs:¬ (((q.states.length:Nat):Int)=0)) (hr:rulOk q q.rules.length) (h3:(3:Int)<(((diffG q.rules).length:Nat):Int)):val3 q=4:=by
  rw [val3_e h h2 hs hr,if_pos (by omega)]
theorem val3_0 {q:Fm} (h:VC q) (h2:setE q.states.length q.leader=0) (hs:¬ (((q.states.length:Nat):Int)=0)) (hr:rulOk q q.rules.length) (h3:¬ (3:Int)<(((diffG q.rules).length:Nat):Int)):val3 q=0:=by
  rw [val3_e h h2 hs hr,if_neg (by omega)]
theorem rul_guards {q:Fm} (hs:¬ (((q.states.length:Nat):Int)=0)) (hr:rulOk q q.rules.length):∀ r∈q.rules,r.guards.length≤2:=fun r h=>by
  obtain ⟨i,hi,rfl⟩:=List.getElem_of_mem h
  exact rule_guards (q:=q) (i:=i) (by have:=rul_eq hs hi;rw [rul_get hi] at this;rw [this];exact hr i hi hi)
theorem fst1 {xs:List ByteArray}:Zw xs=slA 1 (fun s=>[sv s]) xs:=by
  have e0:∀ xs:List ByteArray,xs.map sv=xs.flatMap fun s=>[sv s]:=fun xs=>by
    induction xs with
    | nil=>rfl
    | cons x xs ih=>simp only [List.map_cons,List.flatMap_cons,ih];rfl
  unfold Zw slA;rw [e0]
theorem strs_of {lo:Nat} {w:World} {v:Value} {xs:List ByteArray} (h:IsSl 1 StrEl lo w v xs):IsStrs lo w v xs:=by
  have h0:∀ x∈xs,x.size≤maxLen:=h.all fun cs x h=>h.2
  obtain ⟨a,cap,hv,a1,a2,a3,a4⟩:=h
  refine ⟨a,cap,hv,a1,a2,⟨h0,a3⟩,?_⟩
  rcases a4 with a4 | ⟨b,off,b1,b2,b3,b4⟩
  · exact .inl a4
  refine .inr ⟨b,off,b1,b2,b3,fun i hi => ?_⟩
  obtain ⟨cs,c1,c2,c3⟩:=b4 i hi
  obtain ⟨e,_⟩:=c3
  subst e
  have:=c2 0 (by simp)
  simpa [List.getD_eq_getElem?_getD,hi] using this
theorem HasText_k {xs:List ByteArray} (hx:∀ s∈xs,s.size≤maxLen) {k:Nat} (hk:k≤xs.length) (s:ByteArray):Ctr Try.prog J 54 [.sl 1 (k-0) ((xs.take k).map sv),sv s] (bv (hasT (xs.take k) s)):=by
  have e:AV.sl 1 (k-0) ((xs.take k).map sv)=Zw (xs.take k):=by unfold Zw;rw [List.length_take,Nat.min_eq_left hk];rfl
  rw [e]
  exact ctr2 fun w v v' _ h h'=>by
    rw [h'.v_inv];exact (HasText_any s (strs_of (pu_strs (fun s hs=>hx s (List.mem_of_mem_take hs)) lo0 h))).mono fun _ _=>ret_eq
theorem nmA_sizes {q:Fm} (h:FmOk q):∀ s∈nmA q,s.size≤maxLen:=fun s hs=>by
  unfold nmA at hs
  simp only [List.mem_append] at hs
  rcases hs with hs | hs | hs
  · exact h.states s hs
  · exact h.msgs s hs
  exact h.vals s hs
theorem th_pu {F ok:Nat→Prop} {lo:Nat} {w:World} (g:Th) (vs:List Value) (h:ThEl lo w vs g):∀ j (hj:j<(cTh g).length),Pu F w ok (cTh g)[j] (vs.getD j undef):=by
  obtain ⟨rfl,_⟩:=h
  intro j hj
  match j,hj with
  | 0,_=>exact .v _
  | 1,_=>exact .v _
  | 2,_=>exact .v _
  | 3,_=>exact .v _
  | 4,_=>exact .v _
  | 5,_=>exact .v _
theorem th_own {F:Nat→Prop} {lo:Nat} {w:World} {v:Value} {l:List Th} (h:OwnTh lo w v l):Pu F w (nw w lo) (slA 6 cTh l) v:=by
  have:=owns_v (F:=F) h.1 (ok:=nw w lo) fun b h1 h2=>⟨h1,h2⟩
  rw [List.map_flatMap] at this
  exact this
theorem distinct_c {q:Fm} (hq:FmOk q) (h8:q.rules.length≤8) (h2:∀ r∈q.rules,r.guards.length≤2):Ctr Try.prog J 58 [.agg (cFm q)] (slA 6 cTh (diffG q.rules)):=ctr1 fun w v _ h =>
  (distinct_any (fam_of hq lo0 h) h8 h2).mono fun _ _ ⟨v',he,ho,hb⟩=>⟨v',he,th_own ho,hb⟩
end Go.Proofs.Ytengacodacejiaa
