import Derived.Orders
import Derived.IntWalk
import Derived.Test.YtmpgnibfhjdfpaaGreatGrpaggajjjj
set_option linter.all false
namespace Go.Proofs.YtmpgnibfhjdfpaaGreat
open Go.RowKit Go.Deep
variable {J:World->Prop}
def Ctr (P:Program) (J:World->Prop) (f:FuncId) (args:List AV) (u:AV):Prop :=
 ∀ (w:World) (vs:Array Value),(∀ w',Below w.heap.size w w'->J w')->vs.size=args.length->(∀ j (hj:j<args.length),Pu (λ_=>True) w (λb=>b<w.heap.size) args[j] (vs.getD j undef)) ->
  Calls P f vs w λe w'=>∃ v,e = .returned v/\Pu (w.heap.size <= ·) w' (nw w' w.heap.size) u v/\Below w.heap.size w w'
def AV.view1 (rd:List (Nat × ABlk)):AV->AV
 | .own k=>match rd.find? (λp=>p.1==k) with | some (_,.row _ _ z n cs) => .sl z n cs | _ => .any
 | .box _ _ => .any
 | .bsl _ _ _ => .any
 | .fr X=>X
 | .old _ X=>X
 | X=>X
def AV.flat1:AV->Bool
 | .agg _=>false
 | .tup _=>false
 | .clo _ _=>false
 | _=>true
def AV.flat2:AV->Bool
 | .agg cs=>cs.all AV.flat1
 | .clo _ cs=>cs.all AV.flat1
 | .tup _=>false
 | _=>true
def AV.viewC (rd:List (Nat × ABlk)):AV->AV
 | .box k o=>match rd.find? (λp=>p.1==k) with | some (_,.box _ cs)=>if cs.all AV.flat1 then .el (cs.map (AV.view1 rd)) o else .any | _ => .any
 | X=>X.view1 rd
def AV.view (rd:List (Nat × ABlk)):AV->AV
 | .agg cs => .agg (cs.map (AV.view1 rd))
 | .clo f cs => .clo f (cs.map (AV.viewC rd))
 | X=>X.view1 rd
variable {ρ:Names}{B e z n:Nat}{w:World}{cs:List AV}
theorem Zb1 {nm:Nm} {fr:Bool} (hb:BlkR ρ w B nm (.row fr e z n cs)) {F ok:Nat->Prop} (hn:∀ b c m,nm = .at b c m->ok b) (hok:∀ b,okR ρ fr B w b->b<w.heap.size->ok b) (hF:∀ b,b<w.heap.size->B<=b->F b):Pu F w ok (.sl z n cs) nm.val:=by
 obtain ⟨xs,h1,h2,h3⟩:=hb
 have h4:=h1
 obtain ⟨h5,h6⟩:=h4
 have hp:∀ j (hj:j<cs.length),Pu F w ok cs[j] (xs.getD j undef):=λj hj=>(h3 j hj).mono (λb hb hw=>⟨hok b hb hw,hw,rfl⟩) λb hw h=>hF b hw h
 cases nm with
 | nil =>
   rcases h6 with ⟨_,rfl⟩ | ⟨g,cap,cur,hv,_⟩
   ·have:cs=[]:=List.eq_nil_of_length_eq_zero (by rw [<- h2,h5,Nat.zero_mul])
    subst this
    exact .sl0 (by simp [maxLen]) (by simp)
   cases hv
 | «at» b c m =>
   rcases h6 with ⟨hv,_⟩ | ⟨g,cap,cur,hv,hB,hg,hn1,hm,hs,ht⟩
   ·cases hv
   simp only [Nm.val,Value.slice.injEq,Option.some.injEq,Addr.mk.injEq,and_true] at hv
   obtain ⟨rfl,rfl,rfl⟩:=hv
   refine .sl (b:=b) (off:=0) (f:=λj=>xs.getD j undef) (by omega) hn1 hm (hn _ _ _ rfl) (Array.getElem?_eq_some_iff.1 hg).1 (λj hj => ?_) hp
   have hj':j<xs.length:=by omega
   have:cur.toList[j]? = xs[j]? := by rw [<- ht,List.getElem?_take,if_pos (by rw [<- h5];exact hj')]
   rw [Nat.zero_add,Yn hg j (v:=xs.getD j undef) (by rw [<- Array.getElem?_toList,this,List.getD_eq_getElem?_getD,List.getElem?_eq_getElem hj'];rfl)]
variable {X:AV}{x:Value}
theorem Pu.lift {F ok:Nat->Prop} (h:Pu F w ok X x):Pu (λ_=>True) w (λb=>b<w.heap.size) X x:=h.mono (λ_ _ hw=>⟨hw,hw,rfl⟩) λ_ _ _=>trivial
theorem Rel.view1 {ρ:Names} {B:Nat} {w:World} {rd:List (Nat × ABlk)} (hwf:WF ρ B w) (hr:∀ p∈rd,∃ nm,ρ p.1=some nm/\BlkR ρ w B nm p.2) {X:AV} {x:Value} (h:Rel ρ B w X x) (hf:X.flat1=true):Pu (λ_=>True) w (λb=>b<w.heap.size) (X.view1 rd) x:=by
 cases h with
 | pu h =>
   cases h with
   | fr h=>exact h.lift
   | any x=>exact .any x
   | v x=>exact .v x
   | agg hl h=>exact (Pu.agg hl h).lift
   | tup hl h=>exact (Pu.tup hl h).lift
   | sl0 h2 hz=>exact .sl0 h2 hz
   | sl hc h1 h2 hb hw hq h=>exact (Pu.sl hc h1 h2 hb hw hq h).lift
   | el hb hw hq h=>exact (Pu.el hb hw hq h).lift
   | clo hl h=>exact (Pu.clo hl h).lift
   | old h=>exact (h.weak λ_ h=>h.1).lift
 | box h=>exact .any _
 | own h =>
   rename_i k nm
   simp only [AV.view1]
   split
   ·rename_i q fr e z n cs hq
    obtain ⟨nm',h1,h2⟩:=hr _ (List.mem_of_find?_eq_some hq)
    have hqk:q=k:=by have:=List.find?_some hq;simpa using this
    rw [hqk,h] at h1
    cases h1
    exact Zb1 h2 (λb c m e=>by subst e;exact (hwf.lo _ _ _ _ h).2) (λb _ hw=>hw) λ_ _ _=>trivial
   exact .any _
 | bsl h=>exact .any _
 | agg hl h=>cases hf
 | tup hl h=>cases hf
 | clo hl h=>cases hf
theorem Rel.viewC {ρ:Names} {B:Nat} {w:World} {rd:List (Nat × ABlk)} (hwf:WF ρ B w) (hr:∀ p∈rd,∃ nm,ρ p.1=some nm/\BlkR ρ w B nm p.2) {X:AV} {x:Value} (h:Rel ρ B w X x) (hf:X.flat1=true):Pu (λ_=>True) w (λb=>b<w.heap.size) (X.viewC rd) x:=by
 cases X with
 | box k o =>
   simp only [AV.viewC]
   obtain ⟨b,c,n,h1,rfl⟩:=h.box_inv
   split
   ·rename_i q T cs hq
    obtain ⟨nm',h1',b',c',n',vs,e,hg,hvs,hrel⟩:=hr _ (List.mem_of_find?_eq_some hq)
    have hqk:q=k:=by have:=List.find?_some hq;simpa using this
    rw [hqk,h1] at h1'
    cases h1';cases e
    split
    ·rename_i hfl
     have:=Pu.el (F:=λ_=>True) (w:=w) (ok:=λb=>b<w.heap.size) (b:=b) (off:=0) (o:=o) (cs:=cs.map (AV.view1 rd)) (f:=λj=>vs.getD j undef) (hwf.lo _ _ _ _ h1).2 (hwf.lo _ _ _ _ h1).2 (λj hj => ?_) λj hj => ?_
     ·simpa using this
     ·have hj':j<vs.size:=by rw [hvs];simpa using hj
      rw [Nat.zero_add,Yn hg j (v:=vs.getD j undef) (by simp [Array.getD,hj'])]
     rw [List.getElem_map]
     exact (hrel j (by simpa using hj)).view1 hwf hr (List.all_eq_true.1 hfl _ (List.getElem_mem _))
    exact .any _
   exact .any _
 | agg cs=>cases hf
 | tup cs=>cases hf
 | clo f cs=>cases hf
 | v y=>exact h.view1 hwf hr rfl
 | own k=>exact h.view1 hwf hr rfl
 | sl z n cs=>exact h.view1 hwf hr rfl
 | el cs o=>exact h.view1 hwf hr rfl
 | fr X=>exact h.view1 hwf hr rfl
 | any=>exact h.view1 hwf hr rfl
 | old n X=>exact h.view1 hwf hr rfl
 | bsl k o m=>exact h.view1 hwf hr rfl
theorem Rel.view {ρ:Names} {B:Nat} {w:World} {rd:List (Nat × ABlk)} (hwf:WF ρ B w) (hr:∀ p∈rd,∃ nm,ρ p.1=some nm/\BlkR ρ w B nm p.2) {X:AV} {x:Value} (h:Rel ρ B w X x) (hf:X.flat2=true):Pu (λ_=>True) w (λb=>b<w.heap.size) (X.view rd) x:=by
 cases X with
 | agg cs =>
   obtain ⟨vs,rfl,hl,hc⟩:=h.agg_inv
   exact .agg (by simpa using hl) λj hj=>by
    rw [List.getElem_map]
    exact (hc j (by simpa using hj)).view1 hwf hr (List.all_eq_true.1 hf _ (List.getElem_mem _))
 | tup cs=>cases hf
 | v y=>exact h.view1 hwf hr rfl
 | box k o=>exact h.view1 hwf hr rfl
 | own k=>exact h.view1 hwf hr rfl
 | sl z n cs=>exact h.view1 hwf hr rfl
 | el cs o=>exact h.view1 hwf hr rfl
 | fr X=>exact h.view1 hwf hr rfl
 | any=>exact h.view1 hwf hr rfl
 | old n X=>exact h.view1 hwf hr rfl
 | bsl k o m=>exact h.view1 hwf hr rfl
 | clo f cs =>
   obtain ⟨vs,rfl,hl,hc⟩:=h.clo_inv
   exact .clo (by simpa using hl) λj hj=>by
    rw [List.getElem_map]
    exact (hc j (by simpa using hj)).viewC hwf hr (List.all_eq_true.1 hf _ (List.getElem_mem _))
def AV.res:AV->AV
 | .tup cs => .tup (cs.map AV.mkFr)
 | X=>X.mkFr
theorem Pu.res {F ok:Nat->Prop} {w:World} {X:AV} {x:Value} (h:Pu F w (λb=>ok b/\F b/\soft w b) X x):Pu F w ok X.res x:=by
 cases X with
 | tup cs=>cases h with | tup hl h=>exact .tup (by simpa using hl) λj hj=>by rw [List.getElem_map];exact (h j (by simpa using hj)).mkFr
 | v y=>exact h.mkFr
 | agg cs=>exact h.mkFr
 | box k o=>exact h.mkFr
 | own k=>exact h.mkFr
 | sl z n cs=>exact h.mkFr
 | el cs o=>exact h.mkFr
 | fr X=>exact h.mkFr
 | any=>exact h.mkFr
 | clo f cs=>exact h.mkFr
 | old n X=>exact h.mkFr
 | bsl k o m=>exact h.mkFr
section
variable {P:Program} {o:Oper}
variable {a:Act}{c:Operand}{f:FuncId}
theorem KK {K:Act->World->Prop} {Q:Exit->Act->World->Prop} {xs:Array Operand} {ats:Array TypeId} (ho:o.op = .call { callee := .value c,args:=xs,argTypes:=ats }) {caps:Array Value} (hc:a.eval c = .func (.func f) #[] caps)
 (hf : (P.funcs[f]?).map (λfn => (fn.name == "runtime.NumGoroutine") || fn.body.isNone) = some false) (h : Calls P f (xs.map a.eval ++ caps) w λe w' => ∃ v, e = .returned v /\ K (a.put o.dst v) w') : o.wp P a w K Q := by
 obtain ⟨fn,h1,h2⟩:=Option.map_eq_some_iff.1 hf
 simp only [Bool.or_eq_false_iff] at h2
 obtain ⟨h2,h3⟩:=h2
 unfold Oper.wp execOp
 simp only [ho,resolve,hc,Deferred.ofValue,Sem.run_bind,Sem.run_pure,Result.andThen_ok,invoke]
 have:(callFunc f (#[]++xs.map a.eval++caps)).run P w = .ok (.enter f (xs.map a.eval++caps)) w:=by
  unfold callFunc
  rw [Sem.run_bind,show (program:Sem Program).run P w = .ok P w from rfl,Result.andThen_ok]
  simp only [h1,h2,h3,Bool.false_eq_true,if_false,Sem.run_pure]
  simp
 rw [this]
 refine h.mono λe w' ⟨v,he,hv⟩ => ?_
 subst he
 exact hv
theorem Ze3 {xs:Array Operand} {ats:Array TypeId} {Xs Ys:List AV} {u U:AV} (rd:List (Nat × ABlk)) (hC:Ctr P J f Ys u) (ho:o.op = .call { callee := .value c,args:=xs,argTypes:=ats })
 (hf : (P.funcs[f]?).map (λfn => (fn.name == "runtime.NumGoroutine") || fn.body.isNone) = some false) (hl : xs.size = Xs.length) (hv : Xs.map (AV.view rd) = Ys) (hfl : Xs.all AV.flat2 = true) (hU : u.res = U) :
 ASpec P J o ((c,.v (.func (.func f) #[] #[]))::xs.toList.zip Xs) rd U .no:=by
 subst hv hU
 intro ρ B a w K Q hwf hB hJ ha hr _ hk
 refine KK ho (ha (c,.v (.func (.func f) #[] #[])) (by simp)).v_inv hf ?_
 rw [Array.append_empty]
 refine (hC w (xs.map a.eval) (λw' h=>hJ w' (Y8 h)) (by simpa using hl) λj hj => ?_).mono λe w' ⟨v,he,hp,hb⟩=>⟨v,he,hk ρ w' v ⟨rfl,hb.os,hb.tape,hb.output,hb.size,λb hb' _=>hb.block b hb',λ_ _ _=>rfl,(λ_ _ h=>by cases h),(λ_ _ h=>by cases h),.pu (hp.mono (λb hb' hw=>⟨⟨λk c n hk => ?_,Nat.le_trans hB hb'.1,hb'.2⟩,hw,rfl⟩) λb _ h=>Nat.le_trans hB h).res,λ_ _ h=>nomatch h⟩⟩
 ·have hj1:j<Xs.length:=by simpa using hj
  have hj2:j<xs.size:=by omega
  rw [List.getElem_map]
  have hm:(xs[j],Xs[j])∈(c,AV.v (.func (.func f) #[] #[]))::xs.toList.zip Xs:=by
   refine List.mem_cons_of_mem _ ?_
   rw [List.mem_iff_getElem]
   exact ⟨j,by simp;omega,by simp⟩
  have:=(ha _ hm).view hwf hr (List.all_eq_true.1 hfl _ (List.getElem_mem hj1))
  simpa [Array.getD,hj2] using this
 have:=(hwf.lo _ _ _ _ hk).2;have:=hb'.1;omega
end
section
variable {P:Program} {w0:Wb} {h:AHeap} {t:ATm} {Q:Exit->Act->World->Prop}
theorem Zi {x y:Code} (H:ETri J w0 h t (x.wp P (Exit.then (y.wp P Q) Q))):ETri J w0 h t ((Code.seq x y).wp P Q):=fun ρ a w s=>wp_seq (H ρ a w s)
theorem Zj (H:ETri J w0 h t (Q .normal)):ETri J w0 h t (Code.skip.wp P Q):=fun ρ a w s=>wp_skip (H ρ a w s)
variable {c:Operand}{b:Bool}
theorem tri_cond {x y:Code} (hc:aev t c = .v (.bool b)) (H:ETri J w0 h t ((if b then x else y).wp P Q)):ETri J w0 h t ((Code.cond c x y).wp P Q):=fun ρ a w s=>by
 have:=s.ev c
 rw [hc] at this
 exact wp_cond this.v_inv (H ρ a w s)
variable {id:Nat}
theorem Zh {c:Code} (H:ETri J w0 h t (c.wp P (Exit.inBlock id Q))):ETri J w0 h t ((Code.block id c).wp P Q):=fun ρ a w s=>wp_block (H ρ a w s)
theorem KR (H:ETri J w0 h t (Q (.exit id))):ETri J w0 h t ((Code.exit id).wp P Q):=fun ρ a w s=>wp_exit (H ρ a w s)
theorem ZQ (H:ETri J w0 h t (Q .ret)):ETri J w0 h t (Code.ret.wp P Q):=fun ρ a w s=>wp_ret (H ρ a w s)
theorem Za {l:List Oper} (H:ETri J w0 h t (wpList P l.toArray Q l)):ETri J w0 h t ((Code.region id l.toArray false).wp P Q):=fun ρ a w s=>wp_region_lit (H ρ a w s)
def Wk (h:AHeap) (t:ATm) (h':AHeap) (t':ATm):Prop:=∀ J w0 ρ a w,Sat J w0 ρ h t a w->∃ ρ',Sat J w0 ρ' h' t' a w
theorem Yp {h':AHeap} {t':ATm} {Φ:Act->World->Prop} (k:Wk h t h' t') (H:ETri J w0 h' t' Φ):ETri J w0 h t Φ:=fun ρ a w s=>by
 obtain ⟨ρ',s'⟩:=k J w0 ρ a w s
 exact H ρ' a w s'
def Again {σ:Type} (J:World->Prop) (w0:Wb) (I:σ->AHeap × ATm) (m:σ->Nat) (s:σ) (a:Act) (w:World):Prop:=∃ s',m s'<m s/\∃ ρ,Sat J w0 ρ (I s').1 (I s').2 a w
theorem Zw {σ:Type} (I:σ->AHeap × ATm) (m:σ->Nat) (s0:σ) {c:Code} (k:Wk h t (I s0).1 (I s0).2)
 (H:∀ s,ETri J w0 (I s).1 (I s).2 (c.wp P (Exit.then (Again J w0 I m s) Q))):ETri J w0 h t ((Code.loop c).wp P Q):=fun ρ a w s=>by
 obtain ⟨ρ',s'⟩:=k J w0 ρ a w s
 refine wp_loop_ghost (λn a w=>∃ s,m s=n/\∃ ρ,Sat J w0 ρ (I s).1 (I s).2 a w) (m s0) ⟨s0,rfl,ρ',s'⟩ ?_
 rintro n a w ⟨s,rfl,ρ,hs⟩
 refine wp_mono (H s ρ a w hs) λe a w hq => ?_
 cases e with
 | normal =>
   obtain ⟨s',h1,h2⟩:=hq
   exact ⟨m s',h1,s',rfl,h2⟩
 | exit id=>exact hq
 | goto l=>exact hq
 | ret=>exact hq
 | panic ch=>exact hq
 | outgrown=>exact hq
theorem Zp {σ:Type} {I:σ->AHeap × ATm} {m:σ->Nat} {s:σ} (s':σ) (hm:m s'<m s) (k:Wk h t (I s').1 (I s').2):ETri J w0 h t (Again J w0 I m s):=fun ρ a w hs=>by
 obtain ⟨ρ',hs'⟩:=k J w0 ρ a w hs
 exact ⟨s',hm,ρ',hs'⟩
end
inductive Plain:AV->Prop
 | any:Plain .any
 | v (x:Value):Plain (.v x)
 | agg {cs:List AV} (h:∀ j (hj:j<cs.length),Plain cs[j]):Plain (.agg cs)
 | tup {cs:List AV} (h:∀ j (hj:j<cs.length),Plain cs[j]):Plain (.tup cs)
 | sl {z n:Nat} {cs:List AV} (h:∀ j (hj:j<cs.length),Plain cs[j]):Plain (.sl z n cs)
 | el {o:Nat} {cs:List AV} (h:∀ j (hj:j<cs.length),Plain cs[j]):Plain (.el cs o)
 | clo {f:FuncId} {cs:List AV} (h:∀ j (hj:j<cs.length),Plain cs[j]):Plain (.clo f cs)
theorem Pu.plain {F F' ok:Nat->Prop} (h:Pu F w ok X x) (hp:Plain X):Pu F' w ok X x:=by
 induction h with
 | any x=>exact .any x
 | v x=>exact .v x
 | agg hl _ ih=>cases hp with | agg hp=>exact .agg hl λj hj=>ih j hj (hp j hj)
 | tup hl _ ih=>cases hp with | tup hp=>exact .tup hl λj hj=>ih j hj (hp j hj)
 | fr _ _=>cases hp
 | old _ _=>cases hp
 | sl0 h2 hz=>exact .sl0 h2 hz
 | sl hc h1 h2 hb hw hf _ ih=>cases hp with | sl hp=>exact .sl hc h1 h2 hb hw hf λj hj=>ih j hj (hp j hj)
 | el hb hw hf _ ih=>cases hp with | el hp=>exact .el hb hw hf λj hj=>ih j hj (hp j hj)
 | clo hl _ ih=>cases hp with | clo hp=>exact .clo hl λj hj=>ih j hj (hp j hj)
theorem ZE (h:∀ X∈cs,Plain X):∀ j (hj:j<cs.length),Plain cs[j]:=λj _=>h _ (List.getElem_mem _)
def AV.wk1 (keep:Nat->Bool) (h:AHeap):AV->AV
 | .box k o=>if keep k then .box k o else .any
 | .own k=>if keep k then .own k else match h k with | some (.row nw _ z n cs)=>(if nw then .fr (.sl z n cs) else .sl z n cs) | _ => .any
 | .bsl k o m=>if keep k then .bsl k o m else .any
 | .agg _ => .any
 | .tup _ => .any
 | .clo _ _ => .any
 | X=>X
def AV.wk2 (keep:Nat->Bool) (h:AHeap):AV->AV
 | .clo f cs => .clo f (cs.map (AV.wk1 keep h))
 | .agg cs => .agg (cs.map (AV.wk1 keep h))
 | X=>X.wk1 keep h
def AV.wk3 (keep:Nat->Bool) (h:AHeap):AV->AV
 | .tup cs => .tup (cs.map (AV.wk2 keep h))
 | X=>X.wk2 keep h
def ABlk.wk (keep:Nat->Bool) (h:AHeap):ABlk->ABlk
 | .box T cs => .box T (cs.map (AV.wk1 keep h))
 | X=>X
def ofT (n:Nat) (T:List (Nat × AV)):ATm:=⟨n,λi=>((T.find? λp=>p.1==i).map (·.2)).getD .any⟩
def ofL (L:List (Nat × ABlk)):AHeap:=λk=>(L.find? λp=>p.1==k).map (·.2)
def keepL (L:List (Nat × ABlk)) (k:Nat):Bool:=(L.any λp=>p.1==k)||Nat.ble hand k
def kept (keep:Nat->Bool) (ρ:Names):Names:=⟨λk=>if keep k then ρ k else none,ρ.H⟩
section
variable {ρ:Names} {h:AHeap} {w:World} {w0:Wb} {keep:Nat->Bool}
variable {k:Nat}
theorem KU {keep:Nat->Bool} {ρ:Names} (h:keep k=true):kept keep ρ k=ρ k:=if_pos h
theorem Zfm {keep:Nat->Bool} {ρ:Names} (h:keep k=false):kept keep ρ k=none:=if_neg (by rw [h];simp)
theorem Kd (hwf:WF ρ w0.heap.size w) (hp:∀ k X,h k=some X->∃ nm,ρ k=some nm/\BlkR ρ w w0.heap.size nm X) (hr:Rel ρ w0.heap.size w X x):Rel (kept keep ρ) w0.heap.size w (X.wk1 keep h) x:=by
 have hok:∀ b,okOf ρ b->okOf (kept keep ρ) b:=λb hb k c n hk=>by
  dsimp only [kept] at hk
  split at hk
  ·exact hb _ _ _ hk
  cases hk
 cases hr with
 | pu hr =>
   have hr':=hr.weak hok
   cases hr with
   | agg hl h=>exact .anyR
   | tup hl h=>exact .anyR
   | clo hl h=>exact .anyR
   | old h=>exact .pu hr'
   | any x=>exact .pu hr'
   | v x=>exact .pu hr'
   | fr h=>exact .pu hr'
   | sl0 h2 hz=>exact .pu hr'
   | sl hc h1 h2 hb hw hf h=>exact .pu hr'
   | el hb hw hf h=>exact .pu hr'
 | box hk =>
   rename_i k o b c n
   simp only [AV.wk1]
   split
   ·rename_i hkk;exact .box (by rw [KU hkk];exact hk)
   exact .anyR
 | own hk =>
   rename_i k nm
   simp only [AV.wk1]
   split
   ·rename_i hkk;exact .own (by rw [KU hkk];exact hk)
   rename_i hkk
   split
   ·rename_i fr e z n cs hh
    obtain ⟨nm',h1,h2⟩:=hp k _ hh
    rw [hk] at h1;cases h1
    have hb:∀ b c m,nm = .at b c m->okOf (kept keep ρ) b:=λb c m e=>by
     subst e
     refine λj c' n' hj => ?_
     dsimp only [kept] at hj
     split at hj
     ·rename_i hj2
      have:=hwf.inj _ _ _ _ _ _ _ hj hk
      subst this
      exact hkk hj2
     cases hj
    cases fr with
    | true=>exact .pu (.fr (Zb1 h2 (λb c m e=>⟨hb b c m e,h2.lowR e,h2.softR e⟩) (λb hb _=>⟨hok _ hb.1,hb.2 rfl⟩) λ_ _ h=>h))
    | false=>exact .pu (Zb1 h2 (λb c m e=>hb b c m e) (λb hb _=>hok _ hb.1) λ_ _ h=>h)
   exact .anyR
 | bsl hk hx =>
   simp only [AV.wk1]
   split
   ·rename_i hkk;exact .bsl (by rw [KU hkk];exact hk) hx
   exact .anyR
 | agg hl hr=>exact .anyR
 | tup hl hr=>exact .anyR
 | clo hl hr=>exact .anyR
theorem Kw (hwf:WF ρ w0.heap.size w) (hp:∀ k X,h k=some X->∃ nm,ρ k=some nm/\BlkR ρ w w0.heap.size nm X) (hr:Rel ρ w0.heap.size w X x):Rel (kept keep ρ) w0.heap.size w (X.wk2 keep h) x:=by
 cases X with
 | agg cs =>
   obtain ⟨vs,rfl,hl,hc⟩:=hr.agg_inv
   exact .agg (by simpa using hl) λj hj=>by rw [List.getElem_map];exact Kd hwf hp (hc j (by simpa using hj))
 | tup cs=>exact .anyR
 | v y=>exact Kd hwf hp hr
 | box k o=>exact Kd hwf hp hr
 | own k=>exact Kd hwf hp hr
 | sl z n cs=>exact Kd hwf hp hr
 | el cs o=>exact Kd hwf hp hr
 | fr X=>exact Kd hwf hp hr
 | any=>exact Kd hwf hp hr
 | clo f cs =>
   obtain ⟨vs,rfl,hl,hc⟩:=hr.clo_inv
   exact .clo (by simpa using hl) λj hj=>by rw [List.getElem_map];exact Kd hwf hp (hc j (by simpa using hj))
 | old n X=>exact Kd hwf hp hr
 | bsl k o m=>exact Kd hwf hp hr
theorem Zfd (hwf:WF ρ w0.heap.size w) (hp:∀ k X,h k=some X->∃ nm,ρ k=some nm/\BlkR ρ w w0.heap.size nm X) (hr:Rel ρ w0.heap.size w X x):Rel (kept keep ρ) w0.heap.size w (X.wk3 keep h) x:=by
 cases X with
 | tup cs =>
   obtain ⟨vs,rfl,hl,hc⟩:=hr.tup_inv
   exact .tup (by simpa using hl) λj hj=>by rw [List.getElem_map];exact Kw hwf hp (hc j (by simpa using hj))
 | agg cs=>exact Kw hwf hp hr
 | v y=>exact Kw hwf hp hr
 | box k o=>exact Kw hwf hp hr
 | own k=>exact Kw hwf hp hr
 | sl z n cs=>exact Kw hwf hp hr
 | el cs o=>exact Kw hwf hp hr
 | fr X=>exact Kw hwf hp hr
 | any=>exact Kw hwf hp hr
 | clo f cs=>exact Kw hwf hp hr
 | old n X=>exact Kw hwf hp hr
 | bsl k o m=>exact Kw hwf hp hr
end
theorem Zk {h:AHeap} {t:ATm} (L:List (Nat × ABlk)) (T:List (Nat × AV)) (hn:t.n=n:=by rfl) (hL:L.map (λp=>(h p.1).map (ABlk.wk (keepL L) h))=L.map (λp=>some p.2):=by kernel_rfl) (hT:T.map (λp=>(t.f p.1).wk3 (keepL L) h)=T.map (·.2):=by kernel_rfl):Wk h t (ofL L) (ofT n T):=by
 subst hn
 intro J w0 ρ a w s
 refine ⟨kept (keepL L) ρ,?_⟩
 have H:∀ X x,Rel ρ w0.heap.size w X x->Rel (kept (keepL L) ρ) w0.heap.size w (X.wk3 (keepL L) h) x:=λX x hx=>Zfd s.wf s.hp hx
 have H1:∀ X x,Rel ρ w0.heap.size w X x->Rel (kept (keepL L) ρ) w0.heap.size w (X.wk1 (keepL L) h) x:=λX x hx=>Kd s.wf s.hp hx
 have hsub:∀ k nm,kept (keepL L) ρ k=some nm->ρ k=some nm:=λk nm e=>by
  dsimp only [kept] at e
  split at e
  ·exact e
  cases e
 refine ⟨⟨λj k b c d m n hj hk=>s.wf.inj _ _ _ _ _ _ _ (hsub _ _ hj) (hsub _ _ hk),λk b c n hk=>s.wf.lo _ _ _ _ (hsub _ _ hk)⟩,s.hH,s.bel,s.inv,λk X hk => ?_,λk hl hk => ?_,λk hk=>(KU (by unfold keepL;rw [Bool.or_eq_true];exact .inr (Nat.ble_eq ▸ hk))).trans (s.pin k hk),s.tl,λi hi => ?_,s.df,λk hk => ?_⟩
 ·obtain ⟨p,hp1,rfl⟩:=Option.map_eq_some_iff.1 hk
  have hm:=List.mem_of_find?_eq_some hp1
  have hk':p.1=k:=by have:=List.find?_some hp1;simpa using this
  obtain ⟨i,hi,e⟩:=List.getElem_of_mem hm
  have h1:(L.map (λp=>(h p.1).map (ABlk.wk (keepL L) h)))[i]? = (L.map (λp=>some p.2))[i]? := by rw [hL]
  simp only [List.getElem?_map,List.getElem?_eq_getElem hi,Option.map_some,e,Option.some.injEq] at h1
  obtain ⟨Y,hY,hYX⟩:=Option.map_eq_some_iff.1 h1
  rw [hk'] at hY
  obtain ⟨nm,g1,g2⟩:=s.hp k Y hY
  have hkeep:keepL L k=true:=by
   unfold keepL;rw [Bool.or_eq_true,List.any_eq_true];exact .inl ⟨p,hm,by simpa using hk'⟩
  refine ⟨nm,by rw [KU hkeep];exact g1,?_⟩
  rw [<- hYX]
  cases Y with
  | box T cs =>
    obtain ⟨b,c,n,vs,rfl,q1,q2,q3⟩:=g2
    exact ⟨b,c,n,vs,rfl,q1,by simpa using q2,λj hj=>by rw [List.getElem_map];exact H1 _ _ (q3 j (by simpa using hj))⟩
  | row fr e z n cs =>
    obtain ⟨xs,q1,q2,q3⟩:=g2
    exact ⟨xs,q1,q2,λj hj=>(q3 j hj).weak λb hb=>⟨λk c n hk=>hb.1 _ _ _ (hsub _ _ hk),hb.2⟩⟩
 ·have:keepL L k=false:=by
   cases e:keepL L k with
   | false=>rfl
   | true =>
     unfold keepL at e
     rw [Bool.or_eq_true,List.any_eq_true] at e
     rcases e with ⟨p,hp,hpk⟩ | e
     rotate_left
     ·have:=Nat.le_of_ble_eq_true e;omega
     simp only [ofL,Option.map_eq_none_iff,List.find?_eq_none] at hk
     exact absurd hpk (hk p hp)
  exact Zfm this
 ·simp only [ofT]
  cases hf:T.find? λp=>p.1==i with
  | none=>exact .anyR
  | some p =>
    have hm:=List.mem_of_find?_eq_some hf
    have hk':p.1=i:=by have:=List.find?_some hf;simpa using this
    obtain ⟨j,hj,e⟩:=List.getElem_of_mem hm
    have h1:(T.map (λp=>(t.f p.1).wk3 (keepL L) h))[j]? = (T.map (·.2))[j]? := by rw [hT]
    simp only [List.getElem?_map,List.getElem?_eq_getElem hj,Option.map_some,e,Option.some.injEq] at h1
    simp only [Option.map_some,Option.getD_some]
    rw [<- h1,hk']
    exact H _ _ (s.tm i hi)
 cases e:ofL L k with
 | none=>rfl
 | some X =>
   obtain ⟨p,hp1,_⟩:=Option.map_eq_some_iff.1 e
   have hm:=List.mem_of_find?_eq_some hp1
   have hk':p.1=k:=by have:=List.find?_some hp1;simpa using this
   have h1:=List.map_inj_left.1 hL p hm
   rw [hk',s.gh k hk] at h1
   cases h1
theorem Wk.trans {h h' h'':AHeap} {t t' t'':ATm} (k:Wk h t h' t') (k':Wk h' t' h'' t''):Wk h t h'' t'':=λJ w0 ρ a w s=>by
 obtain ⟨ρ',s'⟩:=k J w0 ρ a w s
 exact k' J w0 ρ' a w s'
theorem wk_adopt {h:AHeap} {t:ATm} (i k:Nat) (fr:Bool) (e z:Nat) {t':ATm} (hk:h k=none) (hi:t.f i = .v (.slice none 0 0)) (ht:aput t (some i) (.own k)=t') (hs:k<hand:=by decide):Wk h t (λj=>if j=k then some (.row fr e z 0 []) else h j) t':=by
 subst ht
 intro J w0 ρ a w s
 have hρ:=s.dom k hs hk
 refine ⟨upd ρ k .nil,?_⟩
 have hok:∀ b,okOf ρ b->okOf (upd ρ k .nil) b:=λb hb j c n hj=>by
  by_cases e:j=k
  ·subst e;rw [Yc] at hj;cases hj
  rw [Ya e] at hj;exact hb _ _ _ hj
 have hn:∀ j nm,ρ j=some nm->upd ρ k .nil j=some nm:=λj nm hj=>by rw [Ya (by rintro rfl;rw [hρ] at hj;cases hj)];exact hj
 have hp:∀ X x,Pu (w0.heap.size <= ·) w (okOf ρ) X x->Pu (w0.heap.size <= ·) w (okOf (upd ρ k .nil)) X x:=λX x hx=>hx.weak hok
 have hat:∀ j b c n,upd ρ k .nil j=some (.at b c n)->ρ j=some (.at b c n):=λj b c n hj=>by
  by_cases e:j=k
  ·subst e;rw [Yc] at hj;cases hj
  rw [Ya e] at hj;exact hj
 refine ⟨⟨λj k b c d m n hj hk=>s.wf.inj _ _ _ _ _ _ _ (hat _ _ _ _ hj) (hat _ _ _ _ hk),λk b c n hk=>s.wf.lo _ _ _ _ (hat _ _ _ _ hk)⟩,s.hH,s.bel,s.inv,λj X hj => ?_,λj hl hj => ?_,λj hj=>(Ya (λe=>by omega)).trans (s.pin j hj),s.tl,λj hj => ?_,s.df,λj hj=>by show (if j=k then _ else _)=none;rw [if_neg (by have:=WV;omega)];exact s.gh j hj⟩
 ·by_cases e:j=k
  ·subst e
   rw [if_pos rfl] at hj
   cases hj
   exact ⟨.nil,Yc _ _ _,blk_nil _ _ _ _ _ _⟩
  rw [if_neg e] at hj
  obtain ⟨nm,g1,g2⟩:=s.hp j X hj
  exact ⟨nm,hn _ _ g1,g2.keep (λfr X x hx=>hx.weak λb hb=>⟨hok _ hb.1,hb.2⟩) hp hn λ_ _ _ _=>rfl⟩
 ·by_cases e:j=k
  ·rw [if_pos e] at hj;cases hj
  rw [if_neg e] at hj;rw [Ya e];exact s.dom j hl hj
 simp only [aput]
 by_cases e:j=i
 ·subst e
  rw [if_pos rfl]
  have:=s.tm j hj
  rw [hi] at this
  rw [this.v_inv]
  exact .own (nm := .nil) (Yc _ _ _)
 rw [if_neg e]
 exact (s.tm j hj).keep hp hn
def AV.out1 (h:AHeap):AV->AV
 | .v x => .v x
 | .fr X=>X
 | .own k=>match h k with | some (.row true _ z n cs) => .sl z n cs | _ => .any
 | _ => .any
def AV.out2 (h:AHeap):AV->AV
 | .agg cs => .agg (cs.map (AV.out1 h))
 | X=>X.out1 h
def AV.out3 (h:AHeap):AV->AV
 | .tup cs => .tup (cs.map (AV.out2 h))
 | X=>X.out2 h
section
variable {w0:Wb} {ρ:Names} {h:AHeap} {t:ATm} {a:Act} {w:World}
theorem Sat.out1 (s:Sat J w0 ρ h t a w) {X:AV} {x:Value} (hr:Rel ρ w0.heap.size w X x):Pu (w0.heap.size <= ·) w (nw w w0.heap.size) (X.out1 h) x:=by
 cases hr with
 | pu hr =>
   cases hr with
   | v x=>exact .v x
   | fr hr=>exact hr.weak λ_ h=>h.2
   | any x=>exact .any x
   | agg hl h=>exact .any _
   | tup hl h=>exact .any _
   | sl0 h2 hz=>exact .any _
   | sl hc h1 h2 hb hw hf h=>exact .any _
   | el hb hw hf h=>exact .any _
   | clo hl h=>exact .any _
   | old h=>exact .any _
 | box hk=>exact .any _
 | own hk =>
   rename_i k nm
   simp only [AV.out1]
   split
   ·rename_i e z n cs hh
    obtain ⟨nm',h1,h2⟩:=s.hp k _ hh
    rw [hk] at h1;cases h1
    exact Zb1 h2 (λb c m e=>⟨h2.lowR e,h2.softR e⟩) (λb hb _=>hb.2 rfl) λ_ _ h=>h
   exact .any _
 | bsl hk=>exact .any _
 | agg hl hr=>exact .any _
 | tup hl hr=>exact .any _
 | clo hl hr=>exact .any _
theorem Sat.out2 (s:Sat J w0 ρ h t a w) {X:AV} {x:Value} (hr:Rel ρ w0.heap.size w X x):Pu (w0.heap.size <= ·) w (nw w w0.heap.size) (X.out2 h) x:=by
 cases X with
 | agg cs =>
   obtain ⟨vs,rfl,hl,hc⟩:=hr.agg_inv
   exact .agg (by simpa using hl) λj hj=>by rw [List.getElem_map];exact s.out1 (hc j (by simpa using hj))
 | tup cs=>exact .any _
 | v y=>exact s.out1 hr
 | box k o=>exact s.out1 hr
 | own k=>exact s.out1 hr
 | sl z n cs=>exact s.out1 hr
 | el cs o=>exact s.out1 hr
 | fr X=>exact s.out1 hr
 | any=>exact s.out1 hr
 | clo f cs=>exact s.out1 hr
 | old n X=>exact s.out1 hr
 | bsl k o m=>exact s.out1 hr
theorem Sat.out3 (s:Sat J w0 ρ h t a w) {X:AV} {x:Value} (hr:Rel ρ w0.heap.size w X x):Pu (w0.heap.size <= ·) w (nw w w0.heap.size) (X.out3 h) x:=by
 cases X with
 | tup cs =>
   obtain ⟨vs,rfl,hl,hc⟩:=hr.tup_inv
   exact .tup (by simpa using hl) λj hj=>by rw [List.getElem_map];exact s.out2 (hc j (by simpa using hj))
 | agg cs=>exact s.out2 hr
 | v y=>exact s.out2 hr
 | box k o=>exact s.out2 hr
 | own k=>exact s.out2 hr
 | sl z n cs=>exact s.out2 hr
 | el cs o=>exact s.out2 hr
 | fr X=>exact s.out2 hr
 | any=>exact s.out2 hr
 | clo f cs=>exact s.out2 hr
 | old n X=>exact s.out2 hr
 | bsl k o m=>exact s.out2 hr
end
inductive ResV (P:Program) (h:AHeap) (t:ATm):ResultVar->AV->Prop
 | tmp {i:Nat} {X:AV} (hX:t.get i=X):ResV P h t (.tmp i) X
 | cellS {i k z:Nat} {T T0:TypeId} {d:TypeDesc} {cs:List AV} (hX:t.get i = .box k 0) (hk:h k=some (.box T0 cs)) (hu:P.underlying T=some d) (hd:d.isRow=true) (hz:(P.info? T).map (·.size)=some z) (hl:cs.length=z) (h0:0<z):ResV P h t (.cell i T) (.agg cs)
 | cell1 {i k:Nat} {T T0:TypeId} {d:TypeDesc} {cs:List AV} {X:AV} (hX:t.get i = .box k 0) (hk:h k=some (.box T0 cs)) (hu:P.underlying T=some d) (hd:d.isRow=false) (h0:cs[0]? = some X):ResV P h t (.cell i T) X
def RetP (w0:Wb) (u:AV) (e:Ending) (w':World):Prop:=∃ v,e = .returned v/\Pu (w0.heap.size <= ·) w' (nw w' w0.heap.size) u v/\Bel w0 w'
section
variable {P:Program} {w0:Wb} {h:AHeap} {t:ATm}
variable {a:Act}
theorem KO (s:Sat J w0 ρ h t a w) {r:ResultVar} (hr:ResV P h t r X) :
 ∃ v,(match r with | .tmp t=>pure (a.tmps.getD t undef) | .cell b t=>do loadVar t (<- asAddr (a.tmps.getD b undef)):Sem Value).run P w = .ok v w/\Rel ρ w0.heap.size w X v:=by
 cases hr with
 | tmp hX =>
   rename_i i
   have:=s.ev (.tmp i)
   simp only [aev,hX] at this
   exact ⟨_,rfl,this⟩
 | cellS hX hk hu hd hz hl h0 =>
   rename_i i k z T T0 d cs
   have:=s.ev (.tmp i)
   simp only [aev,hX] at this
   obtain ⟨b,c,n,h1,h2⟩:=this.box_inv
   simp only [Act.eval] at h2
   obtain ⟨nm,h1',b',c',n',vs,e,hg,hvs,hrel⟩:=s.hp k _ hk
   rw [h1] at h1';cases h1';cases e
   refine ⟨.agg vs,?_,.agg hvs hrel⟩
   have:=run_loadVar_mid (P:=P) w b 0 T vs.toList d (YX (fr:=(0,0)) (by simpa using hg)) hu hd (by rw [hz];simp [hvs,hl])
   simp only [h2,asAddr,Sem.run_bind,Sem.run_pure,Result.andThen_ok,this]
 | cell1 hX hk hu hd h0 =>
   rename_i i k T T0 d cs
   have:=s.ev (.tmp i)
   simp only [aev,hX] at this
   obtain ⟨b,c,n,h1,h2⟩:=this.box_inv
   simp only [Act.eval] at h2
   obtain ⟨hj,hX0⟩:=List.getElem?_eq_some_iff.1 h0
   obtain ⟨nm,h1',hb⟩:=s.hp k _ hk
   rw [h1] at h1';cases h1'
   obtain ⟨b',c',n',v,e,h3,_,h4⟩:=hb.cell hj
   cases e
   refine ⟨v,?_,by rw [<- hX0];exact h4⟩
   have:=ZbJ (P:=P) hu hd h3
   simp only [Instr.loadAt,Instr.sureAddr,Sem.run_bind,Sem.run_pure,Result.andThen_ok] at this
   simp only [h2,asAddr,Sem.run_bind,Sem.run_pure,Result.andThen_ok,this]
variable {v:Value}
theorem Zbq {f:ResultVar->Sem Value} {r:ResultVar} (h:(f r).run P w = .ok v w):(#[r].mapM f).run P w = .ok #[v] w:=by
 rw [Array.mapM_eq_mapM_toList];simp [List.mapM_cons,h]
theorem mapM_two {f:ResultVar->Sem Value} {r r':ResultVar} {v v':Value} (h:(f r).run P w = .ok v w) (h':(f r').run P w = .ok v' w):(#[r,r'].mapM f).run P w = .ok #[v,v'] w:=by
 rw [Array.mapM_eq_mapM_toList];simp [List.mapM_cons,h,h']
variable {u:AV}
theorem Zd {fn:Func} {r:ResultVar} (hr:fn.results = #[r]) (h1:ResV P h t r X) (hu:X.out3 h=u):ETri J w0 h t (bodyPost P fn (RetP w0 u) .ret):=fun ρ a w s=>by
 subst hu
 obtain ⟨v,g1,g2⟩:=KO s h1
 refine ⟨s.df,v,?_,v,rfl,s.out3 g2,s.bel⟩
 unfold results
 rw [hr,Sem.run_bind,Zbq (v:=v) (by cases r<;>exact g1)]
 rfl
theorem ZY {fn:Func} {r r':ResultVar} {X X' u:AV} (hr:fn.results = #[r,r']) (h1:ResV P h t r X) (h2:ResV P h t r' X') (hu:(AV.tup [X,X']).out3 h=u):ETri J w0 h t (bodyPost P fn (RetP w0 u) .ret):=fun ρ a w s=>by
 subst hu
 obtain ⟨v,g1,g2⟩:=KO s h1
 obtain ⟨v',g1',g2'⟩:=KO s h2
 refine ⟨s.df,.tuple #[v,v'],?_,_,rfl,s.out3 (.tup rfl λj hj => ?_),s.bel⟩
 ·unfold results
  rw [hr,Sem.run_bind,mapM_two (v:=v) (v':=v') (by cases r<;>exact g1) (by cases r'<;>exact g1')]
  rfl
 simp only [List.length_cons,List.length_nil] at hj
 match j,hj with
 | 0,_=>exact g2
 | 1,_=>exact g2'
variable {f:FuncId}
theorem Zn {fn:Func} {c:Code} {args:List AV} (hf:P.funcs[f]? = some fn) (hb:fn.body=some c) (hpl:∀ X∈args,Plain X) (hnt:fn.ntmps=n) (hna:args.length<=n)
 (H:∀ w0,ETri J w0 (ofL []) (ofT n<|(List.range args.length).zip args) (c.wp P<|bodyPost P fn<|RetP w0 u)):Ctr P J f args u:=λw vs hJ hl hv=>by
 refine (calls_of_wp hf hb<|H ⟨w,λ_=>False,λ_=>none⟩ ⟨λ_=>none,λ_=>False⟩ _ w ⟨⟨(λ_ _ _ _ _ _ _ h=>by cases h),(λ_ _ _ _ h=>by cases h)⟩,rfl,Bel.refl _,(λw' h=>hJ w' (h.below λ_ h=>h)),(λ_ _ h=>by cases h),λ_ _ _=>rfl,λ_ _=>rfl,by simp [hl,hnt,ofT];omega,λi hi => ?_,rfl,λ_ _=>rfl⟩).mono λe w' ⟨v,q1,q2,q3⟩=>⟨v,q1,q2,q3.below λ_ h=>h⟩
 simp only [ofT]
 cases hf:((List.range args.length).zip args).find? λp=>p.1==i with
 | none=>exact .anyR
 | some p =>
   have hm:=List.mem_of_find?_eq_some hf
   have hk':p.1=i:=by have:=List.find?_some hf;simpa using this
   obtain ⟨j,hj,e⟩:=List.getElem_of_mem hm
   simp only [List.getElem_zip,List.getElem_range] at e
   subst e
   dsimp only at hk'
   subst hk'
   have hj1:j<args.length:=by simp at hj;omega
   simp only [Option.map_some,Option.getD_some]
   have:=(hv j hj1).plain (F':=(w.heap.size <= ·)) (hpl _<|List.getElem_mem hj1)
   have hj2:j<vs.size:=by omega
   have e:(vs++Array.replicate (fn.ntmps-vs.size) undef).getD j undef=vs.getD j undef:=by simp [Array.getD,hj2,Array.getElem_append_left hj2];omega
   rw [e]
   exact .pu (this.weak λb _ k c n hk=>by cases hk)
end
structure Cl where
 args:List (Operand × AV)
 rd:List (Nat × ABlk)
 u:AV
 e:Ef
def awanted (ops:Array Oper) (o:Oper) (t:ATm):Option Bool :=
 match o.guard with
 | none=>some true
 | some (g,want)=>match (ops[g]?).bind (·.dst) with
   | none=>none
   | some d=>match t.get d with
     | .v (.bool b)=>some (b==want)
     | .v (.tuple _)=>some false
     | _=>none
def App (P:Program) (J:World->Prop) (ops:Array Oper) (o:Oper) (c:Cl) (h:AHeap) (t:ATm):Prop :=
 (awanted ops o t=some true/\ASpec P J o c.args c.rd c.u c.e/\(∀ p∈c.args,Fits (aev t p.1) p.2)/\(∀ p∈c.rd,h p.1=some p.2)/\(∀ k X,c.e.isN k X->h k=none)/\((∀ k,c.e.old=some k->(h k).isSome=true)/\c.e.low=true)) \/
 (awanted ops o t=some false/\c=⟨[],[],.v undef,.no⟩)
def Cl.t (c:Cl) (o:Oper) (t:ATm):ATm:=aput (c.e.slots t) o.dst c.u
section
variable {P:Program} {ops:Array Oper}
variable {a:Act}{o:Oper}{b:Bool}
theorem Wy {w0:Wb} {h:AHeap} {t:ATm} (s:Sat J w0 ρ h t a w) (hb:awanted ops o t=some b):Region.wanted o (yielded ops a.tmps)=b:=by
 unfold awanted at hb
 unfold Region.wanted
 cases hg:o.guard with
 | none=>rw [hg] at hb;simpa using hb
 | some gw =>
   obtain ⟨g,want⟩:=gw
   rw [hg] at hb
   dsimp only at hb ⊢
   unfold yielded
   cases hd:(ops[g]?).bind (·.dst) with
   | none=>rw [hd] at hb;cases hb
   | some d =>
     rw [hd] at hb
     dsimp only [Option.bind_some] at hb ⊢
     have hr:=s.ev (.tmp d)
     simp only [aev,Act.eval] at hr
     have hin:t.get d ≠ .any->a.tmps[d]? = some (a.tmps.getD d undef):=λhne=>by
      by_cases hl:d<t.n
      ·have:d<a.tmps.size:=by rw [s.tl];exact hl
       simp [Array.getD,this]
      rw [ATm.get,if_neg hl] at hne
      exact absurd rfl hne
     split at hb
     ·rename_i b' hv
      rw [hv] at hr
      rw [hin (by rw [hv];simp),hr.v_inv]
      simp only [Option.some.injEq] at hb
      subst hb
      cases b'<;>cases want<;>rfl
     ·rename_i vs hv
      rw [hv] at hr
      rw [hin (by rw [hv];simp),hr.v_inv]
      simp only [Option.some.injEq] at hb
      subst hb
      cases want<;>rfl
     cases hb
theorem App.op {w0:Wb} {h:AHeap} {t:ATm} {c:Cl} {K:Act->World->Prop} {Q:Exit->Act->World->Prop} (s:Sat J w0 ρ h t a w) (ha:App P J ops o c h t) (hk:∀ ρ' a' w',Sat J w0 ρ' (c.e.heap h) (c.t o t) a' w'->K a' w') :
 if Region.wanted o (yielded ops a.tmps) then o.wp P a w K Q\/(o.asks P a w/\LetsOut Q) else K (a.put o.dst undef) w:=by
 rcases ha with ⟨hw,h1,h2,h3,h4,h5⟩ | ⟨hw,rfl⟩
 ·rw [Wy s hw,if_pos rfl]
  exact .inl (s.step ⟨c.args,c.rd,h1,h2,h3,h4,h5⟩ hk)
 rw [Wy s hw,if_neg (by simp)]
 exact hk ρ _ w ⟨s.wf,s.hH,s.bel,s.inv,s.hp,s.dom,s.pin,by rw [Wr];simp only [Cl.t,Wf];exact s.tl,Zak _ s.tl s.tm (.pu (.v _)),by rw [Kn];exact s.df,s.gh⟩
def anyC (P:Program) (J:World->Prop) (ops:Array Oper) (cl:List Cl) (Q:AHeap->ATm->Prop):Nat->Array Bool->AHeap->ATm->Prop
 | 0,listed,h,t=>Region.ready .any ops listed=[]/\Q h t
 | f+1,listed,h,t=>(Region.ready .any ops listed=[]->Q h t)/\∀ i∈Region.ready .any ops listed,∃ o c,ops[i]? = some o/\cl[i]? = some c/\App P J ops o c h t/\anyC P J ops cl Q f (listed.setIfInBounds i true) (c.e.heap h) (c.t o t)
theorem any_of_C {w0:Wb} {cl:List Cl} {Φ:Exit->Act->World->Prop} {Q:AHeap->ATm->Prop} (hQ:∀ h t,Q h t->ETri J w0 h t (Φ .normal)):∀ (f:Nat) (listed:Array Bool) (h:AHeap) (t:ATm),anyC P J ops cl Q f listed h t->ETri J w0 h t (wpAny P .any ops Φ f listed)
 | 0,_,h,t,hc=>fun ρ a w s=>⟨hc.1,hQ h t hc.2 ρ a w s⟩
 | f+1,_,h,t,hc=>fun ρ a w s=>⟨λh0=>hQ h t (hc.1 h0) ρ a w s,λi hi=>by
  obtain ⟨o,c,h1,h2,h3,h4⟩:=hc.2 i hi
  unfold wpOp
  rw [h1]
  exact h3.op s fun ρ' a' w' s'=>any_of_C hQ f _ _ _ h4 ρ' a' w' s'⟩
def Ef.isAp:Ef->Option Nat
 | .ap k _=>some k
 | _=>none
def hasTmp (d:Option Tmp) (args:List (Operand × AV)):Bool:=args.any λp=>match p.1,d with | .tmp x,some y=>x==y | _,_=>false
def AV.isAny:AV->Bool
 | .any=>true
 | _=>false
def ABlk.calm (k:Nat):ABlk->Bool
 | .box _ cs=>cs.all λc=>c.free3 k && !c.isAny
 | .row _ _ _ _ _=>true
def Ef.calm (k:Nat):Ef->Bool
 | .no=>true
 | .new _ X=>X.calm k
 | .st _ X=>X.calm k
 | .ap _ _=>false
 | .nws _ X _ X2=>X.calm k&&X2.calm k
def quietFor (k:Nat) (c:Cl):Bool:=c.e.calm k&&(c.args.all λp=>p.2.free3 k && !p.2.isAny)&&c.u.free3 k&&c.rd.all λp=>p.2.calm k
def guardTmp (ops:Array Oper) (o:Oper):Option Tmp:=o.guard.bind λg=>(ops[g.1]?).bind (·.dst)
def efOne (o:Option Nat) (cj:Cl):Bool:=match o with | some k => !(cj.rd.any λp=>p.1==k)&&(!(cj.e.name==some k) && !(cj.e.name2==some k)) | none=>true
def efTwo (ci cj:Cl):Bool:=efOne ci.e.name cj&&efOne ci.e.name2 cj
def Ef.has (e:Ef) (k:Nat):Prop:=e.name=some k\/e.name2=some k
def half (ops:Array Oper) (oi:Oper) (ci:Cl) (oj:Oper) (cj:Cl):Bool :=
 !hasTmp oi.dst cj.args&&(match oi.dst,guardTmp ops oj with | some x,some y => !(x==y) | _,_=>true) &&
 efTwo ci cj &&
 (match ci.e.isAp with | some k=>quietFor k cj | none=>true)
def indep (ops:Array Oper) (oi:Oper) (ci:Cl) (oj:Oper) (cj:Cl):Bool :=
 half ops oi ci oj cj&&half ops oj cj oi ci&&(match oi.dst,oj.dst with | some x,some y => !(x==y) | _,_=>true)
variable {u:AV}
theorem aev_put {t:ATm} {d:Option Tmp} {x:Operand} (h:∀ y,d=some y->x ≠ .tmp y):aev (aput t d u) x=aev t x:=by
 cases d with
 | none=>rfl
 | some d =>
   cases x with
   | tmp i =>
     have:¬ i=d:=λe=>h d rfl (by rw [e])
     simp [aev,aput,ATm.get,this]
   | const x=>rfl
   | global g=>rfl
   | func f=>rfl
variable {k:Nat}
theorem Wc (h:X.free3 k=true):X.kill k=X:=if_pos h
theorem Zbs {t:ATm} {x:Operand}:aev ⟨t.n,λj=>(t.f j).kill k⟩ x=(aev t x).kill k:=by
 cases x with
 | tmp i =>
   simp only [aev,ATm.get]
   split<;>rfl
 | const x=>rfl
 | global g=>rfl
 | func f=>rfl
variable {Y:AV}
theorem fits_kill (hf:Fits X Y) (h:Y.free3 k=true):Fits (X.kill k) Y:=by
 rcases hf with rfl | rfl | ⟨cs,rfl,rfl⟩ | ⟨n,rfl⟩
 ·rw [Wc h];exact .inl rfl
 ·rw [Wc rfl];exact .inr (.inl rfl)
 ·rw [Wc rfl];exact .inr (.inr (.inl ⟨cs,rfl,rfl⟩))
 rw [Wc rfl];exact .inr (.inr (.inr ⟨n,rfl⟩))
theorem ZeS {t t':ATm} (hb:awanted ops o t=some b) (h:∀ d,guardTmp ops o=some d->∀ x,t.get d = .v x->t'.get d = .v x):awanted ops o t'=some b:=by
 unfold awanted at *
 cases hg:o.guard with
 | none=>rw [hg] at hb;exact hb
 | some gw =>
   obtain ⟨g,want⟩:=gw
   rw [hg] at hb
   dsimp only at hb ⊢
   cases hd:(ops[g]?).bind (·.dst) with
   | none=>rw [hd] at hb;cases hb
   | some d =>
     rw [hd] at hb
     dsimp only at hb ⊢
     have hh:=h d (by simp [guardTmp,hg,hd])
     split at hb
     ·rename_i b' hv;rw [hh _ hv];exact hb
     ·rename_i vs hv;rw [hh _ hv];exact hb
     cases hb
variable {i:Nat}
theorem getD_put {t:ATm} {d:Option Tmp} (h:d≠some i):(aput t d u).get i=t.get i:=by
 cases d with
 | none=>rfl
 | some d =>
   have:¬ i=d:=λe=>h (by rw [e])
   simp [aput,ATm.get,this]
theorem ZdX {e:Ef} {t:ATm} (h:t.get i = .v x):(e.slots t).get i = .v x:=by
 cases e with
 | ap k X =>
   have:=Zbs (k:=k) (t:=t) (x := .tmp i)
   simp only [aev,h] at this
   exact this
 | no=>exact h
 | new k X=>exact h
 | st k X=>exact h
 | nws k X k2 X2=>exact h
theorem Zdb {e:Ef} {t:ATm} (h:(e.slots t).get i = .v x):t.get i = .v x:=by
 cases e with
 | ap k X =>
   have:=Zbs (k:=k) (t:=t) (x := .tmp i)
   simp only [aev] at this
   simp only [Ef.slots] at h
   rw [this] at h
   unfold AV.kill at h
   split at h
   ·exact h
   cases h
 | no=>exact h
 | new k X=>exact h
 | st k X=>exact h
 | nws k X k2 X2=>exact h
theorem fits_back (hf:Fits (X.kill k) Y) (h:Y.isAny=false):Fits X Y:=by
 unfold AV.kill at hf
 split at hf
 ·exact hf
 rcases hf with hf | hf | ⟨cs,hf,_⟩ | ⟨n,hf⟩
 ·subst hf;cases h
 ·cases hf
 ·cases hf
 cases hf
theorem ZaS {e:Ef} (h:e.isAp=some k):∃ X,e = .ap k X:=by
 cases e with
 | ap k' X=>simp only [Ef.isAp,Option.some.injEq] at h;subst h;exact ⟨X,rfl⟩
 | no=>cases h
 | new k' X=>cases h
 | st k' X=>cases h
 | nws k' X k2 X2=>cases h
theorem YK {e:Ef} (h:e.isAp=none) (t:ATm):e.slots t=t:=by cases e<;>first | rfl | cases h
structure Half (ops:Array Oper) (oi:Oper) (ci:Cl) (oj:Oper) (cj:Cl):Prop where
 tm:∀ p∈cj.args,∀ y,oi.dst=some y->p.1 ≠ .tmp y
 gd:∀ d,guardTmp ops oj=some d->oi.dst≠some d
 rd:∀ k,ci.e.has k->∀ p∈cj.rd,p.1≠k
 nm:∀ k,ci.e.has k->¬ cj.e.has k
 ap:∀ k,ci.e.isAp=some k->cj.e.calm k=true/\(∀ p∈cj.args,p.2.free3 k=true/\p.2.isAny=false)/\cj.u.free3 k=true/\∀ p∈cj.rd,p.2.calm k=true
theorem ZcL {x:Option Nat} {cj:Cl} (h:efOne x cj=true) (e:x=some k):(∀ p∈cj.rd,p.1≠k)/\¬ cj.e.has k:=by
 subst e
 unfold efOne at h
 simp only [Bool.and_eq_true,Bool.not_eq_true',List.any_eq_false,beq_iff_eq,beq_eq_false_iff_ne] at h
 exact ⟨h.1,λe=>e.elim h.2.1 h.2.2⟩
theorem ZcK {ci cj:Cl} (h:efTwo ci cj=true) (e:ci.e.has k):(∀ p∈cj.rd,p.1≠k)/\¬ cj.e.has k:=by
 unfold efTwo at h
 rw [Bool.and_eq_true] at h
 rcases e with e | e
 ·exact ZcL h.1 e
 exact ZcL h.2 e
theorem isN_has {e:Ef} {X:ABlk} (h:e.isN k X):e.has k:=by
 rcases h with rfl | ⟨_,_,rfl⟩ | ⟨_,_,rfl⟩
 ·exact .inl rfl
 ·exact .inl rfl
 exact .inr rfl
variable {oi oj:Oper}
theorem Zew {ci cj:Cl} (hi:half ops oi ci oj cj=true):Half ops oi ci oj cj:=by
 unfold half at hi
 simp only [Bool.and_eq_true] at hi
 obtain ⟨⟨⟨i1,i2⟩,i3⟩,i4⟩:=hi
 refine ⟨λp hp y hy e => ?_,λd hd e => ?_,λk hk p hp => ?_,λk hk => ?_,λk hk => ?_⟩
 ·have:hasTmp oi.dst cj.args=true:=by
   unfold hasTmp;rw [List.any_eq_true];exact ⟨p,hp,by rw [e,hy];simp⟩
  rw [this] at i1;cases i1
 ·rw [e,hd] at i2;simp at i2
 ·exact (ZcK i3 hk).1 p hp
 ·exact (ZcK i3 hk).2
 rw [hk] at i4
 unfold quietFor at i4
 simp only [Bool.and_eq_true,List.all_eq_true,Bool.not_eq_true'] at i4
 exact ⟨i4.1.1.1,i4.1.1.2,i4.1.2,i4.2⟩
theorem Zeq {X:ABlk} (h:X.calm k=true):X.kill k=X:=by
 cases X with
 | row _ _ _ _ _=>rfl
 | box T cs =>
   simp only [ABlk.calm,List.all_eq_true,Bool.and_eq_true] at h
   exact congrArg (ABlk.box T) ((List.map_congr_left λc hc=>if_pos (h c hc).1).trans (List.map_id _))
theorem calm_back {X Y:ABlk} (h:X.calm k=true) (e:Y.kill k=X):Y=X:=by
 cases Y with
 | row _ _ _ _ _=>exact e
 | box T cs =>
   cases X with
   | row _ _ _ _ _=>cases e
   | box T' ds =>
     simp only [ABlk.kill,ABlk.box.injEq] at e
     obtain ⟨rfl,rfl⟩:=e
     simp only [ABlk.calm,List.all_eq_true,Bool.and_eq_true,Bool.not_eq_true'] at h
     refine congrArg (ABlk.box T) ((List.map_id cs).symm.trans (List.map_congr_left λc hc => ?_))
     have h2:=(h _ (List.mem_map_of_mem hc)).2
     show c=c.kill k
     unfold AV.kill at h2 ⊢
     split
     ·rfl
     rename_i h3;rw [if_neg h3] at h2;cases h2
variable {j:Nat}
theorem ap_heap {X Y:ABlk} {h:AHeap} (hj:k≠j) (hc:Y.calm k=true):(Ef.ap k X).heap h j=some Y↔h j=some Y:=by
 have e:(Ef.ap k X).heap h j=(h j).map (ABlk.kill k):=if_neg λe=>hj e.symm
 rw [e]
 constructor
 ·intro h1
  obtain ⟨Z,h2,h3⟩:=Option.map_eq_some_iff.1 h1
  rw [h2,calm_back hc h3]
 intro h1;rw [h1];exact congrArg some (Zeq hc)
theorem Yl {e:Ef} {h:AHeap} (hk:¬ e.has k):(e.isAp=none->e.heap h k=h k)/\(e.heap h k=none↔h k=none):=by
 cases e with
 | no=>exact ⟨λ_=>rfl,Iff.rfl⟩
 | new k0 X0 =>
   have e:(if k=k0 then some X0 else h k)=h k:=if_neg λe=>hk (.inl (congrArg some e.symm))
   exact ⟨λ_=>e,by show (if k=k0 then some X0 else h k)=none↔_;rw [e]⟩
 | st k0 X0 =>
   have e:(if k=k0 then some X0 else h k)=h k:=if_neg λe=>hk (.inl (congrArg some e.symm))
   exact ⟨λ_=>e,by show (if k=k0 then some X0 else h k)=none↔_;rw [e]⟩
 | ap k0 X0 =>
   have e:(if k=k0 then some X0 else (h k).map (ABlk.kill k0))=(h k).map (ABlk.kill k0):=if_neg λe=>hk (.inl (congrArg some e.symm))
   exact ⟨(λh=>by cases h),by show (if k=k0 then some X0 else (h k).map (ABlk.kill k0))=none↔_;rw [e];simp⟩
 | nws k0 X0 k2 X2 =>
   have e:(if k=k0 then some X0 else if k=k2 then some X2 else h k)=h k:=(if_neg λe=>hk (.inl (congrArg some e.symm))).trans (if_neg λe=>hk (.inr (congrArg some e.symm)))
   exact ⟨λ_=>e,by show (if k=k0 then some X0 else if k=k2 then some X2 else h k)=none↔_;rw [e]⟩
theorem some_iff {α:Type} {x y:Option α} (h:x=none↔y=none) (hx:x.isSome=true):y.isSome=true:=by
 cases y with
 | some _=>rfl
 | none=>rw [h.2 rfl] at hx;cases hx
theorem old_name {e:Ef} (h:e.old=some k):e.name=some k:=by cases e<;>simp_all [Ef.old,Ef.name]
theorem App.back {ci cj:Cl} {h:AHeap} {t:ATm} (H:Half ops oi ci oj cj) (hj:App P J ops oj cj (ci.e.heap h) (ci.t oi t)):App P J ops oj cj h t:=by
 have hw:∀ b,awanted ops oj (ci.t oi t)=some b->awanted ops oj t=some b:=λb hb=>ZeS hb λd hd x hx=>by
  unfold Cl.t at hx
  rw [getD_put (H.gd d hd)] at hx
  exact Zdb hx
 rcases hj with ⟨w1,h1,h2,h3,h4,h5⟩ | ⟨w1,rfl⟩
 ·refine .inl ⟨hw _ w1,h1,λp hp => ?_,λp hp => ?_,λk X he => ?_,λk hk => ?_,h5.2⟩
  ·have h6:=h2 p hp
   unfold Cl.t at h6
   rw [aev_put (H.tm p hp)] at h6
   cases hap:ci.e.isAp with
   | none=>rw [YK hap] at h6;exact h6
   | some k =>
     obtain ⟨X,he⟩:=ZaS hap
     rw [he] at h6
     simp only [Ef.slots,Zbs] at h6
     exact fits_back h6 ((H.ap k hap).2.1 p hp).2
  ·have hk:¬ ci.e.has p.1:=λe=>H.rd _ e p hp rfl
   cases hap:ci.e.isAp with
   | none=>rw [<- (Yl (h:=h) hk).1 hap];exact h3 p hp
   | some k =>
     have h6:=h3 p hp
     obtain ⟨X,he⟩:=ZaS hap
     rw [he] at h6 hk
     exact (ap_heap (λe=>hk (.inl (congrArg some e))) ((H.ap k hap).2.2.2 p hp)).1 h6
  ·have hk:¬ ci.e.has k:=λe=>H.nm _ e (isN_has he)
   exact (Yl hk).2.1 (h4 k X he)
  have hk':¬ ci.e.has k:=λe=>H.nm _ e (.inl (old_name hk))
  exact some_iff (Yl hk').2 (h5.1 k hk)
 exact .inr ⟨hw _ w1,rfl⟩
theorem App.fwd {ci cj:Cl} {h:AHeap} {t:ATm} (H:Half ops oj cj oi ci) (hi:App P J ops oi ci h t):App P J ops oi ci (cj.e.heap h) (cj.t oj t):=by
 have hw:∀ b,awanted ops oi t=some b->awanted ops oi (cj.t oj t)=some b:=λb hb=>ZeS hb λd hd x hx=>by
  unfold Cl.t
  rw [getD_put (H.gd d hd)]
  exact ZdX hx
 rcases hi with ⟨w1,h1,h2,h3,h4,h5⟩ | ⟨w1,rfl⟩
 ·refine .inl ⟨hw _ w1,h1,λp hp => ?_,λp hp => ?_,λk X he => ?_,λk hk => ?_,h5.2⟩
  ·have h6:=h2 p hp
   unfold Cl.t
   rw [aev_put (H.tm p hp)]
   cases hap:cj.e.isAp with
   | none=>rw [YK hap];exact h6
   | some k =>
     obtain ⟨X,he⟩:=ZaS hap
     rw [he]
     simp only [Ef.slots,Zbs]
     exact fits_kill h6 ((H.ap k hap).2.1 p hp).1
  ·have hk:¬ cj.e.has p.1:=λe=>H.rd _ e p hp rfl
   cases hap:cj.e.isAp with
   | none=>rw [(Yl (h:=h) hk).1 hap];exact h3 p hp
   | some k =>
     obtain ⟨X,he⟩:=ZaS hap
     rw [he] at hk ⊢
     exact (ap_heap (λe=>hk (.inl (congrArg some e))) ((H.ap k hap).2.2.2 p hp)).2 (h3 p hp)
  ·have hk:¬ cj.e.has k:=λe=>H.nm _ e (isN_has he)
   exact (Yl hk).2.2 (h4 k X he)
  have hk':¬ cj.e.has k:=λe=>H.nm _ e (.inl (old_name hk))
  exact some_iff (Yl hk').2.symm (h5.1 k hk)
 exact .inr ⟨hw _ w1,rfl⟩
theorem WM {e:Ef} (hc:e.calm k=true):e.isAp=none:=by cases e<;>first | rfl | cases hc
theorem Zdq {e:Ef} (h:e.has j) (ha:e.isAp=none):∃ Y,(∀ H:AHeap,e.heap H j=some Y)/\∀ k,e.calm k=true->Y.calm k=true:=by
 cases e with
 | no=>rcases h with h | h<;>cases h
 | ap k X=>cases ha
 | new k X =>
   rcases h with h | h
   ·cases h;exact ⟨X,λ_=>if_pos rfl,λ_ hc=>hc⟩
   cases h
 | st k X =>
   rcases h with h | h
   ·cases h;exact ⟨X,λ_=>if_pos rfl,λ_ hc=>hc⟩
   cases h
 | nws k X k2 X2 =>
   by_cases e1:j=k
   ·exact ⟨X,λ_=>if_pos e1,λ_ hc=>(Bool.and_eq_true _ _ ▸ hc:X.calm _=true/\X2.calm _=true).1⟩
   have e2:j=k2:=by
    rcases h with h | h
    ·cases h;exact absurd rfl e1
    cases h;rfl
   exact ⟨X2,λ_=>(if_neg e1).trans (if_pos e2),λ_ hc=>(Bool.and_eq_true _ _ ▸ hc:X.calm _=true/\X2.calm _=true).2⟩
theorem ap_comm {X:ABlk} {e:Ef} {h:AHeap} (hc:e.calm k=true) (hn:¬ e.has k):e.heap ((Ef.ap k X).heap h)=(Ef.ap k X).heap (e.heap h):=by
 have ha:=WM hc
 funext j
 by_cases hj:e.has j
 ·obtain ⟨Y,h1,h2⟩:=Zdq hj ha
  have hjk:¬ j=k:=λe'=>hn (e' ▸ hj)
  rw [h1]
  show _=if j=k then some X else ((e.heap h) j).map (ABlk.kill k)
  rw [if_neg hjk,h1]
  exact congrArg some (Zeq (h2 k hc)).symm
 rw [(Yl hj).1 ha]
 show (if j=k then some X else (h j).map (ABlk.kill k))=if j=k then some X else ((e.heap h) j).map (ABlk.kill k)
 rw [(Yl hj).1 ha]
theorem upd_comm {ei ej:Ef} {h:AHeap} (hij:∀ k,ei.has k->¬ ej.has k) (ai:ei.isAp=none) (aj:ej.isAp=none):ej.heap (ei.heap h)=ei.heap (ej.heap h):=by
 funext j
 by_cases hi:ei.has j
 ·obtain ⟨Y,h1,_⟩:=Zdq hi ai
  rw [(Yl (hij j hi)).1 aj,h1,h1]
 rw [(Yl hi).1 ai]
 by_cases hj:ej.has j
 ·obtain ⟨Y,h1,_⟩:=Zdq hj aj
  rw [h1,h1]
 rw [(Yl hj).1 aj,(Yl hj).1 aj,(Yl hi).1 ai]
theorem Zb5 {t:ATm} {d d':Option Tmp} {u u':AV} (h:∀ y,d=some y->d'≠some y):aput (aput t d u) d' u'=aput (aput t d' u') d u:=by
 cases d with
 | none=>rfl
 | some x =>
   cases d' with
   | none=>rfl
   | some y =>
     have hxy:¬ x=y:=λe=>h x rfl (by rw [e])
     simp only [aput,ATm.mk.injEq,true_and]
     funext j
     by_cases e1:j=x
     ·subst e1;simp [hxy]
     simp [e1]
theorem map_put {t:ATm} {d:Option Tmp}  :(⟨(aput t d u).n,λj=>((aput t d u).f j).kill k⟩:ATm)=aput ⟨t.n,λj=>(t.f j).kill k⟩ d (u.kill k):=by
 cases d with
 | none=>rfl
 | some x =>
   simp only [aput,ATm.mk.injEq,true_and]
   funext j
   split<;>rfl
theorem next_comm {ci cj:Cl} {h:AHeap} {t:ATm} (H:Half ops oi ci oj cj) (H':Half ops oj cj oi ci) (hd:∀ y,oi.dst=some y->oj.dst≠some y) :
 cj.e.heap (ci.e.heap h)=ci.e.heap (cj.e.heap h)/\cj.t oj (ci.t oi t)=ci.t oi (cj.t oj t):=by
 unfold Cl.t
 cases ai:ci.e.isAp with
 | some k =>
   obtain ⟨X,he⟩:=ZaS ai
   obtain ⟨h1,_,h3,_⟩:=H.ap k ai
   have h2:=H.nm k (.inl (by rw [he];rfl))
   rw [YK (WM h1),YK (WM h1),he]
   refine ⟨ap_comm h1 h2,?_⟩
   simp only [Ef.slots]
   rw [map_put,Wc h3,Zb5 hd]
 | none =>
   cases aj:cj.e.isAp with
   | some k =>
     obtain ⟨X,he⟩:=ZaS aj
     obtain ⟨h1,_,h3,_⟩:=H'.ap k aj
     have h2:=H'.nm k (.inl (by rw [he];rfl))
     rw [YK (WM h1),YK (WM h1),he]
     refine ⟨(ap_comm h1 h2).symm,?_⟩
     simp only [Ef.slots]
     rw [map_put,Wc h3,Zb5 hd]
   | none =>
     refine ⟨upd_comm H.nm ai aj,?_⟩
     rw [YK ai,YK aj,YK ai,YK aj,Zb5 hd]
def reach (ops:Array Oper):Nat->Nat->Nat->Bool
 | 0,_,_=>false
 | f+1,j,i=>match ops[j]? with
   | none=>false
   | some o=>o.after.any λe=>Region.binds .any e&&(e.on==i||reach ops f e.on i)
def Closed (ops:Array Oper) (listed:Array Bool):Prop:=∀ j o,listed.getD j false=true->ops[j]? = some o->∀ e∈o.after,Region.binds .any e=true->listed.getD e.on false=true
theorem Zek {listed:Array Bool} {i:Nat} (hc:Closed ops listed) (hi:listed.getD i false=false):∀ (f j:Nat),(∀ o,ops[j]? = some o->∀ e∈o.after,Region.binds .any e=true->listed.getD e.on false=true)->reach ops f j i=false
 | 0,_,_=>rfl
 | f+1,j,hj=>by
   unfold reach
   cases ho:ops[j]? with
   | none=>rfl
   | some o =>
     rw [Bool.eq_false_iff]
     intro hany
     obtain ⟨n,hn,hp⟩:=Array.any_eq_true.1 hany
     have h1:=hj o ho _ (Array.getElem_mem hn)
     generalize o.after[n]=e at h1 hp
     revert hp
     rw [imp_false,Bool.not_eq_true]
     cases hb:Region.binds .any e with
     | false=>simp
     | true =>
       have h2:=h1 hb
       have h3:(e.on==i)=false:=by
        rw [beq_eq_false_iff_ne];intro e';rw [e',hi] at h2;cases h2
       rw [h3,Zek hc hi f e.on (λo ho=>hc e.on o h2 ho)]
       simp
theorem both_getD {listed:Array Bool} (h:listed.getD i true=false):listed.getD i false=false:=by
 simp only [Array.getD] at h ⊢
 split at h
 ·rename_i hi;rw [dif_pos hi];exact h
 cases h
theorem anyC_first {cl:List Cl} {Q:AHeap->ATm->Prop} {ci:Cl} (hi:ops[i]? = some oi) (hci:cl[i]? = some ci) :
 ∀ (f:Nat) (listed:Array Bool) (h:AHeap) (t:ATm),Closed ops listed ->
  (∀ j oj cj,ops[j]? = some oj->cl[j]? = some cj->j≠i->listed.getD j true=false->reach ops ops.size j i=false->indep ops oi ci oj cj=true) ->
  i∈Region.ready .any ops listed->App P J ops oi ci h t->anyC P J ops cl Q f (listed.setIfInBounds i true) (ci.e.heap h) (ci.t oi t)->anyC P J ops cl Q (f+1) listed h t:=by
 intro f
 induction f with
 | zero =>
   intro listed h t _ _ hr ha H
   refine ⟨λh0=>(by rw [h0] at hr;cases hr),λj hj => ?_⟩
   by_cases hji:j=i
   ·subst hji;exact ⟨oi,ci,hi,hci,ha,H⟩
   have:=ready_mono hj hji
   rw [H.1] at this
   cases this
 | succ f ih =>
   intro listed h t hcl hfree hr ha H
   refine ⟨λh0=>(by rw [h0] at hr;cases hr),λj hj => ?_⟩
   by_cases hji:j=i
   ·subst hji;exact ⟨oi,ci,hi,hci,ha,H⟩
   obtain ⟨oj,cj,h1,h2,h3,h4⟩:=H.2 j (ready_mono hj hji)
   obtain ⟨hjun,oj',hoj,hall⟩:=mem_ready.1 hj
   rw [h1] at hoj
   cases hoj
   have hiun:=both_getD (mem_ready.1 hr).1
   have hnr:reach ops ops.size j i=false:=Zek hcl hiun _ _ λo ho=>by rw [h1] at ho;cases ho;exact hall
   have hind:=hfree j oj cj h1 h2 hji hjun hnr
   unfold indep at hind
   simp only [Bool.and_eq_true] at hind
   have Hi:=Zew hind.1.1
   have Hj:=Zew hind.1.2
   have hd:∀ y,oi.dst=some y->oj.dst≠some y:=λy e1 e2=>by
    have:=hind.2
    rw [e1,e2] at this
    simp at this
   have hcomm:=next_comm (h:=h) (t:=t) Hi Hj hd
   refine ⟨oj,cj,h1,h2,h3.back Hi,ih _ _ _ ?_ ?_ (ready_mono hr (Ne.symm hji)) (ha.fwd Hj) ?_⟩
   ·intro k o hk hko e he hb
    by_cases hkj:j=k
    ·subst hkj
     rw [h1] at hko;cases hko
     exact getD_set_true (hall e he hb)
    rw [getD_set_ne false hkj] at hk
    exact getD_set_true (hcl k o hk hko e he hb)
   ·intro k ok ck hk1 hk2 hki hun hre
    refine hfree k ok ck hk1 hk2 hki ?_ hre
    by_cases hjk:j=k
    ·subst hjk;exact hjun
    rw [getD_set_ne true hjk] at hun;exact hun
   rw [Array.setIfInBounds_comm _ _ hji,<- hcomm.1,<- hcomm.2]
   exact h4
def chainC (P:Program) (J:World->Prop) (ops:Array Oper) (Q:AHeap->ATm->Prop):List Oper->List Cl->AHeap->ATm->Prop
 | o::l,c::cs,h,t=>App P J ops o c h t/\chainC P J ops Q l cs (c.e.heap h) (c.t o t)
 | [],[],h,t=>Q h t
 | _,_,_,_=>False
def lexC (ops:Array Oper) (cl:List Cl):Nat->Nat->Array Bool->Bool
 | 0,_,listed=>(Region.ready .any ops listed).isEmpty
 | f+1,k,listed=>(Region.ready .any ops listed).contains k&&((List.range ops.size).all λj=>j==k||listed.getD j true||reach ops ops.size j k||(match ops[k]?,cl[k]?,ops[j]?,cl[j]? with | some a,some b,some c,some d=>indep ops a b c d | _,_,_,_=>true))&&lexC ops cl f (k+1) (listed.setIfInBounds k true)
theorem anyC_lex {cl:List Cl} {Q:AHeap->ATm->Prop}:∀ (l:List Oper) (cs:List Cl) (k:Nat) (listed:Array Bool) (h:AHeap) (t:ATm),(∀ j,l[j]? = ops[k+j]?)->(∀ j,cs[j]? = cl[k+j]?)->Closed ops listed->lexC ops cl l.length k listed=true->chainC P J ops Q l cs h t->anyC P J ops cl Q l.length listed h t
 | [],[],_,_,_,_,_,_,_,hB,hc=>⟨by simpa [lexC] using hB,hc⟩
 | [],_::_,_,_,_,_,_,_,_,_,hc=>hc.elim
 | _::_,[],_,_,_,_,_,_,_,_,hc=>hc.elim
 | o::l,c::cs,k,listed,h,t,hl,hcs,hcl,hB,hc=>by
   have h0:ops[k]? = some o:=by simpa using (hl 0).symm
   have c0:cl[k]? = some c:=by simpa using (hcs 0).symm
   simp only [List.length_cons,lexC,Bool.and_eq_true] at hB
   obtain ⟨⟨hr,hf⟩,hB'⟩:=hB
   have hr':k∈Region.ready .any ops listed:=by simpa using hr
   refine anyC_first h0 c0 l.length listed h t hcl (λj oj cj hj hcj hne hun hre => ?_) hr' hc.1 (anyC_lex l cs (k+1) _ _ _ (λj=>by have:=hl (j+1);simpa [Nat.add_assoc,Nat.add_comm 1 j] using this) (λj=>by have:=hcs (j+1);simpa [Nat.add_assoc,Nat.add_comm 1 j] using this) ?_ hB' hc.2)
   ·have hjs:j<ops.size:=(Array.getElem?_eq_some_iff.1 hj).1
    have:=List.all_eq_true.1 hf j (List.mem_range.2 hjs)
    rw [h0,c0,hj,hcj,hun,hre] at this
    simpa [hne] using this
   obtain ⟨_,o',ho',hall⟩:=mem_ready.1 hr'
   intro j oj hj hoj e he hb
   by_cases hkj:k=j
   ·subst hkj
    rw [hoj] at ho';cases ho'
    exact getD_set_true (hall e he hb)
   rw [getD_set_ne false hkj] at hj
   exact getD_set_true (hcl j oj hj hoj e he hb)
def forceN (n:Nat) (k:Nat->Bool):Bool:=match n with
 | 0=>k 0
 | m+1=>k (m+1)
theorem forceN_eq {k:Nat->Bool}:forceN n k=k n:=by cases n<;>rfl
def bitN (i:Nat):Nat:=Nat.shiftLeft 1 i
def bitO:Option Nat->Nat
 | none=>0
 | some x=>bitN x
def afterM:List Edge->Nat
 | []=>0
 | e::l=>match Region.binds .any e with
   | true=>Nat.lor (bitN e.on) (afterM l)
   | false=>afterM l
def tmM:List (Operand × AV)->Nat
 | []=>0
 | p::l=>match p.1 with
   | .tmp x=>Nat.lor (bitN x) (tmM l)
   | _=>tmM l
structure DrR where
 B:Nat
 R:Nat
 D:Nat
 T:Nat
 c:Cl
def clo (A:Nat):List DrR->Nat
 | []=>0
 | r::l=>match Nat.beq (Nat.land A r.B) 0 with
   | true=>clo A l
   | false=>Nat.lor (Nat.lor r.B r.R) (clo A l)
def namesOk (a b:Cl):Bool:=efTwo a b&&(match a.e.isAp with | some k=>quietFor k b | none=>true)
def pairOk (R D T:Nat) (c:Cl) (r:DrR):Bool := !(Nat.beq (Nat.land R r.B) 0)||(Nat.beq (Nat.land D r.T) 0&&(Nat.beq (Nat.land r.D T) 0&&(Nat.beq (Nat.land D r.D) 0&&(namesOk c r.c&&namesOk r.c c))))
def allOk (R D T:Nat) (c:Cl):List DrR->Bool
 | []=>true
 | r::l=>pairOk R D T c r&&allOk R D T c l
def fastC (ops:Array Oper):List Oper->List Cl->Nat->List DrR->Bool
 | o::l,c::cs,k,done =>
   forceN (afterM o.after.toList) λA=>Nat.beq (Nat.shiftRight A k) 0 &&
   forceN (clo A done) λR=>forceN (bitO o.dst) λD=>forceN (Nat.lor (tmM c.args) (bitO (guardTmp ops o))) λT =>
   allOk R D T c done&&forceN (bitN k) λB=>forceN (Nat.succ k) λk'=>fastC ops l cs k' (⟨B,R,D,T,c⟩::done)
 | [],[],_,_=>true
 | _,_,_,_=>false
theorem Y3 {x y:Nat}:(bitN x).testBit y=decide (x=y):=by
 show (1 <<< x).testBit y=_
 rw [Nat.one_shiftLeft,Nat.testBit_two_pow]
theorem Zbr {a b y:Nat}:(Nat.lor a b).testBit y=(a.testBit y||b.testBit y):=Nat.testBit_or a b y
variable {y:Nat}
theorem land0 {a b:Nat} (h:Nat.beq (Nat.land a b) 0=true) (ha:a.testBit y=true):b.testBit y=false:=by
 have h1:a &&& b=0:=Nat.eq_of_beq_eq_true h
 have h2:=Nat.testBit_and a b y
 rw [h1,ha,Nat.zero_testBit] at h2
 simpa using h2.symm
theorem landN {a i:Nat} (h:Nat.beq (Nat.land a (bitN i)) 0=false):a.testBit i=true:=by
 rw [<- Bool.not_eq_false]
 intro e
 have h1:a &&& bitN i=0:=Nat.eq_of_testBit_eq λy=>by
  rw [Nat.testBit_and,Y3,Nat.zero_testBit]
  by_cases e1:i=y
  ·subst e1;rw [e];rfl
  simp [e1]
 have h2:Nat.beq (Nat.land a (bitN i)) 0=true:=by show Nat.beq (a &&& bitN i) 0=true;rw [h1];rfl
 rw [h] at h2;cases h2
theorem bitN_inj (h:bitN i=bitN j):i=j:=by
 have h1:=Y3 (x:=i) (y:=j)
 rw [h,Y3] at h1
 simpa using h1
theorem Zb7 {l:List Edge} :(afterM l).testBit y=true↔∃ e∈l,Region.binds .any e=true/\e.on=y:=by
 induction l with
 | nil=>simp [afterM]
 | cons e l ih =>
   unfold afterM
   cases hb:Region.binds .any e with
   | true=>rw [Zbr,Y3];simp [ih,hb]
   | false=>simp [ih,hb]
theorem tmM_test {l:List (Operand × AV)} (h:(tmM l).testBit y=false):hasTmp (some y) l=false:=by
 induction l with
 | nil=>rfl
 | cons p l ih =>
   obtain ⟨x,v⟩:=p
   unfold hasTmp at *
   cases x with
   | tmp x =>
     simp only [tmM,Zbr,Y3,Bool.or_eq_false_iff,decide_eq_false_iff_not] at h
     simp only [List.any_cons,ih h.2,Bool.or_false,beq_eq_false_iff_ne]
     exact h.1
   | const x=>simp only [tmM] at h;simp only [List.any_cons,ih h,Bool.or_false]
   | global x=>simp only [tmM] at h;simp only [List.any_cons,ih h,Bool.or_false]
   | func x=>simp only [tmM] at h;simp only [List.any_cons,ih h,Bool.or_false]
def InvR (ops:Array Oper) (cl:List Cl) (done:List DrR) (k:Nat):Prop :=
 (∀ r∈done,∃ j o,j<k/\ops[j]? = some o/\cl[j]? = some r.c/\r.B=bitN j/\r.D=bitO o.dst/\r.T=Nat.lor (tmM r.c.args) (bitO (guardTmp ops o))/\∀ i,r.R.testBit i=true->∀ f,j<f->reach ops f j i=true)/\∀ j,j<k->∃ r∈done,r.B=bitN j
def GoodR (ops:Array Oper) (cl:List Cl) (k:Nat):Prop:=∀ j o,k<=j->ops[j]? = some o->(∀ e∈o.after,Region.binds .any e=true->e.on<j)/\∀ i,i<j->∀ oi cj ci,ops[i]? = some oi->cl[j]? = some cj->cl[i]? = some ci->reach ops ops.size j i=true\/indep ops oi ci o cj=true
variable {A:Nat}
theorem clo_test {done:List DrR} (h:(clo A done).testBit i=true):∃ r∈done,Nat.beq (Nat.land A r.B) 0=false/\(r.B.testBit i=true\/r.R.testBit i=true):=by
 induction done with
 | nil=>simp [clo] at h
 | cons r l ih =>
   unfold clo at h
   cases hb:Nat.beq (Nat.land A r.B) 0 with
   | true =>
     rw [hb] at h
     obtain ⟨r',h1,h2⟩:=ih h
     exact ⟨r',List.mem_cons_of_mem _ h1,h2⟩
   | false =>
     rw [hb] at h
     simp only [Zbr,Bool.or_eq_true] at h
     rcases h with h | h
     ·exact ⟨r,List.mem_cons_self,hb,h⟩
     obtain ⟨r',h1,h2⟩:=ih h
     exact ⟨r',List.mem_cons_of_mem _ h1,h2⟩
theorem allOk_mem {R D T:Nat} {c:Cl} {done:List DrR} (h:allOk R D T c done=true):∀ r∈done,pairOk R D T c r=true:=by
 induction done with
 | nil=>intro r hr;cases hr
 | cons r l ih =>
   simp only [allOk,Bool.and_eq_true] at h
   intro r' hr'
   rcases List.mem_cons.1 hr' with rfl | hr'
   ·exact h.1
   exact ih h.2 r' hr'
theorem shr0 (h:Nat.beq (Nat.shiftRight A k) 0=true) (hy:A.testBit y=true):y<k:=by
 have h1:A >>> k=0:=Nat.eq_of_beq_eq_true h
 refine Nat.lt_of_not_le λhk => ?_
 have h2:=Nat.testBit_shiftRight (i:=k) (j:=y-k) A
 rw [h1,Nat.zero_testBit,Nat.add_sub_cancel' hk,hy] at h2
 cases h2
theorem Zex {ci cj:Cl} (h1:Nat.beq (Nat.land (bitO oi.dst) (Nat.lor (tmM cj.args) (bitO (guardTmp ops oj)))) 0=true) (h2:namesOk ci cj=true):half ops oi ci oj cj=true:=by
 unfold namesOk at h2
 rw [Bool.and_eq_true] at h2
 have key:∀ x,oi.dst=some x->(tmM cj.args).testBit x=false/\(bitO (guardTmp ops oj)).testBit x=false:=λx hx=>by
  have:=land0 h1 (y:=x) (by rw [hx];simp [bitO,Y3])
  rw [Zbr,Bool.or_eq_false_iff] at this
  exact this
 unfold half
 rw [Bool.and_eq_true,Bool.and_eq_true,Bool.and_eq_true]
 refine ⟨⟨⟨?_,?_⟩,h2.1⟩,h2.2⟩
 ·cases hd:oi.dst with
  | none=>unfold hasTmp;simp only [Bool.not_eq_true',List.any_eq_false];intro p _;cases p.1<;>simp
  | some x=>rw [tmM_test (key x hd).1];rfl
 cases hd:oi.dst with
 | none=>rfl
 | some x =>
   cases hg:guardTmp ops oj with
   | none=>rfl
   | some y =>
     have:=(key x hd).2
     rw [hg] at this
     simp only [bitO,Y3,decide_eq_false_iff_not] at this
     simpa using λe=>this (Eq.symm e)
theorem ZeA {cl:List Cl}:∀ (l:List Oper) (cs:List Cl) (k:Nat) (done:List DrR),(∀ j,l[j]? = ops[k+j]?)->(∀ j,cs[j]? = cl[k+j]?)->InvR ops cl done k->fastC ops l cs k done=true->GoodR ops cl k
 | [],_,k,_,hl,_,_,_=>λj o hj ho=>by
   have:=hl (j-k)
   rw [Nat.add_sub_cancel' hj,ho] at this
   simp at this
 | _::_,[],_,_,_,_,_,h=>by simp [fastC] at h
 | o::l,c::cs,k,done,hl,hcs,hI,h=>by
   have h0:ops[k]? = some o:=by simpa using (hl 0).symm
   have c0:cl[k]? = some c:=by simpa using (hcs 0).symm
   simp only [fastC,forceN_eq,Bool.and_eq_true] at h
   obtain ⟨ha,hp,hr⟩:=h
   have hks:k<ops.size:=(Array.getElem?_eq_some_iff.1 h0).1
   have hR:∀ i,(clo (afterM o.after.toList) done).testBit i=true->∀ f,k<f->reach ops f k i=true:=λi hi f hf=>by
    obtain ⟨r,hr1,hr2,hr3⟩:=clo_test hi
    obtain ⟨j,oj,hj,_,_,hB,_,_,hre⟩:=hI.1 r hr1
    rw [hB] at hr2 hr3
    obtain ⟨e,he,hbe,hon⟩:=Zb7.1 (landN hr2)
    cases f with
    | zero=>omega
    | succ f =>
      unfold reach
      rw [h0]
      refine Array.any_eq_true'.2 ⟨e,by simpa using he,?_⟩
      rw [hbe,Bool.true_and,hon]
      rcases hr3 with h3 | h3
      ·rw [Y3,decide_eq_true_iff] at h3
       simp [h3]
      rw [hre i h3 f (by omega)];simp
   refine λj o' hj ho' => ?_
   rcases Nat.eq_or_lt_of_le hj with e | hlt
   ·subst e
    rw [h0] at ho';cases ho'
    refine ⟨λe he hb=>shr0 ha (Zb7.2 ⟨e,by simpa using he,hb,rfl⟩),λi hi oi cj ci hoi hcj hci => ?_⟩
    rw [c0] at hcj;cases hcj
    obtain ⟨r,hr1,hrB⟩:=hI.2 i hi
    obtain ⟨i',oi',hi',hoi',hci',hB,hD,hT,_⟩:=hI.1 r hr1
    have e:=bitN_inj (hB.symm.trans hrB);subst e
    rw [hoi] at hoi';cases hoi'
    rw [hci] at hci';cases hci'
    have hpk:=allOk_mem hp r hr1
    unfold pairOk at hpk
    rw [Bool.or_eq_true] at hpk
    rcases hpk with hpk | hpk
    ·rw [hB,Bool.not_eq_true'] at hpk
     exact .inl (hR i' (landN hpk) _ hks)
    simp only [Bool.and_eq_true] at hpk
    obtain ⟨p1,p2,p3,p4,p5⟩:=hpk
    rw [hT] at p1
    rw [hD] at p2 p3
    refine .inr ?_
    unfold indep
    rw [Bool.and_eq_true,Bool.and_eq_true]
    refine ⟨⟨Zex p2 p5,Zex p1 p4⟩,?_⟩
    cases hdi:oi.dst with
    | none=>rfl
    | some x =>
      cases hdj:o.dst with
      | none=>rfl
      | some y =>
        rw [hdi,hdj] at p3
        have:=land0 p3 (y:=y) (by simp [bitO,Y3])
        simp only [bitO,Y3,decide_eq_false_iff_not] at this
        simpa using this
   refine ZeA l cs (k+1) _ (λj=>by have:=hl (j+1);simpa [Nat.add_assoc,Nat.add_comm 1 j] using this) (λj=>by have:=hcs (j+1);simpa [Nat.add_assoc,Nat.add_comm 1 j] using this) ⟨λr hr' => ?_,λi hi => ?_⟩ hr j o' hlt ho'
   ·rcases List.mem_cons.1 hr' with rfl | hr'
    ·exact ⟨k,o,Nat.lt_succ_self k,h0,c0,rfl,rfl,rfl,hR⟩
    obtain ⟨i,oi,h1,h2⟩:=hI.1 r hr'
    exact ⟨i,oi,Nat.lt_succ_of_lt h1,h2⟩
   by_cases hik:i=k
   ·subst hik;exact ⟨_,List.mem_cons_self,rfl⟩
   obtain ⟨r,h1,h2⟩:=hI.2 i (by omega)
   exact ⟨r,List.mem_cons_of_mem _ h1,h2⟩
theorem lex_good {cl:List Cl} (G:GoodR ops cl 0):∀ (f k:Nat) (listed:Array Bool),f+k=ops.size->(∀ j b,j<ops.size->listed.getD j b=decide (j<k))->listed.size=ops.size->lexC ops cl f k listed=true
 | 0,k,listed,hk,hL,_=>by
   unfold lexC
   rw [List.isEmpty_iff,List.eq_nil_iff_forall_not_mem]
   intro i hi
   obtain ⟨h1,o,h2,_⟩:=mem_ready.1 hi
   have hs:=(Array.getElem?_eq_some_iff.1 h2).1
   rw [hL i true hs,decide_eq_false_iff_not] at h1
   omega
 | f+1,k,listed,hk,hL,hS=>by
   have hks:k<ops.size:=by omega
   unfold lexC
   rw [Bool.and_eq_true,Bool.and_eq_true]
   refine ⟨⟨?_,?_⟩,?_⟩
   ·rw [List.contains_iff_mem]
    refine mem_ready.2 ⟨by rw [hL k true hks];simp,ops[k],by simp [hks],λe he hb => ?_⟩
    have:=(G k _ (Nat.zero_le _) (by simp [hks]:ops[k]? = some ops[k])).1 e he hb
    rw [hL e.on false (by omega)]
    simpa using this
   ·rw [List.all_eq_true]
    intro j hj
    have hjs:=List.mem_range.1 hj
    rcases Nat.lt_trichotomy j k with h | h | h
    ·rw [hL j true hjs];simp [h]
    ·simp [h]
    have hoj:ops[j]? = some ops[j]:=by simp [hjs]
    have hok:ops[k]? = some ops[k]:=by simp [hks]
    rw [hoj,hok]
    cases hck:cl[k]? with
    | none=>simp
    | some ck =>
      cases hcj:cl[j]? with
      | none=>simp
      | some cj =>
        rcases (G j _ (Nat.zero_le _) hoj).2 k h _ _ _ hok hcj hck with h' | h'
        ·rw [h'];simp
        simp [h']
   refine lex_good G f (k+1) _ (by omega) (λj b hj => ?_) (by simpa using hS)
   by_cases hkj:k=j
   ·subst hkj
    rw [Array.getD_eq_getD_getElem?]
    simp [hS,hj]
   rw [getD_set_ne b hkj,hL j b hj]
   simp only [decide_eq_decide]
   omega
theorem lex_fast {l:List Oper} {cl:List Cl} (h:fastC l.toArray l cl 0 []=true):lexC l.toArray cl l.length 0 (Array.replicate l.toArray.size false)=true:=by
 have G:=ZeA (ops:=l.toArray) (cl:=cl) l cl 0 [] (by simp) (by simp) ⟨λr hr=>(List.not_mem_nil hr).elim,λj hj=>(Nat.not_lt_zero j hj).elim⟩ h
 refine lex_good G _ 0 _ (by simp) (λj b hj => ?_) (by simp)
 rw [Array.getD_eq_getD_getElem?]
 simp at hj
 simp [hj]
theorem Sat.drew {w0:Wb} {h:AHeap} {t:ATm} (s:Sat J w0 ρ h t a w):Sat J w0 ρ h t a { w with drawn:=w.drawn+1 }:=by
 have hp:∀ X x,Pu (w0.heap.size <= ·) w (okOf ρ) X x->Pu (w0.heap.size <= ·) { w with drawn:=w.drawn+1 } (okOf ρ) X x:=λX x hx=>hx.mono (λb hb hw=>⟨hb,hw,rfl⟩) λ_ _ h=>h
 refine ⟨⟨s.wf.inj,s.wf.lo⟩,s.hH,⟨s.bel.os,s.bel.tape,s.bel.output,s.bel.size,s.bel.block⟩,s.inv,λk X hk => ?_,s.dom,s.pin,s.tl,λi hi=>(s.tm i hi).keep hp λ_ _ h=>h,s.df,s.gh⟩
 obtain ⟨nm,h1,h2⟩:=s.hp k X hk
 exact ⟨nm,h1,BlkR.keep (w:=w) (w':={ w with drawn:=w.drawn+1 }) (ρ:=ρ) (ρ':=ρ) (λfr X x hx=>hx.mono (λb hb hw=>⟨hb,hw,rfl⟩) λ_ _ h=>h) hp (λ_ _ h=>h) (λ_ _ _ _=>rfl) h2⟩
variable {id:Nat}
theorem tri_draw {w0:Wb} {h:AHeap} {t:ATm} {Q:Exit->Act->World->Prop} {l:List Oper} (cl:List Cl) (hm:P.follows .mixedOrders=true) (hB0:fastC l.toArray l cl 0 []=true)
 (H:chainC P J l.toArray (λh t=>ETri J w0 h t (Q .normal)) l cl h t):ETri J w0 h t ((Code.region id l.toArray true).wp P Q):=fun ρ a w s=>by
 refine wp_region_any hm ?_
 have hB:=lex_fast hB0
 have hc:Closed l.toArray (Array.replicate l.toArray.size false):=λj o hj=>by
  rw [Array.getD_eq_getD_getElem?,Array.getElem?_replicate] at hj
  split at hj<;>cases hj
 have:=anyC_lex (P:=P) (cl:=cl) l cl 0 (Array.replicate l.toArray.size false) h t (by simp) (by simp) hc hB H
 have h2:=any_of_C (w0:=w0) (Φ:=Q) (Q:=λh t=>ETri J w0 h t (Q .normal)) (λ_ _ h=>h) l.length _ h t this ρ a _ s.drew
 simpa using h2
end
section
variable {P:Program} {o:Oper}
theorem K0 {op:BinOp} {t ty:TypeId} {x y:Operand} {p q r:Value} (ho:o.op = .binOp op t x y ty) (hr:∀ w,(do eqGuard op t x y p q;Go.binOp op t p q:Sem Value).run P w = .ok r w):ASpec P J o [(x,.v p),(y,.v q)] [] (.v r) .no :=
 ZF fun ρ B a w _ ha _=>by
  have h1:=(ha (x,.v p) (by simp)).v_inv
  have h2:=(ha (y,.v q) (by simp)).v_inv
  refine ⟨r,?_,.pu (.v r)⟩
  simp only [execOp,ho,h1,h2]
  exact Z7 (hr w)
variable {t ty:TypeId} {x y:Operand} {k:IntKind} {a b c:Int} {r:Bool}
theorem WH (ho:o.op = .binOp .add t x y ty) (hc:k.wrap (a+b)=c):ASpec P J o [(x,.v (.int k a)),(y,.v (.int k b))] [] (.v (.int k c)) .no :=
 K0 ho λw=>by subst hc;simp [eqGuard,Go.binOp,Op.intArith]
theorem Kh (ho:o.op = .binOp .sub t x y ty) (hc:k.wrap (a-b)=c):ASpec P J o [(x,.v (.int k a)),(y,.v (.int k b))] [] (.v (.int k c)) .no :=
 K0 ho λw=>by subst hc;simp [eqGuard,Go.binOp,Op.intArith]
theorem sp_mul (ho:o.op = .binOp .mul t x y ty) (hc:k.wrap (a*b)=c):ASpec P J o [(x,.v (.int k a)),(y,.v (.int k b))] [] (.v (.int k c)) .no :=
 K0 ho λw=>by subst hc;simp [eqGuard,Go.binOp,Op.intArith]
theorem ZdU (ho:o.op = .binOp .rem t x y ty) (h0:b≠0) (hc:a.tmod b=c):ASpec P J o [(x,.v (.int k a)),(y,.v (.int k b))] [] (.v (.int k c)) .no :=
 K0 ho λw=>by subst hc;simp [eqGuard,Go.binOp,Op.intDiv,h0]
theorem Zcq (ho:o.op = .binOp .lss t x y ty) (hr:decide (a<b)=r):ASpec P J o [(x,.v (.int k a)),(y,.v (.int k b))] [] (.v (.bool r)) .no :=
 K0 ho λw=>by subst hr;simp [eqGuard,Go.binOp,Op.intCmp]
theorem sp_leq (ho:o.op = .binOp .leq t x y ty) (hr:decide (a<=b)=r):ASpec P J o [(x,.v (.int k a)),(y,.v (.int k b))] [] (.v (.bool r)) .no :=
 K0 ho λw=>by subst hr;simp [eqGuard,Go.binOp,Op.intCmp]
theorem WC (ho:o.op = .binOp .gtr t x y ty) (hr:decide (b<a)=r):ASpec P J o [(x,.v (.int k a)),(y,.v (.int k b))] [] (.v (.bool r)) .no :=
 K0 ho λw=>by subst hr;simp [eqGuard,Go.binOp,Op.intCmp]
theorem ZbD (ho:o.op = .binOp .geq t x y ty) (hr:decide (b<=a)=r):ASpec P J o [(x,.v (.int k a)),(y,.v (.int k b))] [] (.v (.bool r)) .no :=
 K0 ho λw=>by subst hr;simp [eqGuard,Go.binOp,Op.intCmp]
theorem ZH (ho:o.op = .binOp .eql t x y ty) (hr:decide (a=b)=r):ASpec P J o [(x,.v (.int k a)),(y,.v (.int k b))] [] (.v (.bool r)) .no :=
 K0 ho λw=>by subst hr;simp [eqGuard,Go.binOp,Op.intCmp];rfl
theorem Yg (ho:o.op = .binOp .neq t x y ty) (hr:decide (a=b) = !r):ASpec P J o [(x,.v (.int k a)),(y,.v (.int k b))] [] (.v (.bool r)) .no :=
 K0 ho λw=>by
  have:r = !decide (a=b):=by rw [hr];simp
  subst this;simp [eqGuard,Go.binOp,Op.intCmp,bne];rfl
theorem sp_seql {s s':ByteArray} (ho:o.op = .binOp .eql t x y ty) (hr:(s.toList==s'.toList)=r):ASpec P J o [(x,.v (.string s)),(y,.v (.string s'))] [] (.v (.bool r)) .no :=
 K0 ho λw=>by subst hr;simp [eqGuard,Go.binOp,Op.stringOp]
theorem sp_not {b':Bool} (ho:o.op = .unOp .not t x) (hr:(!r)=b'):ASpec P J o [(x,.v (.bool r))] [] (.v (.bool b')) .no :=
 ZF fun ρ B a w _ ha _=>by
  have h1:=(ha (x,.v (.bool r)) (by simp)).v_inv
  subst hr
  refine ⟨_,?_,.pu (.v _)⟩
  simp only [execOp,ho,h1]
  exact Z7 (by simp [Op.unary])
end
theorem w64 {a c:Int} (h:a=c) (h1 : -9223372036854775808<=c) (h2:c<=9223372036854775807):IntKind.i64.wrap a=c:=by subst h;exact IntWalk.i64_in _ ⟨h1,h2⟩
def StrEl (_:Nat) (_:World) (cs:List Value) (s:ByteArray):Prop:=cs=[.string s]/\s.size<=maxLen
structure Ln where
 c:Int
 n:Int
 t:Int
 f:Int
 deriving DecidableEq,Inhabited
def LnEl (_:Nat) (_:World) (cs:List Value) (l:Ln):Prop:=cs=[.int .i64 l.c,.int .i64 l.n,.int .i64 l.t,.int .i64 l.f]/\I64 l.c/\I64 l.n/\I64 l.t/\I64 l.f
structure Th where
 msg:Int
 coef:Int
 bd:Ln
 deriving DecidableEq,Inhabited
def ThEl (_:Nat) (_:World) (cs:List Value) (g:Th):Prop:=cs=[.int .i64 g.msg,.int .i64 g.coef,.int .i64 g.bd.c,.int .i64 g.bd.n,.int .i64 g.bd.t,.int .i64 g.bd.f]/\I64 g.msg/\I64 g.coef/\I64 g.bd.c/\I64 g.bd.n/\I64 g.bd.t/\I64 g.bd.f
structure Ru where
 nm:ByteArray
 kind:Int
 frm:Int
 «to»:Int
 pf:Int
 pt:Int
 resp:List Int
 gz:List Th
 ex:List Int
 fa:List Int
 rd:Int
 wr:Int
 send:List Int
 pos:Int
 left:List Int
 right:List Int
 pz:List Int
 dir:Int
 deriving Inhabited
def RuEl (lo:Nat) (w:World) (cs:List Value) (r:Ru):Prop :=
 ∃ v6 v7 v8 v9 v12 v14 v15 v16,cs=[.string r.nm,.int .i64 r.kind,.int .i64 r.frm,.int .i64 r.to,.int .i64 r.pf,.int .i64 r.pt,v6,v7,v8,v9,.int .i64 r.rd,.int .i64 r.wr,v12,.int .i64 r.pos,v14,v15,v16,.int .i64 r.dir]/\r.nm.size<=maxLen/\I64 r.kind/\I64 r.frm/\I64 r.to/\I64 r.pf/\I64 r.pt/\IsInts lo w v6 r.resp/\IsSl 6 ThEl lo w v7 r.gz/\IsInts lo w v8 r.ex/\IsInts lo w v9 r.fa/\I64 r.rd/\I64 r.wr/\IsInts lo w v12 r.send/\I64 r.pos/\IsInts lo w v14 r.left/\IsInts lo w v15 r.right/\IsInts lo w v16 r.pz/\I64 r.dir
theorem StrEl.stays:Stays StrEl:=λ_ _ _ _ _ h _=>h
theorem StrEl.mono:Mono StrEl:=λ_ _ _ _ _ h _=>h
theorem LnEl.stays:Stays LnEl:=λ_ _ _ _ _ h _=>h
theorem LnEl.mono:Mono LnEl:=λ_ _ _ _ _ h _=>h
theorem ThEl.stays:Stays ThEl:=λ_ _ _ _ _ h _=>h
theorem ThEl.mono:Mono ThEl:=λ_ _ _ _ _ h _=>h
theorem RuEl.stays:Stays RuEl:=λ_ _ _ _ _ h hb=>by
 obtain ⟨v6,v7,v8,v9,v12,v14,v15,v16,e,h0,h1,h2,h3,h4,h5,h6,h7,h8,h9,h10,h11,h12,h13,h14,h15,h16,h17⟩:=h
 exact ⟨v6,v7,v8,v9,v12,v14,v15,v16,e,h0,h1,h2,h3,h4,h5,h6.below hb,h7.below ThEl.stays hb,h8.below hb,h9.below hb,h10,h11,h12.below hb,h13,h14.below hb,h15.below hb,h16.below hb,h17⟩
theorem RuEl.mono:Mono RuEl:=λ_ _ _ _ _ h hl=>by
 obtain ⟨v6,v7,v8,v9,v12,v14,v15,v16,e,h0,h1,h2,h3,h4,h5,h6,h7,h8,h9,h10,h11,h12,h13,h14,h15,h16,h17⟩:=h
 exact ⟨v6,v7,v8,v9,v12,v14,v15,v16,e,h0,h1,h2,h3,h4,h5,h6.mono hl,h7.mono ThEl.mono hl,h8.mono hl,h9.mono hl,h10,h11,h12.mono hl,h13,h14.mono hl,h15.mono hl,h16.mono hl,h17⟩
structure Fm where
 nm:ByteArray
 top:Int
 sz:List ByteArray
 msgs:List ByteArray
 vals:List ByteArray
 fzz:Int
 res:List Ln
 init:List Int
 lz:List Int
 rz:List Ru
def IsFam (lo:Nat) (w:World) (v:Value) (q:Fm):Prop :=
 ∃ v2 v3 v4 v6 v7 v8 v9,v = .agg #[.string q.nm,.int .i64 q.top,v2,v3,v4,.int .i64 q.fzz,v6,v7,v8,v9]/\q.nm.size<=maxLen/\I64 q.top/\IsSl 1 StrEl lo w v2 q.sz/\IsSl 1 StrEl lo w v3 q.msgs/\IsSl 1 StrEl lo w v4 q.vals/\I64 q.fzz/\IsSl 4 LnEl lo w v6 q.res/\IsInts lo w v7 q.init/\IsInts lo w v8 q.lz/\IsSl 18 RuEl lo w v9 q.rz
theorem IsFam.below {lo:Nat} {w w':World} {v:Value} {q:Fm} (h:IsFam lo w v q) (hb:Below w.heap.size w w'):IsFam lo w' v q:=by
 obtain ⟨v2,v3,v4,v6,v7,v8,v9,e,h0,h1,h2,h3,h4,h5,h6,h7,h8,h9⟩:=h
 exact ⟨v2,v3,v4,v6,v7,v8,v9,e,h0,h1,h2.below StrEl.stays hb,h3.below StrEl.stays hb,h4.below StrEl.stays hb,h5,h6.below LnEl.stays hb,h7.below hb,h8.below hb,h9.below RuEl.stays hb⟩
theorem IsFam.mono {lo lo':Nat} {w:World} {v:Value} {q:Fm} (h:IsFam lo w v q) (hl:lo'<=lo):IsFam lo' w v q:=by
 obtain ⟨v2,v3,v4,v6,v7,v8,v9,e,h0,h1,h2,h3,h4,h5,h6,h7,h8,h9⟩:=h
 exact ⟨v2,v3,v4,v6,v7,v8,v9,e,h0,h1,h2.mono StrEl.mono hl,h3.mono StrEl.mono hl,h4.mono StrEl.mono hl,h5,h6.mono LnEl.mono hl,h7.mono hl,h8.mono hl,h9.mono RuEl.mono hl⟩
abbrev iv (x:Int):AV := .v (.int .i64 x)
abbrev sv (s:ByteArray):AV := .v (.string s)
abbrev bv (b:Bool):AV := .v (.bool b)
abbrev bT:AV:=bv true
abbrev bF:AV:=bv false
def Zc (xs:List Int):AV := .sl 1 xs.length (xs.map iv)
def ZN (xs:List ByteArray):AV := .sl 1 xs.length (xs.map sv)
def slA {α:Type} (z:Nat) (f:α->List AV) (xs:List α):AV := .sl z xs.length (xs.flatMap f)
def cLn (l:Ln):List AV:=[iv l.c,iv l.n,iv l.t,iv l.f]
def cTh (g:Th):List AV:=[iv g.msg,iv g.coef,iv g.bd.c,iv g.bd.n,iv g.bd.t,iv g.bd.f]
def cRu (r:Ru):List AV:=[sv r.nm,iv r.kind,iv r.frm,iv r.to,iv r.pf,iv r.pt,Zc r.resp,slA 6 cTh r.gz,Zc r.ex,Zc r.fa,iv r.rd,iv r.wr,Zc r.send,iv r.pos,Zc r.left,Zc r.right,Zc r.pz,iv r.dir]
def cFm (q:Fm):List AV:=[sv q.nm,iv q.top,ZN q.sz,ZN q.msgs,ZN q.vals,iv q.fzz,slA 4 cLn q.res,Zc q.init,Zc q.lz,slA 18 cRu q.rz]
theorem Zx (xs:List Int):Plain (Zc xs) := .sl (ZE λX hX=>by obtain ⟨x,_,rfl⟩:=List.mem_map.1 hX;exact .v _)
theorem ZcE (xs:List ByteArray):Plain (ZN xs) := .sl (ZE λX hX=>by obtain ⟨x,_,rfl⟩:=List.mem_map.1 hX;exact .v _)
theorem Yj {α:Type} {f:α->List AV} (h:∀ x,∀ X∈f x,Plain X) (xs:List α):Plain (slA z f xs) := .sl (ZE λX hX=>by obtain ⟨x,_,hx⟩:=List.mem_flatMap.1 hX;exact h x X hx)
theorem plain_ln (l:Ln):∀ X∈cLn l,Plain X:=by intro X hX;simp only [cLn,List.mem_cons,List.not_mem_nil,or_false] at hX;rcases hX with rfl | rfl | rfl | rfl<;>exact .v _
theorem Zdj (l:Th):∀ X∈cTh l,Plain X:=by intro X hX;simp only [cTh,List.mem_cons,List.not_mem_nil,or_false] at hX;rcases hX with rfl | rfl | rfl | rfl | rfl | rfl<;>exact .v _
theorem Yr (r:Ru):∀ X∈cRu r,Plain X:=by
 intro X hX
 simp only [cRu,List.mem_cons,List.not_mem_nil,or_false] at hX
 rcases hX with rfl | rfl | rfl | rfl | rfl | rfl | rfl | rfl | rfl | rfl | rfl | rfl | rfl | rfl | rfl | rfl | rfl | rfl<;>first | exact .v _ | exact Zx _ | exact Yj Zdj _
theorem Zy (q:Fm):∀ X∈cFm q,Plain X:=by
 intro X hX
 simp only [cFm,List.mem_cons,List.not_mem_nil,or_false] at hX
 rcases hX with rfl | rfl | rfl | rfl | rfl | rfl | rfl | rfl | rfl | rfl<;>first | exact .v _ | exact Zx _ | exact ZcE _ | exact Yj plain_ln _ | exact Yj Yr _
theorem Zg (h:∀ X∈cs,Plain X):Plain (.agg cs) := .agg (ZE h)
theorem Wd {α:Type} {z:Nat} {f:α->List AV} (hz:∀ x,(f x).length=z):∀ (xs:List α) (i j:Nat) (hi:i<xs.length),j<z->(xs.flatMap f)[i*z+j]? = (f xs[i])[j]?
 | x::xs,0,j,_,hj=>by
   simp only [List.flatMap_cons,Nat.zero_mul,Nat.zero_add,List.getElem_cons_zero]
   rw [List.getElem?_append_left (by rw [hz];exact hj)]
 | x::xs,i+1,j,hi,hj=>by
   simp only [List.flatMap_cons,List.getElem_cons_succ]
   rw [List.getElem?_append_right (by rw [hz,Nat.add_mul];omega),hz,<- Wd hz xs i j (by simpa using hi) hj]
   congr 1
   rw [Nat.add_mul];omega
theorem Zao {α:Type} {z:Nat} {f:α->List AV} (hz:∀ x,(f x).length=z):∀ xs:List α,(xs.flatMap f).length=xs.length*z
 | []=>by simp
 | x::xs=>by simp only [List.flatMap_cons,List.length_append,hz,Zao hz xs,List.length_cons,Nat.add_mul];omega
theorem ZJ {α:Type} {f:α->List AV} (hz:∀ x,(f x).length=z) (xs:List α) (i:Nat) (hi:i<xs.length):((xs.flatMap f).drop (i*z)).take z=f xs[i]:=by
 apply List.ext_getElem?
 intro j
 rw [List.getElem?_take]
 split
 ·rw [List.getElem?_drop,Wd hz xs i j hi (by assumption)]
 rw [List.getElem?_eq_none (by rw [hz];omega)]
variable {v:Value}{lo:Nat}
theorem pu_sl {F ok:Nat->Prop} {α:Type} {f:α->List AV} {xs:List α} (hz:∀ x,(f x).length=z) {Q:Nat->World->List Value->α->Prop} (hlo:∀ b,ok b->lo<=b)
 (hQ:∀ (x:α) (vs:List Value),vs.length=z->(∀ j (hj:j<(f x).length),Pu F w ok (f x)[j] (vs.getD j undef))->Q lo w vs x) (h:Pu F w ok (slA z f xs) v):IsSl z Q lo w v xs:=by
 unfold slA at h
 generalize hcs:xs.flatMap f=cs at h
 generalize hn:xs.length=n at h
 cases h with
 | sl0 h2 hz0 =>
   rename_i a cap
   have:xs=[]:=List.eq_nil_of_length_eq_zero hn
   subst this
   exact ⟨a,cap,rfl,by simp,h2,hz0,.inl rfl⟩
 | sl hc h1 h2 hb hw hf h =>
   rename_i b off cap g
   subst hn
   refine ⟨_,cap,rfl,h1,h2,(λe=>by cases e),.inr ⟨b,off,rfl,hlo _ hb,hw,λi hi=>⟨(List.range z).map λj=>g (i*z+j),by simp,λj hj => ?_,?_⟩⟩⟩
   ·have hlt:i*z+j<cs.length:=by
     rw [hc]
     have:(i+1)*z<=xs.length*z:=Nat.mul_le_mul_right _ hi
     rw [Nat.add_mul] at this;omega
    rw [Nat.add_assoc,hf _ hlt];simp [hj]
   refine hQ _ _ (by simp) λj hj => ?_
   have hj':j<z:=by rw [<- hz xs[i]];exact hj
   have hlt:i*z+j<cs.length:=by
    rw [hc]
    have:(i+1)*z<=xs.length*z:=Nat.mul_le_mul_right _ hi
    rw [Nat.add_mul] at this;omega
   have e:cs[i*z+j]=(f xs[i])[j]:=by
    have:=Wd hz xs i j hi hj'
    rw [hcs,List.getElem?_eq_getElem hlt,List.getElem?_eq_getElem hj] at this
    exact Option.some.inj this
   have:=h _ hlt
   rw [e] at this
   simpa [hj'] using this
theorem owns_v {F ok:Nat->Prop} {xs:List Value} (h:w.ownsRow lo e z v n xs) (hok:∀ b,lo<=b->soft w b->ok b):Pu F w ok (.sl z n (xs.map .v)) v:=by
 obtain ⟨h1,h2⟩:=h
 rcases h2 with ⟨rfl,rfl⟩ | ⟨g,cap,cur,rfl,hB,hg,hn,hm,hs,ht⟩
 ·have:xs=[]:=List.eq_nil_of_length_eq_zero (by rw [h1,Nat.zero_mul])
  subst this
  exact .sl0 (by simp [maxLen]) (by simp)
 refine .sl (b:=g) (off:=0) (f:=λj=>xs.getD j undef) (by simpa using h1) hn hm (hok g hB ⟨_,_,hg⟩) (Array.getElem?_eq_some_iff.1 hg).1 (λj hj => ?_) λj hj => ?_
 ·have hj':j<xs.length:=by simpa using hj
  have:cur.toList[j]? = xs[j]? := by rw [<- ht,List.getElem?_take,if_pos (by rw [<- h1];exact hj')]
  rw [Nat.zero_add,Yn hg j (v:=xs.getD j undef) (by rw [<- Array.getElem?_toList,this,List.getD_eq_getElem?_getD,List.getElem?_eq_getElem hj'];rfl)]
 have hj':j<xs.length:=by simpa using hj
 simp only [List.getElem_map,List.getD_eq_getElem?_getD,List.getElem?_eq_getElem hj',Option.getD_some]
 exact .v _
theorem Pu.v_inv {F ok:Nat->Prop} {x y:Value} (h:Pu F w ok (.v x) y):y=x:=by cases h;rfl
variable {xs:List Int}
theorem Yf {F ok:Nat->Prop} (hI:∀ x∈xs,I64 x) (hlo:∀ b,ok b->lo<=b) (h:Pu F w ok (Zc xs) v):IsInts lo w v xs:=by
 unfold Zc at h
 generalize hcs:xs.map iv=cs at h
 generalize hn:xs.length=n at h
 cases h with
 | sl0 h2 hz0 =>
   rename_i a cap
   have:xs=[]:=List.eq_nil_of_length_eq_zero hn
   subst this
   exact ⟨a,cap,rfl,by simp,h2,⟨hI,hz0⟩,.inl rfl⟩
 | sl hc h1 h2 hb hw hf h =>
   rename_i b off cap g
   subst hn hcs
   refine ⟨_,cap,rfl,h1,h2,⟨hI,λe=>by cases e⟩,.inr ⟨b,off,rfl,hlo _ hb,hw,λi hi => ?_⟩⟩
   have hi':i<(xs.map iv).length:=by simpa using hi
   have h3:=h i hi'
   rw [hf i hi']
   simp only [List.getElem_map] at h3
   rw [h3.v_inv]
   simp [hi]
theorem YT {F ok:Nat->Prop} (hok:∀ b,lo<=b->b<w.heap.size->ok b) (h:IsInts lo w v xs):Pu F w ok (Zc xs) v:=by
 obtain ⟨a,cap,rfl,h1,h2,⟨_,h3⟩,h4⟩:=h
 rcases h4 with rfl | ⟨b,off,rfl,hb,hw,hc⟩
 ·exact .sl0 h2 h3
 exact .sl (f:=λi => .int .i64 (xs.getD i 0)) (by simp) h1 h2 (hok _ hb hw) hw (λj hj=>hc j (by simpa using hj)) λj hj=>by
  have:j<xs.length:=by simpa using hj
  simp only [List.getElem_map]
  have e:xs.getD j 0=xs[j]:=by simp [this]
  rw [e];exact .v _
theorem sl_pu {α:Type} {f:α->List AV} {xs:List α} (hz:∀ x,(f x).length=z) {Q:Nat->World->List Value->α->Prop} {F ok:Nat->Prop} (hok:∀ b,lo<=b->b<w.heap.size->ok b)
 (hQ:∀ (x:α) (vs:List Value),Q lo w vs x->∀ j (hj:j<(f x).length),Pu F w ok (f x)[j] (vs.getD j undef)) (h:IsSl z Q lo w v xs):Pu F w ok (slA z f xs) v:=by
 obtain ⟨a,cap,rfl,h1,h2,h3,h4⟩:=h
 rcases h4 with rfl | ⟨b,off,rfl,hb,hw,hc⟩
 ·exact .sl0 h2 h3
 have hz0:∀ j,j<(xs.flatMap f).length->0<z/\j / z<xs.length/\j % z<z:=λj hj=>by
  rw [Zao hz] at hj
  have h0:0<z:=by
   rcases Nat.eq_zero_or_pos z with h | h
   ·subst h;simp at hj
   exact h
  exact ⟨h0,(Nat.div_lt_iff_lt_mul h0).2 hj,Nat.mod_lt _ h0⟩
 have hc':∀ i,i<xs.length->∃ cs:List Value,cs.length=z/\(∀ j,j<z->w.cell? ⟨b,off+i*z+j,none⟩=cs[j]?)/\∃ hi:i<xs.length,Q lo w cs xs[i]:=λi hi=>by
  obtain ⟨cs,q1,q2,q3⟩:=hc i hi
  exact ⟨cs,q1,q2,hi,q3⟩
 obtain ⟨g,hg⟩:=choose_lt hc'
 refine .sl (f:=λj=>(g (j / z)).getD (j % z) undef) (Zao hz xs) h1 h2 (hok _ hb hw) hw (λj hj => ?_) λj hj => ?_
 ·obtain ⟨h0,e1,e2⟩:=hz0 j hj
  obtain ⟨q1,q2,q3,q4⟩:=hg _ e1
  have:=q2 _ e2
  rw [Nat.add_assoc,Nat.div_add_mod'] at this
  rw [this,List.getD_eq_getElem?_getD,List.getElem?_eq_getElem (by omega)]
  rfl
 obtain ⟨h0,e1,e2⟩:=hz0 j hj
 obtain ⟨q1,q2,q3,q4⟩:=hg _ e1
 have e3:j % z<(f xs[j / z]).length:=by rw [hz];exact e2
 have:=Wd hz xs (j / z) (j % z) e1 e2
 rw [Nat.div_add_mod',List.getElem?_eq_getElem hj,List.getElem?_eq_getElem e3] at this
 rw [Option.some.inj this]
 exact hQ _ _ q4 _ e3
end Go.Proofs.YtmpgnibfhjdfpaaGreat
