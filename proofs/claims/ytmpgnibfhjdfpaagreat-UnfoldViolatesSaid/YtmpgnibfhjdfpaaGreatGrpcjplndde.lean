import Derived.Test.YtmpgnibfhjdfpaaGreatProg
import Derived.Test.YtmpgnibfhjdfpaaGreatGrphhmpajpk
set_option linter.all false
namespace Go.Proofs.YtmpgnibfhjdfpaaGreat
open Go.RowKit Go.Deep Tryz
variable {J:World->Prop}
def single (k:Nat) (nm:Nm):Names:=⟨λj=>if j=k then some nm else none,λ_=>False⟩
theorem ZbF (k:Nat) (nm:Nm):single k nm k=some nm:=if_pos rfl
variable {k j:Nat}
theorem ZbG {nm x:Nm} (h:single k nm j=some x):j=k/\x=nm:=by
 dsimp only [single] at h
 split at h
 ·rename_i e;exact ⟨e,(Option.some.inj h).symm⟩
 cases h
def AV.safe1:AV->Bool
 | .v _=>true
 | .own _=>true
 | .fr _=>true
 | .any=>true
 | _=>false
def AV.safe2:AV->Bool
 | .agg cs=>cs.all AV.safe1
 | X=>X.safe1
def AV.safe3:AV->Bool
 | .tup cs=>cs.all AV.safe2
 | X=>X.safe2
def CtrO (P:Program) (J:World->Prop) (f:FuncId) (args:List AV) (k:Nat) (Y:ABlk) (u:AV):Prop :=
 ∀ (w:World) (vs:Array Value),(∀ w',Below w.heap.size w w'->J w')->vs.size=args.length->(∀ j (hj:j<args.length),Pu (λ_=>True) w (λb=>b<w.heap.size) args[j] (vs.getD j undef)) ->
  Calls P f vs w λe w'=>∃ v nm,e = .returned v/\(∀ b c n,nm = .at b c n->w.heap.size<=b/\b<w'.heap.size)/\BlkR (single k nm) w' w.heap.size nm Y/\Rel (single k nm) w.heap.size w' u v/\Below w.heap.size w w'
section
variable {ρ:Names} {B:Nat} {w w':World}
variable {ρ':Names}{B':Nat}{X:AV}{x:Value}
theorem Zee (hp:∀ X x,Pu (B <= ·) w' (okOf ρ) (.fr X) x->Pu (B' <= ·) w' (okOf ρ') (.fr X) x) (hn:∀ j nm,ρ j=some nm->ρ' j=some nm) (hs:X.safe1=true) (h:Rel ρ B w' X x):Rel ρ' B' w' X x:=by
 cases h with
 | pu h =>
   cases h with
   | v _=>exact .pu (.v _)
   | any _=>exact .anyR
   | fr h=>exact .pu (hp _ _ (.fr h))
   | _=>cases hs
 | own h=>exact .own (hn _ _ h)
 | bsl h hx=>exact .bsl (hn _ _ h) hx
 | _=>cases hs
theorem Zed (hp:∀ X x,Pu (B <= ·) w' (okOf ρ) (.fr X) x->Pu (B' <= ·) w' (okOf ρ') (.fr X) x) (hn:∀ j nm,ρ j=some nm->ρ' j=some nm) (hs:X.safe2=true) (h:Rel ρ B w' X x):Rel ρ' B' w' X x:=by
 cases X with
 | agg cs =>
   obtain ⟨vs,rfl,hl,hc⟩:=h.agg_inv
   exact .agg hl λj hj=>Zee hp hn (List.all_eq_true.1 hs _ (List.getElem_mem hj)) (hc j hj)
 | _=>exact Zee hp hn hs h
theorem Zec (hp:∀ X x,Pu (B <= ·) w' (okOf ρ) (.fr X) x->Pu (B' <= ·) w' (okOf ρ') (.fr X) x) (hn:∀ j nm,ρ j=some nm->ρ' j=some nm) (hs:X.safe3=true) (h:Rel ρ B w' X x):Rel ρ' B' w' X x:=by
 cases X with
 | tup cs =>
   obtain ⟨vs,rfl,hl,hc⟩:=h.tup_inv
   exact .tup hl λj hj=>Zed hp hn (List.all_eq_true.1 hs _ (List.getElem_mem hj)) (hc j hj)
 | _=>exact Zed hp hn hs h
variable {e z n:Nat}{v:Value}
theorem Zej {xs:List Value} (h:w.ownsRow B e z v n xs) (hb:B'<=B):w.ownsRow B' e z v n xs:=by
 obtain ⟨h1,h2⟩:=h
 refine ⟨h1,?_⟩
 rcases h2 with h2 | ⟨g,cap,cur,rfl,h3,h4⟩
 ·exact .inl h2
 exact .inr ⟨g,cap,cur,rfl,Nat.le_trans hb h3,h4⟩
end
section
variable {P:Program} {o:Oper}
variable {c:Operand}{f:FuncId}{Xs Ys cs:List AV}{u:AV}{e z n:Nat}
theorem Zbm {xs:Array Operand} {ats:Array TypeId} (rd:List (Nat × ABlk)) (hC:CtrO P J f Ys k (.row true e z n cs) u) (ho:o.op = .call { callee := .value c,args:=xs,argTypes:=ats })
 (hf : (P.funcs[f]?).map (λfn => (fn.name == "runtime.NumGoroutine") || fn.body.isNone) = some false) (hl : xs.size = Xs.length) (hv : Xs.map (AV.view rd) = Ys) (hfl : Xs.all AV.flat2 = true) (hs : u.safe3 = true) :
 ASpec P J o ((c,.v (.func (.func f) #[] #[]))::xs.toList.zip Xs) rd u (.new k (.row true e z n cs)):=by
 subst hv
 intro ρ B a w K Q hwf hB hJ ha hr hnew hk
 refine KK ho (ha (c,.v (.func (.func f) #[] #[])) (by simp)).v_inv hf ?_
 rw [Array.append_empty]
 refine (hC w (xs.map a.eval) (λw' h=>hJ w' (Y8 h)) (by simpa using hl) λj hj => ?_).mono λe' w' ⟨v,nm,he,hnm,hblk,hrel,hb⟩=>⟨v,he,hk (upd ρ k nm) w' v ?_⟩
 ·have hj1:j<Xs.length:=by simpa using hj
  have hj2:j<xs.size:=by omega
  rw [List.getElem_map]
  have hm:(xs[j],Xs[j])∈(c,AV.v (.func (.func f) #[] #[]))::xs.toList.zip Xs:=by
   refine List.mem_cons_of_mem _ ?_
   rw [List.mem_iff_getElem]
   exact ⟨j,by simp;omega,by simp⟩
  have:=(ha _ hm).view hwf hr (List.all_eq_true.1 hfl _ (List.getElem_mem hj1))
  simpa [Array.getD,hj2] using this
 have hok:∀ b,okOf (single k nm) b->w.heap.size<=b->okOf (upd ρ k nm) b:=λb hb1 hb2 j c' n' hj=>by
  by_cases e1:j=k
  ·subst e1
   rw [Yc] at hj
   exact hb1 j c' n' (by rw [ZbF];exact hj)
  rw [Ya e1] at hj
  have:=(hwf.lo _ _ _ _ hj).2
  omega
 have hn:∀ j x,single k nm j=some x->upd ρ k nm j=some x:=λj x hj=>by
  obtain ⟨rfl,rfl⟩:=ZbG hj
  exact Yc _ _ _
 refine ⟨rfl,hb.os,hb.tape,hb.output,hb.size,λb hb' _=>hb.block b hb',λj hj _=>Ya λe1=>hj (by rw [e1];rfl),(λ_ _ h=>by cases h),λk' X he' => ?_,Zec (λX x h => ?_) hn hs hrel,λ_ _ h=>nomatch h⟩
 ·cases he'
  refine ⟨nm,Yc _ _ _,λb c' n' e1=>⟨(hnm b c' n' e1).2,.inl (Nat.le_trans hB (hnm b c' n' e1).1),.inl (hnm b c' n' e1).1⟩,?_⟩
  obtain ⟨ys,h1,h2,h3⟩:=hblk
  exact ⟨ys,Zej h1 (show rowB true B<=rowB true w.heap.size from hB),h2,λj hj=>(h3 j hj).mono (λb hb1 hw=>⟨⟨hok b hb1.1 (hb1.2 rfl).1,λ_=>⟨Nat.le_trans hB (hb1.2 rfl).1,(hb1.2 rfl).2⟩⟩,hw,rfl⟩) λb _ h=>Nat.le_trans hB h⟩
 cases h with
 | fr h=>exact .fr (h.mono (λb hb1 hw=>⟨⟨hok b hb1.1 hb1.2.1,Nat.le_trans hB hb1.2.1,hb1.2.2⟩,hw,rfl⟩) λb _ h=>Nat.le_trans hB h)
end
def AV.ren1 (k0 k:Nat):AV->AV
 | .v x => .v x
 | .fr X => .fr X
 | .own j=>if j=k0 then .own k else .any
 | _ => .any
def AV.ren2 (k0 k:Nat):AV->AV
 | .agg cs => .agg (cs.map (AV.ren1 k0 k))
 | X=>X.ren1 k0 k
def AV.ren3 (k0 k:Nat):AV->AV
 | .tup cs => .tup (cs.map (AV.ren2 k0 k))
 | X=>X.ren2 k0 k
section
variable {w0:Wb} {ρ:Names} {h:AHeap} {t:ATm} {a:Act} {w:World} {k0 k:Nat} {nm:Nm}
variable {X:AV}{x:Value}
theorem rel_ren1 (hk:ρ k0=some nm) (hr:Rel ρ w0.heap.size w X x):Rel (single k nm) w0.heap.size w (X.ren1 k0 k) x:=by
 cases hr with
 | pu hr =>
   cases hr with
   | v x=>exact .pu (.v x)
   | fr hr =>
     exact .pu (.fr (hr.weak λb hb=>⟨λj c n hj=>by
      obtain ⟨rfl,e⟩:=ZbG hj
      exact hb.1 k0 c n (by rw [hk,<- e]),hb.2⟩))
   | _=>exact .anyR
 | own hj =>
   rename_i j nm'
   simp only [AV.ren1]
   split
   ·rename_i e
    subst e
    rw [hk] at hj;cases hj
    exact .own (ZbF _ _)
   exact .anyR
 | _=>exact .anyR
theorem rel_ren2 (hk:ρ k0=some nm) (hr:Rel ρ w0.heap.size w X x):Rel (single k nm) w0.heap.size w (X.ren2 k0 k) x:=by
 cases X with
 | agg cs =>
   obtain ⟨vs,rfl,hl,hc⟩:=hr.agg_inv
   exact .agg (by simpa using hl) λj hj=>by rw [List.getElem_map];exact rel_ren1 hk (hc j (by simpa using hj))
 | _=>exact rel_ren1 hk hr
theorem rel_ren3 (hk:ρ k0=some nm) (hr:Rel ρ w0.heap.size w X x):Rel (single k nm) w0.heap.size w (X.ren3 k0 k) x:=by
 cases X with
 | tup cs =>
   obtain ⟨vs,rfl,hl,hc⟩:=hr.tup_inv
   exact .tup (by simpa using hl) λj hj=>by rw [List.getElem_map];exact rel_ren2 hk (hc j (by simpa using hj))
 | _=>exact rel_ren2 hk hr
end
def RetO (w0:Wb) (k:Nat) (Y:ABlk) (u:AV) (e:Ending) (w':World):Prop :=
 ∃ v nm,e = .returned v/\(∀ b c n,nm = .at b c n->w0.heap.size<=b/\b<w'.heap.size)/\BlkR (single k nm) w' w0.heap.size nm Y/\Rel (single k nm) w0.heap.size w' u v/\Bel w0 w'
section
variable {P:Program} {w0:Wb} {h:AHeap} {t:ATm}
variable {ρ:Names}{a:Act}{w:World}{cs:List AV}{X u:AV}{x:Value}
theorem Sat.give (s:Sat J w0 ρ h t a w) {k0 k e z n:Nat} (hk:h k0=some (.row true e z n cs)) (hr:Rel ρ w0.heap.size w X x) (hu:X.ren3 k0 k=u):RetO w0 k (.row true e z n cs) u (.returned x) w:=by
 subst hu
 obtain ⟨nm,h1,hb0⟩:=s.hp _ _ hk
 obtain ⟨ys,h2,h3,h4⟩:=hb0
 refine ⟨x,nm,rfl,λb c n' e=>by exact ⟨(show BlkR ρ w w0.heap.size nm (.row true _ z n cs) from ⟨ys,h2,h3,h4⟩).lowR e,by subst e;exact (s.wf.lo _ _ _ _ h1).2⟩,⟨ys,h2,h3,λj hj=>(h4 j hj).weak λb hb=>⟨λj c n hj => ?_,hb.2⟩⟩,rel_ren3 h1 hr,s.bel⟩
 obtain ⟨rfl,e⟩:=ZbG hj
 exact hb.1 k0 c n (by rw [h1,<- e])
variable {e z n:Nat}
theorem tri_give1 {fn:Func} {r:ResultVar} (k0:Nat) (hr:fn.results = #[r]) (h1:ResV P h t r X) (hk:h k0=some (.row true e z n cs)) (hu:X.ren3 k0 k=u):ETri J w0 h t (bodyPost P fn (RetO w0 k (.row true e z n cs) u) .ret):=fun ρ a w s=>by
 obtain ⟨v,g1,g2⟩:=KO s h1
 refine ⟨s.df,v,?_,s.give hk g2 hu⟩
 unfold results
 rw [hr,Sem.run_bind,Zbq (v:=v) (by cases r<;>exact g1)]
 rfl
variable {f:FuncId}{args:List AV}
theorem Zfu {fn:Func} {c:Code} {Y:ABlk} (hf:P.funcs[f]? = some fn) (hb:fn.body=some c) (hpl:∀ X∈args,Plain X) (hnt:fn.ntmps=n) (hna:args.length<=n)
 (H:∀ w0,ETri J w0 (ofL []) (ofT n ((List.range args.length).zip args)) (c.wp P (bodyPost P fn (RetO w0 k Y u)))):CtrO P J f args k Y u:=λw vs hJ hl hv=>by
 refine (calls_of_wp hf hb (H ⟨w,λ_=>False,λ_=>none⟩ ⟨λ_=>none,λ_=>False⟩ _ w ⟨⟨(λ_ _ _ _ _ _ _ h=>by cases h),(λ_ _ _ _ h=>by cases h)⟩,rfl,Bel.refl _,(λw' h=>hJ w' (h.below λ_ h=>h)),(λ_ _ h=>by cases h),λ_ _ _=>rfl,λ_ _=>rfl,by simp [hl,hnt,ofT];omega,λi hi => ?_,rfl,λ_ _=>rfl⟩)).mono λe w' ⟨v,nm,q1,q2,q3,q4,q5⟩=>⟨v,nm,q1,q2,q3,q4,q5.below λ_ h=>h⟩
 simp only [ofT]
 cases hf:((List.range args.length).zip args).find? λp=>p.1==i with
 | none=>exact .anyR
 | some p =>
   have hm:=List.mem_of_find?_eq_some hf
   have hk':p.1=i:=by have:=List.find?_some hf;simpa using this
   obtain ⟨j,hj,e⟩:=List.getElem_of_mem hm
   simp only [List.getElem_zip,List.getElem_range] at e
   subst e
   dsimp only at hk'
   subst hk'
   have hj1:j<args.length:=by simp at hj;omega
   simp only [Option.map_some,Option.getD_some]
   have:=(hv j hj1).plain (F':=(w.heap.size <= ·)) (hpl _ (List.getElem_mem hj1))
   have hj2:j<vs.size:=by omega
   have e:(vs++Array.replicate (fn.ntmps-vs.size) undef).getD j undef=vs.getD j undef:=by simp [Array.getD,hj2,Array.getElem_append_left hj2];omega
   rw [e]
   exact .pu (this.weak λb _ k c n hk=>by cases hk)
end
def lent (k:Nat) (nm:Nm):Names:=⟨λj=>if j=k then some nm else none,λb=>∃ c n,nm = .at b c n⟩
theorem K9 (k:Nat) (nm:Nm):lent k nm k=some nm:=if_pos rfl
theorem Wt {nm x:Nm} (h:lent k nm j=some x):j=k/\x=nm:=by
 dsimp only [lent] at h
 split at h
 ·rename_i e;exact ⟨e,(Option.some.inj h).symm⟩
 cases h
def CtrW (P:Program) (J:World->Prop) (f:FuncId) (args:List AV) (k:Nat) (Y Y':ABlk) (u:AV):Prop :=
 ∀ (w:World) (vs:Array Value) (nm:Nm),(∀ w',Beyond (lent k nm) w w'->J w')->vs.size=args.length->(∀ b c n,nm = .at b c n->b<w.heap.size)->BlkR (lent k nm) w w.heap.size nm Y ->
  (∀ j (hj:j<args.length),Rel (lent k nm) w.heap.size w args[j] (vs.getD j undef)) ->
  Calls P f vs w λe w'=>∃ v,e = .returned v/\Beyond (lent k nm) w w'/\BlkR (lent k nm) w' w.heap.size nm Y'/\Rel (lent k nm) w.heap.size w' u v
def RetW (w0:Wb) (k:Nat) (Y':ABlk) (u:AV) (e:Ending) (w':World):Prop :=
 ∃ v ρ nm,e = .returned v/\(∀ j,j<hand->Names.f ρ j=none)/\(∀ j,hand<=j->Names.f ρ j=w0.N j)/\ρ.H=w0.H/\ρ k=some nm/\BlkR ρ w' w0.heap.size nm Y'/\Rel ρ w0.heap.size w' u v/\Bel w0 w'
section
variable {P:Program} {w0:Wb} {h:AHeap} {t:ATm} {k:Nat} {Y':ABlk}
variable {ρ:Names}{a:Act}{w:World}{X u:AV}{x:Value}
theorem Sat.back (s:Sat J w0 ρ h t a w) (hk:hand<=k) (hY:(h k).map (ABlk.wk (keepL []) h)=some Y') (hr:Rel ρ w0.heap.size w X x) (hu:X.wk3 (keepL []) h=u):RetW w0 k Y' u (.returned x) w:=by
 subst hu
 obtain ⟨Y,hY0,rfl⟩:=Option.map_eq_some_iff.1 hY
 obtain ⟨nm,h1,h2⟩:=s.hp k Y hY0
 have hkb:keepL [] k=true:=by unfold keepL;rw [Bool.or_eq_true];exact .inr (Nat.ble_eq ▸ hk)
 refine ⟨x,kept (keepL []) ρ,nm,rfl,λj hj=>Zfm ?_,λj hj=>(KU (by unfold keepL;rw [Bool.or_eq_true];exact .inr (Nat.ble_eq ▸ hj))).trans (s.pin j hj),s.hH,(KU hkb).trans h1,?_,Zfd s.wf s.hp hr,s.bel⟩
 ·unfold keepL
  simp only [List.any_nil,Bool.false_or]
  cases e:Nat.ble hand j with
  | false=>rfl
  | true=>have:=Nat.le_of_ble_eq_true e;omega
 cases Y with
 | box T cs =>
   obtain ⟨b,c,n,vs,rfl,q1,q2,q3⟩:=h2
   exact ⟨b,c,n,vs,rfl,q1,by simpa using q2,λj hj=>by rw [List.getElem_map];exact Kd s.wf s.hp (q3 j (by simpa using hj))⟩
 | row fr e z n cs =>
   obtain ⟨xs,q1,q2,q3⟩:=h2
   refine ⟨xs,q1,q2,λj hj=>(q3 j hj).weak λb hb=>⟨λk c n hk => ?_,hb.2⟩⟩
   dsimp only [kept] at hk
   split at hk
   ·exact hb.1 _ _ _ hk
   cases hk
theorem Zat {fn:Func} (hr:fn.results = #[]) (hk:hand<=k) (hY:(h k).map (ABlk.wk (keepL []) h)=some Y'):ETri J w0 h t (bodyPost P fn (RetW w0 k Y' (.v (.tuple #[]))) .ret):=fun ρ a w s=>by
 refine ⟨s.df,.tuple #[],?_,s.back hk hY (.pu (.v _)) rfl⟩
 unfold results
 rw [hr]
 simp
theorem KB {fn:Func} (H:ETri J w0 h t (bodyPost P fn (RetW w0 k Y' u) .ret)):ETri J w0 h t (bodyPost P fn (RetW w0 k Y' u) .normal):=H
variable {f:FuncId}{args:List AV}{n:Nat}
theorem Zft {fn:Func} {c:Code} {Y:ABlk} (hk:hand<=k) (hf:P.funcs[f]? = some fn) (hb:fn.body=some c) (hnt:fn.ntmps=n) (hna:args.length<=n)
 (H:∀ w0,ETri J w0 (ofL [(k,Y)]) (ofT n ((List.range args.length).zip args)) (c.wp P (bodyPost P fn (RetW w0 k Y' u)))) (hkf:k<far:=by decide):CtrW P J f args k Y Y' u:=λw vs nm hJ hl hnm hY hv=>by
 have hlo:∀ j b c m,lent k nm j=some (.at b c m)->(w.heap.size<=b\/(lent k nm).H b\/far<=j)/\b<w.heap.size:=λj b c m hj=>by
  obtain ⟨_,e⟩:=Wt hj
  exact ⟨.inr (.inl ⟨c,m,e.symm⟩),hnm _ _ _ e.symm⟩
 refine (calls_of_wp hf hb (H ⟨w,(lent k nm).H,lent k nm⟩ (lent k nm) _ w ⟨⟨λj j' b c d m m' h1 h2 => ?_,hlo⟩,rfl,Bel.refl _,(λw' h=>hJ w' ⟨h.os,h.tape,h.output,h.size,λb hb hok=>h.block b hb λ⟨c,m,e⟩=>hok k c m hkf (by rw [K9,e])⟩),λj X hj => ?_,λj hj _ => ?_,λ_ _=>rfl,by simp [hl,hnt,ofT];omega,λi hi => ?_,rfl,λj hj => ?_⟩)).mono λe w' ⟨v,ρ,nm',q1,q2,q3,q4,q5,q6,q7,q8⟩ => ?_
 ·exact (Wt h1).1.trans (Wt h2).1.symm
 ·simp only [ofL,List.find?_cons,List.find?_nil] at hj
  by_cases e:k=j
  ·subst e
   simp only [beq_self_eq_true,Option.map_some,Option.some.injEq] at hj
   subst hj
   exact ⟨nm,K9 _ _,hY⟩
  rw [show (k==j)=false by simpa using e] at hj
  cases hj
 ·exact if_neg (by omega)
 ·simp only [ofT]
  cases hf:((List.range args.length).zip args).find? λp=>p.1==i with
  | none=>exact .anyR
  | some p =>
    have hm:=List.mem_of_find?_eq_some hf
    have hk':p.1=i:=by have:=List.find?_some hf;simpa using this
    obtain ⟨j,hj,e⟩:=List.getElem_of_mem hm
    simp only [List.getElem_zip,List.getElem_range] at e
    subst e
    dsimp only at hk'
    subst hk'
    have hj1:j<args.length:=by simp at hj;omega
    simp only [Option.map_some,Option.getD_some]
    have hj2:j<vs.size:=by omega
    have e:(vs++Array.replicate (fn.ntmps-vs.size) undef).getD j undef=vs.getD j undef:=by simp [Array.getD,hj2,Array.getElem_append_left hj2];omega
    rw [e]
    exact hv j hj1
 ·simp only [ofL,List.find?_cons,List.find?_nil]
  rw [show (k==j)=false by simpa using (show k≠j by omega)];rfl
 have hρ:ρ=lent k nm:=by
  obtain ⟨f,H⟩:=ρ
  have e1:f=(lent k nm).f:=by
   funext j
   by_cases hj:j<hand
   ·exact (q2 j hj).trans (if_neg (by omega)).symm
   exact q3 j (by omega)
  have e2:H=(lent k nm).H:=q4
  rw [e1,e2]
 subst hρ
 rw [K9] at q5
 cases q5
 refine ⟨v,q1,⟨q8.os,q8.tape,q8.output,q8.size,λb hb hok=>q8.block b hb λ⟨c,m,e⟩=>hok k c m hkf (by rw [K9,e])⟩,q6,q7⟩
end
variable {ρ:Names}{B:Nat}{w:World}{X:AV}{x:Value}
theorem Rel.viewG {rd:List (Nat × ABlk)} {ok:Nat->Prop} (ho:∀ b,okOf ρ b->b<w.heap.size->ok b) (hr:∀ p∈rd,∃ nm,ρ p.1=some nm/\BlkR ρ w B nm p.2) (hn:∀ p∈rd,∀ b c n,ρ p.1=some (.at b c n)->ok b) (h:Rel ρ B w X x) (hf:X.flat1=true):Pu (λ_=>True) w ok (X.view1 rd) x:=by
 cases h with
 | pu h =>
   have lift:∀ {X:AV} {x:Value} {ok':Nat->Prop},(∀ b,ok' b->okOf ρ b)->Pu (B <= ·) w ok' X x->Pu (λ_=>True) w ok X x:=λhs h=>h.mono (λb hb hw=>⟨ho b (hs b hb) hw,hw,rfl⟩) λ_ _ _=>trivial
   cases h with
   | fr h=>exact lift (λ_ h=>h.1) h
   | old h=>exact lift (λ_ h=>h.1) h
   | any x=>exact .any x
   | v x=>exact .v x
   | agg hl h=>exact lift (λ_ h=>h) (Pu.agg hl h)
   | tup hl h=>exact lift (λ_ h=>h) (Pu.tup hl h)
   | clo hl h=>exact lift (λ_ h=>h) (Pu.clo hl h)
   | sl0 h2 hz=>exact .sl0 h2 hz
   | sl hc h1 h2 hb hw hq h=>exact lift (λ_ h=>h) (Pu.sl hc h1 h2 hb hw hq h)
   | el hb hw hq h=>exact lift (λ_ h=>h) (Pu.el hb hw hq h)
 | box h=>exact .any _
 | own h =>
   rename_i k nm
   simp only [AV.view1]
   split
   ·rename_i q fr e z n cs hq
    have hmem:=List.mem_of_find?_eq_some hq
    obtain ⟨nm',h1,h2⟩:=hr _ hmem
    have hqk:q=k:=by have:=List.find?_some hq;simpa using this
    have hn':=hn _ hmem
    rw [hqk,h] at h1
    cases h1
    refine Zb1 h2 (λb c m e=>hn' b c m (by rw [hqk,h,e])) (λb hb hw=>ho b hb.1 hw) λ_ _ _=>trivial
   exact .any _
 | bsl h=>exact .any _
 | agg hl h=>cases hf
 | tup hl h=>cases hf
 | clo hl h=>cases hf
def AV.viewW1 (k kc:Nat) (rd:List (Nat × ABlk)):AV->AV
 | .box j o=>if j=k then .box kc o else .any
 | .own j=>if j=k then .own kc else AV.view1 rd (.own j)
 | X=>X.view1 rd
def AV.viewW (k kc:Nat) (rd:List (Nat × ABlk)):AV->AV
 | .agg cs => .agg (cs.map (AV.viewW1 k kc rd))
 | X=>X.viewW1 k kc rd
def AV.renW1 (kc k:Nat):AV->AV
 | .box j o=>if j=kc then .box k o else .any
 | .own j=>if j=kc then .own k else .any
 | .v x => .v x
 | .fr X => .fr X
 | _ => .any
def AV.renW2 (kc k:Nat):AV->AV
 | .agg cs => .agg (cs.map (AV.renW1 kc k))
 | X=>X.renW1 kc k
def AV.renW3 (kc k:Nat):AV->AV
 | .tup cs => .tup (cs.map (AV.renW2 kc k))
 | X=>X.renW2 kc k
section
variable {ρ:Names} {B B':Nat} {w':World} {k kc:Nat} {nm:Nm}
theorem Zeg (hp:∀ X x,Pu (B <= ·) w' (okOf (lent kc nm)) (.fr X) x->Pu (B' <= ·) w' (okOf ρ) (.fr X) x) (hk:ρ k=some nm) (h:Rel (lent kc nm) B w' X x):Rel ρ B' w' (X.renW1 kc k) x:=by
 cases h with
 | pu h =>
   cases h with
   | v _=>exact .pu (.v _)
   | fr h=>exact .pu (hp _ _ (.fr h))
   | _=>exact .anyR
 | box h =>
   obtain ⟨rfl,e⟩:=Wt h
   simp only [AV.renW1,if_true]
   exact .box (by rw [hk,e])
 | own h =>
   obtain ⟨rfl,e⟩:=Wt h
   simp only [AV.renW1,if_true]
   rw [e]
   exact .own hk
 | _=>exact .anyR
theorem Zef (hp:∀ X x,Pu (B <= ·) w' (okOf (lent kc nm)) (.fr X) x->Pu (B' <= ·) w' (okOf ρ) (.fr X) x) (hk:ρ k=some nm) (h:Rel (lent kc nm) B w' X x):Rel ρ B' w' (X.renW2 kc k) x:=by
 cases X with
 | agg cs =>
   obtain ⟨vs,rfl,hl,hc⟩:=h.agg_inv
   exact .agg (by simpa using hl) λj hj=>by rw [List.getElem_map];exact Zeg hp hk (hc j (by simpa using hj))
 | _=>exact Zeg hp hk h
theorem rel_renW3 (hp:∀ X x,Pu (B <= ·) w' (okOf (lent kc nm)) (.fr X) x->Pu (B' <= ·) w' (okOf ρ) (.fr X) x) (hk:ρ k=some nm) (h:Rel (lent kc nm) B w' X x):Rel ρ B' w' (X.renW3 kc k) x:=by
 cases X with
 | tup cs =>
   obtain ⟨vs,rfl,hl,hc⟩:=h.tup_inv
   exact .tup (by simpa using hl) λj hj=>by rw [List.getElem_map];exact Zef hp hk (hc j (by simpa using hj))
 | _=>exact Zef hp hk h
end
def AV.safeN1:AV->Bool
 | .v _=>true
 | .fr _=>true
 | .any=>true
 | _=>false
section
variable {ρ ρ':Names} {B B':Nat} {w':World}
theorem rel_safeN1 (hp:∀ X x,Pu (B <= ·) w' (okOf ρ) (.fr X) x->Pu (B' <= ·) w' (okOf ρ') (.fr X) x) (hs:X.safeN1=true) (h:Rel ρ B w' X x):Rel ρ' B' w' X x:=by
 cases h with
 | pu h =>
   cases h with
   | v _=>exact .pu (.v _)
   | any _=>exact .anyR
   | fr h=>exact .pu (hp _ _ (.fr h))
   | _=>cases hs
 | _=>cases hs
end
def AV.flatW:AV->Bool
 | .agg cs=>cs.all AV.flat1
 | .tup _=>false
 | .clo _ _=>false
 | _=>true
inductive PlainW:AV->Prop
 | pl {X:AV} (h:Plain X):PlainW X
 | box (k o:Nat):PlainW (.box k o)
 | own (k:Nat):PlainW (.own k)
 | agg {cs:List AV} (h:∀ j (hj:j<cs.length),PlainW cs[j]):PlainW (.agg cs)
theorem PlainW.pu {F F' ok:Nat->Prop} {Z:AV} (hp:PlainW Z):∀ {x:Value},Pu F w ok Z x->Pu F' w ok Z x:=by
 induction hp with
 | pl h=>exact λhx=>hx.plain h
 | box k o=>intro x hx;cases hx
 | own k=>intro x hx;cases hx
 | agg h ih=>intro x hx;cases hx with | agg hl hc=>exact .agg hl λj hj=>ih j hj (hc j hj)
section
variable {ρ:Names} {B:Nat} {w:World} {rd:List (Nat × ABlk)} {k kc:Nat} {nm:Nm}
theorem okN_lent {ρ:Names} {k kc b:Nat} {nm:Nm} (hk1:ρ k=some nm) (hf:Nat.blt k far=true) (h:okN ρ b):okN (lent kc nm) b:=λj c n _ hj=>by
 obtain ⟨_,e⟩:=Wt hj
 exact h k c n (by rw [Nat.blt_eq] at hf;exact hf) (by rw [hk1,e])
theorem lent_ok (hwf:WF ρ B w) (hk:ρ k=some nm) (hnk:∀ p∈rd,p.1≠k):(∀ b,okOf ρ b->b<w.heap.size->b<w.heap.size/\okOf (lent kc nm) b)/\∀ p∈rd,∀ b c n,ρ p.1=some (.at b c n)->b<w.heap.size/\okOf (lent kc nm) b:=by
 refine ⟨λb hb hw=>⟨hw,λj c n hj => ?_⟩,λp hp b c n h=>⟨(hwf.lo _ _ _ _ h).2,λj c' n' hj => ?_⟩⟩
 ·obtain ⟨_,e⟩:=Wt hj
  exact hb k c n (by rw [hk,e])
 obtain ⟨_,e⟩:=Wt hj
 rw [<- e] at hk
 exact hnk p hp (hwf.inj _ _ _ _ _ _ _ h hk)
theorem YW (hwf:WF ρ B w) (hk:ρ k=some nm) (hnk:∀ p∈rd,p.1≠k) (hr:∀ p∈rd,∃ nm,ρ p.1=some nm/\BlkR ρ w B nm p.2) (h:Rel ρ B w X x) (hf:X.flat1=true) (hp:PlainW (X.viewW1 k kc rd)):Rel (lent kc nm) w.heap.size w (X.viewW1 k kc rd) x:=by
 obtain ⟨o1,o2⟩:=lent_ok (kc:=kc) hwf hk hnk
 have one:∀ {X:AV} {x:Value},Rel ρ B w X x->X.flat1=true->PlainW (X.view1 rd)->Rel (lent kc nm) w.heap.size w (X.view1 rd) x:=fun {X x} h hf hp=>by
  exact .pu ((hp.pu (h.viewG o1 hr o2 hf)).weak λ_ h=>h.2)
 cases X with
 | box j o =>
   simp only [AV.viewW1]
   split
   ·rename_i e
    subst e
    obtain ⟨b,c,n,h1,rfl⟩:=h.box_inv
    rw [hk] at h1
    cases h1
    exact .box (K9 _ _)
   exact .anyR
 | own j =>
   simp only [AV.viewW1] at hp ⊢
   split
   ·rename_i e
    subst e
    obtain ⟨nm',h1,rfl⟩:=h.own_inv
    rw [hk] at h1
    cases h1
    exact .own (K9 _ _)
   rename_i e
   rw [if_neg e] at hp
   exact one h rfl hp
 | agg cs=>cases hf
 | tup cs=>cases hf
 | clo f cs=>cases hf
 | v y=>exact one h rfl hp
 | any=>exact .anyR
 | sl z n cs=>exact one h rfl hp
 | el cs o=>exact one h rfl hp
 | fr X=>exact one h rfl hp
 | old n X=>exact one h rfl hp
 | bsl k o m=>exact one h rfl hp
theorem rel_viewW (hwf:WF ρ B w) (hk:ρ k=some nm) (hnk:∀ p∈rd,p.1≠k) (hr:∀ p∈rd,∃ nm,ρ p.1=some nm/\BlkR ρ w B nm p.2) (h:Rel ρ B w X x) (hf:X.flatW=true) (hp:PlainW (X.viewW k kc rd)):Rel (lent kc nm) w.heap.size w (X.viewW k kc rd) x:=by
 cases X with
 | agg cs =>
   obtain ⟨vs,rfl,hl,hc⟩:=h.agg_inv
   simp only [AV.viewW] at hp ⊢
   have hpl:∀ j (hj:j<(cs.map (AV.viewW1 k kc rd)).length),PlainW (cs.map (AV.viewW1 k kc rd))[j]:=by
    cases hp with
    | pl h=>cases h with | agg h=>exact λj hj => .pl (h j hj)
    | agg h=>exact h
   exact .agg (by simpa using hl) λj hj=>by
    have hj':j<cs.length:=by simpa using hj
    have h2:=hpl j hj
    rw [List.getElem_map] at h2 ⊢
    exact YW hwf hk hnk hr (hc j hj') (List.all_eq_true.1 hf _ (List.getElem_mem hj')) h2
 | tup cs=>cases hf
 | clo f cs=>cases hf
 | v y=>exact YW hwf hk hnk hr h rfl hp
 | any=>exact .anyR
 | box j o=>exact YW hwf hk hnk hr h rfl hp
 | own j=>exact YW hwf hk hnk hr h rfl hp
 | sl z n cs=>exact YW hwf hk hnk hr h rfl hp
 | el cs o=>exact YW hwf hk hnk hr h rfl hp
 | fr X=>exact YW hwf hk hnk hr h rfl hp
 | old n X=>exact YW hwf hk hnk hr h rfl hp
 | bsl k o m=>exact YW hwf hk hnk hr h rfl hp
end
def maskC (m:List Bool) (xs:Nat->Value) (cs:List AV):List AV:=cs.zipIdx.map λp=>if m.getD p.2 false then .v (xs p.2) else p.1
theorem ZaD (m:List Bool) (xs:Nat->Value) (cs:List AV):(maskC m xs cs).length=cs.length:=by simp [maskC]
theorem Zem (m:List Bool) (xs:Nat->Value) (cs:List AV) (j:Nat) (hj:j<(maskC m xs cs).length) (hj':j<cs.length):(maskC m xs cs)[j]=if m.getD j false then .v (xs j) else cs[j]:=by
 simp [maskC]
section
variable {P:Program} {o:Oper}
variable {c:Operand}{f:FuncId}{Xs Ys:List AV}{u:AV}{T:TypeId}
theorem sp_callWB {xs:Array Operand} {ats:Array TypeId} {cs c0 ds:List AV} (kc:Nat) (m:List Bool) (rd:List (Nat × ABlk)) (hC:∀ xs',CtrW P J f Ys kc (.box T (maskC m xs' c0)) (.box T (maskC m xs' ds)) u)
 (ho : o.op = .call { callee := .value c, args := xs, argTypes := ats }) (hf : (P.funcs[f]?).map (λfn => (fn.name == "runtime.NumGoroutine") || fn.body.isNone) = some false) (hl : xs.size = Xs.length) (hv : Xs.map (AV.viewW k kc rd) = Ys) (hfl : Xs.all AV.flatW = true) (hpl : ∀ X ∈ Ys, PlainW X) (hnk : rd.all (λp => !(p.1 == k)) = true)
 (h0:cs.map (AV.view1 rd)=c0) (h0f:cs.all AV.flat1=true) (h0p:∀ xs',∀ X∈maskC m xs' c0,Plain X) (hd2:(cs.zipIdx.map λp=>if m.getD p.2 false then some p.1 else none)=(ds.zipIdx.map λp=>if m.getD p.2 false then some p.1 else none)) (hd3:(ds.zipIdx.all λp=>m.getD p.2 false||p.1.safeN1)=true) {U:AV} (hu:u.renW3 kc k=U) (hkf:Nat.blt k far=true:=by rfl) :
 ASpec P J o ((c,.v (.func (.func f) #[] #[]))::xs.toList.zip Xs) ((k,.box T cs)::rd) U (.st k (.box T ds)):=by
 subst hv h0 hu
 intro ρ B a w K Q hwf hB hJ ha hr _ hk
 obtain ⟨nm,hk1,b,c',n',vs,rfl,g2,g3,g4⟩:=hr (k,.box T cs) (by simp)
 have hrd:∀ p∈rd,∃ nm,ρ p.1=some nm/\BlkR ρ w B nm p.2:=λp hp=>hr p (List.mem_cons_of_mem _ hp)
 have hnk':∀ p∈rd,p.1≠k:=λp hp=>by simpa using List.all_eq_true.1 hnk p hp
 obtain ⟨o1,o2⟩:=lent_ok (kc:=kc) hwf hk1 hnk'
 have hlo:=hwf.lo _ _ _ _ hk1
 have hlen:cs.length=ds.length:=by have:=congrArg List.length hd2;simpa using this
 refine KK ho (ha (c,.v (.func (.func f) #[] #[])) (by simp)).v_inv hf ?_
 rw [Array.append_empty]
 refine (hC (λj=>vs.getD j undef) w (xs.map a.eval) (.at b c' n') (λw' hb=>hJ w' ⟨hb.os,hb.tape,hb.output,hb.size,λb' h1 h2=>hb.keep b' h1 (okN_lent hk1 hkf h2)⟩) (by simpa using hl) (λb' c n e=>by cases e;exact hlo.2)
  ⟨b,c',n',vs,rfl,g2,by rw [ZaD];simpa using g3,λj hj => ?_⟩ λj hj => ?_).mono λe w' ⟨v,he,hb,hY,hrel⟩=>⟨v,he,hk ρ w' v ?_⟩
 ·have hj':j<(cs.map (AV.view1 rd)).length:=by rw [ZaD] at hj;exact hj
  have hpj:=h0p (λj=>vs.getD j undef) _ (List.getElem_mem hj)
  rw [Zem _ _ _ _ hj hj'] at hpj ⊢
  split
  ·exact .pu (.v _)
  rename_i hm
  rw [if_neg hm] at hpj
  rw [List.getElem_map] at hpj ⊢
  have hjc:j<cs.length:=by simpa using hj'
  exact .pu ((((g4 j hjc).viewG o1 hrd o2 (List.all_eq_true.1 h0f _ (List.getElem_mem hjc))).plain hpj).weak λ_ h=>h.2)
 ·have hj1:j<Xs.length:=by simpa using hj
  have hj2:j<xs.size:=by omega
  have hpj:=hpl _ (List.getElem_mem hj)
  rw [List.getElem_map] at hpj ⊢
  have hm:(xs[j],Xs[j])∈(c,AV.v (.func (.func f) #[] #[]))::xs.toList.zip Xs:=by
   refine List.mem_cons_of_mem _ ?_
   rw [List.mem_iff_getElem]
   exact ⟨j,by simp;omega,by simp⟩
  have:=rel_viewW (kc:=kc) hwf hk1 hnk' hrd (ha _ hm) (List.all_eq_true.1 hfl _ (List.getElem_mem hj1)) hpj
  simpa [Array.getD,hj2] using this
 have hnew:∀ X x,Pu (w.heap.size <= ·) w' (okOf (lent kc (.at b c' n'))) (.fr X) x->Pu (B <= ·) w' (okOf ρ) (.fr X) x:=λX x h=>by
  cases h with
  | fr h=>exact .fr (h.mono (λb' hb1 hw=>⟨⟨λj c n hj=>by have:=(hwf.lo _ _ _ _ hj).2;have:=hb1.2.1;omega,Nat.le_trans hB hb1.2.1,hb1.2.2⟩,hw,rfl⟩) λb _ h=>Nat.le_trans hB h)
 have hsame:∀ b',b'<w.heap.size->b'≠b->w'.heap[b']? = w.heap[b']? := λb' h1 h2=>hb.keep b' h1 λj c n _ hj=>by
  obtain ⟨_,e⟩:=Wt hj
  cases e
  exact h2 rfl
 have hkeep:∀ X x,Pu (B <= ·) w (okOf ρ) X x->Pu (B <= ·) w' (okOf ρ) X x:=λX x h=>h.mono (λb' hb1 hw=>⟨hb1,Nat.lt_of_lt_of_le hw hb.size,hsame b' hw λe=>by subst e;exact hb1 _ _ _ hk1⟩) λ_ _ h=>h
 refine ⟨rfl,hb.os,hb.tape,hb.output,hb.size,λb' h1 h2=>hsame b' h1 λe=>by subst e;exact h2 k c' n' rfl hk1,λ_ _ _=>rfl,λ_ _ _=>rfl,λk' X he' => ?_,rel_renW3 hnew hk1 hrel,λ_ _ h=>nomatch h⟩
 cases he'
 refine ⟨_,hk1,λb' c n e=>by cases e;exact ⟨Nat.lt_of_lt_of_le hlo.2 hb.size,hlo.1,.inr ⟨_,_,hk1⟩⟩,?_⟩
 obtain ⟨b2,c2,n2,vs',e2,q1,q2,q3⟩:=hY
 cases e2
 rw [ZaD] at q2
 refine ⟨b,c',n',vs',rfl,q1,q2,λj hj => ?_⟩
 have hjm:j<(maskC m (λj=>vs.getD j undef) ds).length:=by rw [ZaD];exact hj
 have h1:=q3 j hjm
 rw [Zem _ _ _ _ hjm hj] at h1
 by_cases hm:m.getD j false=true
 ·rw [if_pos hm] at h1
  rw [h1.v_inv]
  have hjc:j<cs.length:=by omega
  have e3:cs[j]=ds[j]:=by
   have:=congrArg (λl=>l[j]?) hd2
   simp only [List.getElem?_map] at this
   have hm':m[j]?.getD false=true:=by rw [<- List.getD_eq_getElem?_getD];exact hm
   simpa [hjc,hj,hm'] using this
  rw [<- e3]
  exact (g4 j hjc).keep hkeep λ_ _ h=>h
 rw [if_neg hm] at h1
 have h3:=List.all_eq_true.1 hd3 (ds[j],j) (by rw [List.mem_iff_getElem];exact ⟨j,by simpa using hj,by simp⟩)
 simp only [Bool.or_eq_true] at h3
 exact rel_safeN1 hnew (h3.resolve_left hm) h1
def AV.isV:AV->Bool
 | .v _=>true
 | _=>false
end
structure One (w0:Wb) (g:Nat):Prop where
 H:∀ b,w0.H b->b=g
 N:w0.N hand=some (.at g 0 0)
def two (k:Nat) (nm:Nm) (g:Nat):Names:=⟨λj=>if j=k then some nm else if j=hand then some (.at g 0 0) else none,λb=>b=g⟩
section
variable {ρ:Names} {k0 k g:Nat} {nm:Nm}
end
section
variable {ρ ρ':Names} {B B':Nat} {w:World} {k0 k:Nat} {nm:Nm}
end
section
variable {P:Program} {w0:Wb} {h:AHeap} {t:ATm}
theorem mapM_three {f:ResultVar->Sem Value} {r r' r'':ResultVar} {v v' v'':Value} (h:(f r).run P w = .ok v w) (h':(f r').run P w = .ok v' w) (h'':(f r'').run P w = .ok v'' w):(#[r,r',r''].mapM f).run P w = .ok #[v,v',v''] w:=by
 rw [Array.mapM_eq_mapM_toList];simp [List.mapM_cons,h,h',h'']
end
section
variable {P:Program} {o:Oper}
def AV.rdB:AV->Bool
 | .v _=>true
 | .sl _ _ _=>true
 | .el _ _=>true
 | .fr _=>true
 | .old _ _=>true
 | .any=>true
 | _=>false
theorem Rel.rd (h:Rel ρ B w X x) (hr:X.rdB=true):Pu (B <= ·) w (okOf ρ) X x:=by
 cases h with
 | pu h=>exact h
 | _=>cases hr
variable {T:TypeId}
theorem ZC (x:Operand) (ho:o.op = .box T x) (hc:X.cellsOf.all AV.cell=true) (hp:X.cellsOf.all AV.rdB=true):ASpec P J o [(x,X)] [] (.el X.cellsOf 0) .no:=by
 intro ρ B a w K Q hwf hB _ ha hr hn hk
 have h:=ha (x,X) (by simp)
 obtain ⟨h1,h2,h3⟩:=h.cells hc
 unfold Oper.wp
 rw [show (execOp a.eval o).run P w = .ok (.value (.pointer (some ⟨w.heap.size,0,none⟩))) (w.alloc (.cells (a.eval x).cells T)) by
  simp only [execOp,ho]
  exact Z7 (by simp [Instr.box,newVar,newRow])]
 have hok:∀ b,okOf ρ b->b<w.heap.size->okOf ρ b/\b<(w.alloc (.cells (a.eval x).cells T)).heap.size/\(w.alloc (.cells (a.eval x).cells T)).heap[b]? = w.heap[b]? := λb hb hw=>⟨hb,by simp;omega,heap_alloc_old w _ hw⟩
 refine hk ρ _ _ ⟨rfl,rfl,rfl,rfl,by simp,λb hb _=>heap_alloc_old w _ hb,λ_ _ _=>rfl,(λ_ _ h=>by cases h),(λ_ _ h=>by cases h),.pu (.el (b:=w.heap.size) (off:=0) (f:=λj=>(a.eval x).cells.getD j undef) (λj c n hj=>by have:=(hwf.lo _ _ _ _ hj).2;omega) (by simp) (λj hj => ?_) λj hj => ?_),λ_ _ h=>nomatch h⟩
 ·have hj':j<(a.eval x).cells.size:=by rw [h1];exact hj
  rw [Nat.zero_add,Yn (heap_alloc_new w _) j (v:=(a.eval x).cells.getD j undef) (by simp [Array.getD,hj'])]
 exact ((h3 j hj).rd (List.all_eq_true.1 hp _ (List.getElem_mem hj))).mono hok λ_ _ h=>h
end
section
variable {P:Program} {w0:Wb} {o:Oper} {ops:Array Oper} {rest:List Oper} {Q:Exit->Act->World->Prop}
def AV.flatA:AV->Bool
 | .agg cs=>cs.all AV.flat1
 | .tup _=>false
 | .clo _ _=>false
 | _=>true
theorem Rel.apart {ok:Nat->Prop} (ho:∀ b,okOf ρ b->b<w.heap.size->ok b) (h:Rel ρ B w X x) (hf:X.flatA=true):Pu (λ_=>True) w ok (X.view []) x:=by
 cases X with
 | agg cs =>
   obtain ⟨vs,rfl,hl,hc⟩:=h.agg_inv
   exact .agg (by simpa using hl) λj hj=>by
    rw [List.getElem_map]
    exact (hc j (by simpa using hj)).viewG (rd:=[]) ho (λ_ h=>by cases h) (λ_ h=>by cases h) (List.all_eq_true.1 hf _ (List.getElem_mem _))
 | tup cs=>cases hf
 | clo f cs=>cases hf
 | _=>exact h.viewG (rd:=[]) ho (λ_ h=>by cases h) (λ_ h=>by cases h) rfl
end
section
variable {P:Program} {o:Oper}
end
section
variable {P:Program} {w0:Wb} {h:AHeap} {t:ATm}
end
def clear (G:Nat->Option Nm) (b:Nat):Prop:=∀ i c n,G i≠some (.at b c n)
def InjG (G:Nat->Option Nm):Prop:=∀ i j b c d m n,G i=some (.at b c m)->G j=some (.at b d n)->i=j
def CtrA (P:Program) (J:World->Prop) (f:FuncId) (args:List AV) (u:AV):Prop :=
 ∀ (w:World) (vs:Array Value) (G:Nat->Option Nm),(∀ w',Below w.heap.size w w'->J w')->vs.size=args.length->InjG G->(∀ i b c n,G i=some (.at b c n)->b<w.heap.size) ->
  (∀ j (hj:j<args.length),Pu (λ_=>True) w (λb=>b<w.heap.size/\clear G b) args[j] (vs.getD j undef)) ->
  Calls P f vs w λe w'=>∃ v,e = .returned v/\Pu (λ_=>False) w' (clear G) u v/\Below w.heap.size w w'
def farN (N:Nat->Option Nm) (b:Nat):Prop:=∀ k c n,far<=k->N k≠some (.at b c n)
def RetA (w0:Wb) (u:AV) (e:Ending) (w':World):Prop:=∃ v,e = .returned v/\Pu (λ_=>False) w' (farN w0.N) u v/\Bel w0 w'
theorem Rel.viewCG {rd:List (Nat × ABlk)} {ok:Nat->Prop} (hwf:WF ρ B w) (ho:∀ b,okOf ρ b->b<w.heap.size->ok b) (hr:∀ p∈rd,∃ nm,ρ p.1=some nm/\BlkR ρ w B nm p.2) (hn:∀ p∈rd,∀ b c n,ρ p.1=some (.at b c n)->ok b) (h:Rel ρ B w X x) (hf:X.flat1=true):Pu (λ_=>True) w ok (X.viewC rd) x:=by
 cases X with
 | box k o =>
   simp only [AV.viewC]
   obtain ⟨b,c,n,h1,rfl⟩:=h.box_inv
   split
   ·rename_i q T cs hq
    have hm:=List.mem_of_find?_eq_some hq
    obtain ⟨nm',h1',b',c',n',vs,e,hg,hvs,hrel⟩:=hr _ hm
    have hqk:q=k:=by have:=List.find?_some hq;simpa using this
    have hn':=hn _ hm
    rw [hqk,h1] at h1'
    cases h1';cases e
    split
    ·rename_i hfl
     have:=Pu.el (F:=λ_=>True) (w:=w) (ok:=ok) (b:=b) (off:=0) (o:=o) (cs:=cs.map (AV.view1 rd)) (f:=λj=>vs.getD j undef) (hn' b c n (by rw [hqk];exact h1)) (hwf.lo _ _ _ _ h1).2 (λj hj => ?_) λj hj => ?_
     ·simpa using this
     ·have hj':j<vs.size:=by rw [hvs];simpa using hj
      rw [Nat.zero_add,Yn hg j (v:=vs.getD j undef) (by simp [Array.getD,hj'])]
     rw [List.getElem_map]
     exact (hrel j (by simpa using hj)).viewG ho hr hn (List.all_eq_true.1 hfl _ (List.getElem_mem _))
    exact .any _
   exact .any _
 | agg cs=>cases hf
 | tup cs=>cases hf
 | clo f cs=>cases hf
 | v y=>exact h.viewG ho hr hn rfl
 | own k=>exact h.viewG ho hr hn rfl
 | sl z n cs=>exact h.viewG ho hr hn rfl
 | el cs o=>exact h.viewG ho hr hn rfl
 | fr X=>exact h.viewG ho hr hn rfl
 | any=>exact h.viewG ho hr hn rfl
 | old n X=>exact h.viewG ho hr hn rfl
 | bsl k o m=>exact h.viewG ho hr hn rfl
def AV.viewA (rd:List (Nat × ABlk)):AV->AV
 | .agg cs => .agg (cs.map (AV.view1 rd))
 | X=>X.viewC rd
theorem Rel.viewA {ρ:Names} {B:Nat} {w:World} {rd:List (Nat × ABlk)} {ok:Nat->Prop} (hwf:WF ρ B w) (ho:∀ b,okOf ρ b->b<w.heap.size->ok b) (hr:∀ p∈rd,∃ nm,ρ p.1=some nm/\BlkR ρ w B nm p.2) (hn:∀ p∈rd,∀ b c n,ρ p.1=some (.at b c n)->ok b) {X:AV} {x:Value} (h:Rel ρ B w X x) (hf:X.flatA=true):Pu (λ_=>True) w ok (X.viewA rd) x:=by
 cases X with
 | agg cs =>
   obtain ⟨vs,rfl,hl,hc⟩:=h.agg_inv
   exact .agg (by simpa using hl) λj hj=>by
    rw [List.getElem_map]
    exact (hc j (by simpa using hj)).viewG ho hr hn (List.all_eq_true.1 hf _ (List.getElem_mem _))
 | tup cs=>cases hf
 | clo f cs=>cases hf
 | _=>exact h.viewCG hwf ho hr hn rfl
section
variable {P:Program} {w0:Wb} {h:AHeap} {t:ATm}
variable {a:Act}
theorem Sat.outA (s:Sat J w0 ρ h t a w) {rd:List (Nat × ABlk)} (hrd:rd.map (λp=>h p.1)=rd.map (λp=>some p.2)) (hlo:rd.all (λp=>Nat.blt p.1 far)=true) (hr:Rel ρ w0.heap.size w X x) (hf:X.flatA=true) (hp:Plain (X.viewA rd)):Pu (λ_=>False) w (farN w0.N) (X.viewA rd) x:=by
 refine (hr.viewA (ok:=farN w0.N) s.wf (λb hb _ k c n hk e=>hb k c n ((s.pin k (Nat.le_trans (by decide) hk)).trans e)) (λp hp=>s.hp _ _ (List.map_inj_left.1 hrd p hp)) (λp hp b c n hb k c' n' hk e => ?_) hf).plain hp
 have:=s.wf.inj _ _ _ _ _ _ _ hb ((s.pin k (Nat.le_trans (by decide) hk)).trans e)
 have h2:=List.all_eq_true.1 hlo p hp
 rw [Nat.blt_eq] at h2
 omega
variable {u:AV}
theorem YJ {fn:Func} {r:ResultVar} (rd:List (Nat × ABlk)) (hr:fn.results = #[r]) (h1:ResV P h t r X) (hrd:rd.map (λp=>h p.1)=rd.map (λp=>some p.2)) (hlo:rd.all (λp=>Nat.blt p.1 far)=true) (hf:X.flatA=true) (hp:Plain (X.viewA rd)) (hu:X.viewA rd=u):ETri J w0 h t (bodyPost P fn (RetA w0 u) .ret):=fun ρ a w s=>by
 subst hu
 obtain ⟨v,g1,g2⟩:=KO s h1
 refine ⟨s.df,v,?_,v,rfl,s.outA hrd hlo g2 hf hp,s.bel⟩
 unfold results
 rw [hr,Sem.run_bind,Zbq (v:=v) (by cases r<;>exact g1)]
 rfl
theorem KM {fn:Func} {r r':ResultVar} {X X' u:AV} (rd:List (Nat × ABlk)) (hr:fn.results = #[r,r']) (h1:ResV P h t r X) (h2:ResV P h t r' X') (hrd:rd.map (λp=>h p.1)=rd.map (λp=>some p.2)) (hlo:rd.all (λp=>Nat.blt p.1 far)=true) (hf:X.flatA=true) (hf':X'.flatA=true) (hp:Plain (X.viewA rd)) (hp':Plain (X'.viewA rd)) (hu:AV.tup [X.viewA rd,X'.viewA rd]=u):ETri J w0 h t (bodyPost P fn (RetA w0 u) .ret):=fun ρ a w s=>by
 subst hu
 obtain ⟨v,g1,g2⟩:=KO s h1
 obtain ⟨v',g1',g2'⟩:=KO s h2
 refine ⟨s.df,.tuple #[v,v'],?_,_,rfl,.tup rfl λj hj => ?_,s.bel⟩
 ·unfold results
  rw [hr,Sem.run_bind,mapM_two (v:=v) (v':=v') (by cases r<;>exact g1) (by cases r'<;>exact g1')]
  rfl
 simp only [List.length_cons,List.length_nil] at hj
 match j,hj with
 | 0,_=>exact s.outA hrd hlo g2 hf hp
 | 1,_=>exact s.outA hrd hlo g2' hf' hp'
def farG (G:Nat->Option Nm):Nat->Option Nm:=λk=>if far<=k then G (k-far) else none
theorem Zb0 {G:Nat->Option Nm} {x:Nm} (h:farG G k=some x):far<=k/\G (k-far)=some x:=by
 unfold farG at h
 split at h
 ·rename_i e;exact ⟨e,h⟩
 cases h
variable {b:Nat}
theorem farG_clear {G:Nat->Option Nm} :farN (farG G) b↔clear G b:=by
 constructor
 ·intro h i c n e
  refine h (i+far) c n (by omega) ?_
  unfold farG
  rw [if_pos (by omega),Nat.add_sub_cancel];exact e
 intro h k c n hk e
 exact h _ c n (Zb0 e).2
variable {f:FuncId}{args:List AV}{n:Nat}
theorem YU {fn:Func} {c:Code} (hf:P.funcs[f]? = some fn) (hb:fn.body=some c) (hpl:∀ X∈args,Plain X) (hnt:fn.ntmps=n) (hna:args.length<=n)
 (H:∀ w0,ETri J w0 (ofL []) (ofT n ((List.range args.length).zip args)) (c.wp P (bodyPost P fn (RetA w0 u)))):CtrA P J f args u:=λw vs G hJ hl hi hw hv=>by
 refine (calls_of_wp hf hb (H ⟨w,λ_=>False,farG G⟩ ⟨farG G,λ_=>False⟩ _ w ⟨⟨λj k b c d m n hj hk => ?_,λk b c n hk => ?_⟩,rfl,Bel.refl _,(λw' h=>hJ w' (h.below λ_ h=>h)),(λ_ _ h=>by cases h),λk hk _=>if_neg (by have:=WV;omega),λ_ _=>rfl,by simp [hl,hnt,ofT];omega,λi hi => ?_,rfl,λ_ _=>rfl⟩)).mono λe w' ⟨v,q1,q2,q3⟩=>⟨v,q1,q2.weak λb hb=>farG_clear.1 hb,q3.below λ_ h=>h⟩
 ·obtain ⟨h1,h2⟩:=Zb0 hj
  obtain ⟨h3,h4⟩:=Zb0 hk
  have:=hi _ _ _ _ _ _ _ h2 h4
  omega
 ·obtain ⟨h1,h2⟩:=Zb0 hk
  exact ⟨.inr (.inr h1),hw _ _ _ _ h2⟩
 simp only [ofT]
 cases hf:((List.range args.length).zip args).find? λp=>p.1==i with
 | none=>exact .anyR
 | some p =>
   have hm:=List.mem_of_find?_eq_some hf
   have hk':p.1=i:=by have:=List.find?_some hf;simpa using this
   obtain ⟨j,hj,e⟩:=List.getElem_of_mem hm
   simp only [List.getElem_zip,List.getElem_range] at e
   subst e
   dsimp only at hk'
   subst hk'
   have hj1:j<args.length:=by simp at hj;omega
   simp only [Option.map_some,Option.getD_some]
   have:=(hv j hj1).plain (F':=(w.heap.size <= ·)) (hpl _ (List.getElem_mem hj1))
   have hj2:j<vs.size:=by omega
   have e:(vs++Array.replicate (fn.ntmps-vs.size) undef).getD j undef=vs.getD j undef:=by simp [Array.getD,hj2,Array.getElem_append_left hj2];omega
   rw [e]
   exact .pu (this.weak λb hb k c n hk=>hb.2 _ c n (Zb0 hk).2)
end
section
variable {P:Program} {o:Oper}
variable {c:Operand}{f:FuncId}{Xs Ys:List AV}{u:AV}
theorem Kp {xs:Array Operand} {ats:Array TypeId} (hC:CtrA P J f Ys u) (ho:o.op = .call { callee := .value c,args:=xs,argTypes:=ats })
 (hf : (P.funcs[f]?).map (λfn => (fn.name == "runtime.NumGoroutine") || fn.body.isNone) = some false) (hl : xs.size = Xs.length) (hv : Xs.map (AV.view []) = Ys) (hfl : Xs.all AV.flatA = true) :
 ASpec P J o ((c,.v (.func (.func f) #[] #[]))::xs.toList.zip Xs) [] u .no:=by
 subst hv
 intro ρ B a w K Q hwf hB hJ ha hr _ hk
 refine KK ho (ha (c,.v (.func (.func f) #[] #[])) (by simp)).v_inv hf ?_
 rw [Array.append_empty]
 refine (hC w (xs.map a.eval) ρ.f (λw' h=>hJ w' (Y8 h)) (by simpa using hl) (λi j b c d m n h1 h2=>hwf.inj _ _ _ _ _ _ _ h1 h2) (λi b c n h=>(hwf.lo _ _ _ _ h).2) λj hj => ?_).mono λe w' ⟨v,he,hp,hb⟩=>⟨v,he,hk ρ w' v ⟨rfl,hb.os,hb.tape,hb.output,hb.size,λb hb' _=>hb.block b hb',λ_ _ _=>rfl,(λ_ _ h=>by cases h),(λ_ _ h=>by cases h),.pu (hp.mono (λb hb' hw=>⟨hb',hw,rfl⟩) λb _ h=>h.elim),λ_ _ h=>nomatch h⟩⟩
 have hj1:j<Xs.length:=by simpa using hj
 have hj2:j<xs.size:=by omega
 rw [List.getElem_map]
 have hm:(xs[j],Xs[j])∈(c,AV.v (.func (.func f) #[] #[]))::xs.toList.zip Xs:=by
  refine List.mem_cons_of_mem _ ?_
  rw [List.mem_iff_getElem]
  exact ⟨j,by simp;omega,by simp⟩
 have:=(ha _ hm).apart (ok:=λb=>b<w.heap.size/\clear ρ.f b) (λb hb hw=>⟨hw,hb⟩) (List.all_eq_true.1 hfl _ (List.getElem_mem hj1))
 simpa [Array.getD,hj2] using this
end
section
variable {P:Program} {o:Oper}
variable {off:Nat}
theorem sp_nilBox (x:Operand) (ho:o.op = .nilCheck x):ASpec P J o [(x,.box k off)] [] (.box k off) .no :=
 ZF fun ρ B a w _ ha _=>by
  obtain ⟨b,c,n,h1,h2⟩:=(ha (x,.box k off) (by simp)).box_inv
  refine ⟨_,?_,.box (o:=off) h1⟩
  simp only [execOp,ho,h2]
  simp
variable {cs:List AV}
theorem sp_nilEl (x:Operand) (ho:o.op = .nilCheck x):ASpec P J o [(x,.el cs off)] [] (.el cs off) .no :=
 ZF fun ρ B a w _ ha _=>by
  have h:=ha (x,.el cs off) (by simp)
  have key:∀ v:Value,Rel ρ B w (.el cs off) v->∃ b j,v = .pointer (some ⟨b,j,none⟩):=λv h=>by
   cases h with
   | pu h=>cases h with | el hb hw hf h=>exact ⟨_,_,rfl⟩
  have h2:=key _ h
  obtain ⟨b,j,h2⟩:=h2
  refine ⟨a.eval x,?_,h⟩
  simp only [execOp,ho,h2]
  simp
variable {z len:Nat}
theorem Za8 {t e:TypeId} (hu:P.underlying t=some (.array len e)) (hz:(P.info? e).map (·.size)=some z) (w:World) (b off:Nat) (ik:IntKind) (i:Int) (h0:0<=i) (h1:i<len) :
 (Instr.indexAt t (.pointer (some ⟨b,off,none⟩)) (.int ik i)).run P w = .ok (.pointer (some ⟨b,off+i.toNat*z,none⟩)) w:=by
 obtain ⟨it,hi,rfl⟩:=Option.map_eq_some_iff.1 hz
 simp [Instr.indexAt,asIntOf,run_underlying hu,Instr.sureAddr,sizeOf,typeInfo,hi,h0,h1,Addr.add_mid]
theorem Z9 {t e:TypeId} {z len k off off':Nat} {ik:IntKind} {i:Int} (x y:Operand) (ho:o.op = .indexAddr t x y) (hu:P.underlying t=some (.array len e)) (hz:(P.info? e).map (·.size)=some z) (h0:0<=i) (h1:i<len) (he:off+i.toNat*z=off') :
 ASpec P J o [(x,.box k off),(y,.v (.int ik i))] [] (.box k off') .no :=
 ZF fun ρ B a w _ ha _=>by
  obtain ⟨b,c,n,h1',h2⟩:=(ha (x,.box k off) (by simp)).box_inv
  have hy:=(ha (y,.v (.int ik i)) (by simp)).v_inv
  refine ⟨_,?_,.box (o:=off') h1'⟩
  simp only [execOp,ho,h2,hy]
  exact Z7 (by rw [Za8 hu hz _ _ _ _ _ h0 h1,he])
end
def AV.partVal (α:Nat->Option Addr × Nat × Nat) (base:Nat):AV->Value
 | .agg cs => .agg ((cs.zipIdx base).map λp=>p.1.asVal α p.2).toArray
 | X=>X.asVal α base
def valsG (α:Nat->Option Addr × Nat × Nat):Nat->List AV->List Value
 | _,[]=>[]
 | base,X::Xs=>X.partVal α base::valsG α (base+X.cellsOf.length) Xs
def AV.solid2:AV->Bool
 | .agg cs=>cs.all AV.solid
 | X=>X.solid
theorem Wz {α β:Nat->Option Addr × Nat × Nat} (h:α k=β k) (X:AV):X.asVal α k=X.asVal β k:=by
 cases X<;>simp [AV.asVal,h]
theorem ZaA {α β:Nat->Option Addr × Nat × Nat} {base:Nat} (h:∀ k,base<=k->k<base+X.cellsOf.length->α k=β k):X.partVal α base=X.partVal β base:=by
 cases X with
 | agg cs =>
   simp only [AV.partVal]
   congr 2
   apply List.ext_getElem (by simp)
   intro i h1 h2
   simp only [List.getElem_map,List.getElem_zipIdx]
   exact Wz (h _ (by omega) (by simp [AV.cellsOf] at h1 ⊢;omega)) _
 | _=>simp only [AV.partVal];exact Wz (h _ (Nat.le_refl _) (by simp [AV.cellsOf])) _
theorem Zbu {α β:Nat->Option Addr × Nat × Nat}:∀ (Xs:List AV) (base:Nat),(∀ k,base<=k->k<base+(Xs.flatMap AV.cellsOf).length->α k=β k)->valsG α base Xs=valsG β base Xs
 | [],_,_=>rfl
 | X::Xs,base,h=>by
   simp only [valsG]
   rw [List.flatMap_cons,List.length_append] at h
   rw [ZaA λk h1 h2=>h k h1 (by omega),Zbu Xs _ λk h1 h2=>h k (by omega) (by omega)]
variable {v:Value}
theorem part_of (h:Rel ρ B w X v) (hs:X.solid2=true) (base:Nat) :
 ∃ α,v=X.partVal α base/\∀ k (hk:k<X.cellsOf.length),Rel ρ B w X.cellsOf[k] (X.cellsOf[k].asVal α (base+k)):=by
 cases X with
 | agg cs =>
   obtain ⟨vs,rfl,hl,hc⟩:=h.agg_inv
   obtain ⟨α,hα⟩:=choose_lt (n:=cs.length) (p:=λk (r:Option Addr × Nat × Nat)=>vs.getD k undef=(cs.getD k .any).asVal (λ_=>r) 0) λk hk=>by
    have:=ZbR (hc k hk) (List.all_eq_true.1 hs _ (List.getElem_mem hk))
    simpa [List.getD_eq_getElem?_getD,hk] using this
   have key:∀ k (hk:k<cs.length),vs.getD k undef=cs[k].asVal (λj=>α (j-base)) (base+k):=λk hk=>by
    have:=hα k hk
    rw [Zdw] at this
    simp only [List.getD_eq_getElem?_getD,List.getElem?_eq_getElem hk,Option.getD_some] at this
    rw [this]
    have e:(λj=>α (j-base)) (base+k)=α k:=by simp
    cases cs[k]<;>simp [AV.asVal]
   refine ⟨λj=>α (j-base),?_,λk hk => ?_⟩
   ·simp only [AV.partVal]
    congr 1
    apply Array.ext (by simpa using hl)
    intro i h1 h2
    have hi:i<cs.length:=by omega
    have:=key i hi
    simp only [Array.getD,h1,dif_pos] at this
    simp only [List.getElem_toArray,List.getElem_map,List.getElem_zipIdx]
    simpa using this
   have hk':k<cs.length:=hk
   have:=hc k hk'
   rw [key k hk'] at this
   exact this
 | tup cs=>cases hs
 | _ =>
   obtain ⟨a,ha⟩:=ZbR h hs
   refine ⟨λ_=>a,?_,λk hk => ?_⟩
   ·rw [ha];rfl
   obtain rfl:k=0:=by simp [AV.cellsOf] at hk;exact hk
   rw [ha] at h
   exact h
theorem vals_of {ρ:Names} {B:Nat} {w:World}:∀ (Xs:List AV) (vs:List Value) (base:Nat),vs.length=Xs.length->(∀ i (hi:i<Xs.length) (hi':i<vs.length),Rel ρ B w Xs[i] vs[i])->Xs.all AV.solid2=true ->
 ∃ α,vs=valsG α base Xs/\∀ k (hk:k<(Xs.flatMap AV.cellsOf).length),Rel ρ B w (Xs.flatMap AV.cellsOf)[k] ((Xs.flatMap AV.cellsOf)[k].asVal α (base+k))
 | [],[],_,_,_,_=>⟨λ_=>(none,0,0),rfl,λk hk=>by simp at hk⟩
 | [],_::_,_,h,_,_=>by simp at h
 | _::_,[],_,h,_,_=>by simp at h
 | X::Xs,v::vs,base,hl,hr,hs=>by
   simp only [List.all_cons,Bool.and_eq_true] at hs
   obtain ⟨α,a1,a2⟩:=part_of (hr 0 (by simp) (by simp)) hs.1 base
   obtain ⟨β,b1,b2⟩:=vals_of Xs vs (base+X.cellsOf.length) (by simpa using hl) (λi hi hi'=>hr (i+1) (by simpa using hi) (by simpa using hi')) hs.2
   have c1:∀ k,base<=k->k<base+X.cellsOf.length->(λk=>if k<base+X.cellsOf.length then α k else β k) k=α k:=λk _ h=>if_pos h
   have c2:∀ k,base+X.cellsOf.length<=k->(λk=>if k<base+X.cellsOf.length then α k else β k) k=β k:=λk h=>if_neg (by omega)
   refine ⟨λk=>if k<base+X.cellsOf.length then α k else β k,?_,λk hk => ?_⟩
   ·simp only [valsG]
    rw [ZaA (β:=α) c1,Zbu (β:=β) Xs _ λk h _=>c2 k h,<- b1]
    simp only [List.getElem_cons_zero] at a1
    rw [<- a1]
   simp only [List.flatMap_cons] at hk ⊢
   by_cases h:k<X.cellsOf.length
   ·rw [List.getElem_append_left h,Wz (c1 _ (by omega) (by omega))]
    exact a2 k h
   rw [List.getElem_append_right (by omega),Wz (c2 (base+k) (by omega))]
   have:=b2 (k-X.cellsOf.length) (by simp at hk ⊢;omega)
   rw [show base+X.cellsOf.length+(k-X.cellsOf.length)=base+k by omega] at this
   exact this
section
variable {P:Program} {o:Oper}
variable {T:TypeId}
theorem sp_bldG {parts:Array (Nat × Operand)} (idx:List Nat) (ops:List Operand) (Xs:List AV) (R:List (Value ⊕ Nat)) (ho:o.op = .build T parts) (hp:parts.toList=idx.zip ops) (h1:idx.length=Xs.length) (h2:ops.length=Xs.length) (hX:Xs.all AV.solid2=true)
 (H:∀ α,P.built T (idx.zip (valsG α 0 Xs))=some (R.map (pickV α (Xs.flatMap AV.cellsOf))).toArray) (hR:R.all (λr=>match r with | .inl _=>true | .inr k=>decide (k<(Xs.flatMap AV.cellsOf).length))=true) {ds:List AV} (hd:R.map (pickA (Xs.flatMap AV.cellsOf))=ds) :
 ASpec P J o (ops.zip Xs) [] (.agg ds) .no :=
 ZF fun ρ B a w _ ha _=>by
  subst hd
  obtain ⟨α,hα1,hα2⟩:=vals_of Xs (ops.map a.eval) 0 (by simpa using h2) (λi hi hi'=>by
   have hi2:i<ops.length:=by omega
   rw [List.getElem_map]
   exact ha (ops[i],Xs[i]) (by rw [List.mem_iff_getElem];exact ⟨i,by simp;omega,by simp⟩)) hX
  refine ⟨.agg (R.map (pickV α (Xs.flatMap AV.cellsOf))).toArray,?_,.agg (by simp) λj hj => ?_⟩
  ·simp only [execOp,ho]
   refine Z7 (run_build w T _ _ ?_)
   rw [<- H α,<- hα1]
   congr 1
   rw [Array.toList_map,hp]
   apply List.ext_getElem
   ·simp
   intro k g1 g2
   simp
  have hj':j<R.length:=by simpa using hj
  simp only [List.getElem_map]
  have e:(R.map (pickV α (Xs.flatMap AV.cellsOf))).toArray.getD j undef=pickV α (Xs.flatMap AV.cellsOf) R[j]:=by simp [Array.getD,hj']
  rw [e]
  have hr:=List.all_eq_true.1 hR _ (List.getElem_mem hj')
  generalize R[j]=r at hr
  cases r with
  | inl z=>exact .pu (.v z)
  | inr k =>
    have hk:k<(Xs.flatMap AV.cellsOf).length:=by simpa using hr
    have h3:=hα2 k hk
    rw [Nat.zero_add] at h3
    simp only [pickA,pickV,List.getD_eq_getElem?_getD,List.getElem?_eq_getElem hk,Option.getD_some]
    exact h3
end
def fOff (P:Program) (S:TypeId) (f:Nat):Option Nat :=
 match P.underlying S with
 | some (.struct fs)=>match fs[f]? with
   | some fl=>match P.info? fl.type with
     | some x=>match Nat.blt 0 x.size with
       | true=>some fl.offset
       | false=>none
     | none=>none
   | none=>none
 | _=>none
variable {P:Program}
theorem fOff_sp {S:TypeId} {f n:Nat} (h:fOff P S f=some n):∃ fs fl z,P.underlying S=some (.struct fs)/\fs[f]? = some fl/\(P.info? fl.type).map (·.size)=some z/\0<z/\fl.offset=n:=by
 unfold fOff at h
 split at h
 ·rename_i fs hu
  split at h
  ·rename_i fl hf
   split at h
   ·rename_i x hx
    split at h
    ·rename_i hb
     exact ⟨fs,fl,x.size,hu,hf,by rw [hx];rfl,Nat.le_of_ble_eq_true hb,Option.some.inj h⟩
    cases h
   cases h
  cases h
 cases h
def lenX (cl:Call):Option (Operand × TypeId):=match cl with
 | ⟨.builtin .len,⟨[x]⟩,⟨[ty]⟩⟩=>some (x,ty)
 | _=>none
theorem lenX_sp {cl:Call} {p:Operand × TypeId} (h:lenX cl=some p):cl=⟨.builtin .len,#[p.1],#[p.2]⟩:=by
 unfold lenX at h
 split at h
 ·cases h;rfl
 cases h
def opA (P:Program) (h:AHeap) (t:ATm):Op->Option AV
 | .move x=>some (aev t x)
 | .assign x=>some (aev t x)
 | .fieldAddr S x f=>match fOff P S f with
   | some o=>match aev t x with
     | .box k off=>some (.box k (off+o))
     | .el cs off=>some (.el cs (off+o))
     | _=>none
   | none=>none
 | .load T x=>match P.underlying T with
   | some d=>match d.isRow with
     | false=>match aev t x with
       | .box k off=>match h k with
         | some Y=>Y.cells[off]?
         | none=>none
       | .el cs off=>cs[off]?
       | _=>none
     | true=>match aev t x with
       | .box k off=>match h k,P.info? T with
         | some Y,some i=>match Nat.blt 0 i.size&&Nat.beq ((Y.cells.drop off).take i.size).length i.size with
           | true=>some (.agg ((Y.cells.drop off).take i.size))
           | false=>none
         | _,_=>none
       | _=>none
   | none=>none
 | .unOp .not _ x=>match aev t x with
   | .v (.bool b)=>some (.v (.bool (!b)))
   | _=>none
 | .pick c x y=>match aev t c with
   | .v (.bool b)=>some (if b then aev t x else aev t y)
   | _=>none
 | .nilCheck x=>match aev t x with
   | .box k off=>some (.box k off)
   | .el cs off=>some (.el cs off)
   | _=>none
 | .extract x i=>match aev t x with
   | .tup cs=>cs[i]?
   | _=>none
 | .call cl=>match lenX cl with
   | some p=>match P.underlying p.2 with
     | some (.slice _)=>match aev t p.1 with
       | .sl _ n _=>some (.v (.int .i64 n))
       | _=>none
     | _=>none
   | none=>none
 | _=>none
def opX:Op->List Operand
 | .move x=>[x]
 | .assign x=>[x]
 | .fieldAddr _ x _=>[x]
 | .load _ x=>[x]
 | .unOp _ _ x=>[x]
 | .pick c x y=>[c,x,y]
 | .nilCheck x=>[x]
 | .extract x _=>[x]
 | .call cl=>match lenX cl with
   | some p=>[p.1]
   | none=>[]
 | _=>[]
def opRd (h:AHeap) (t:ATm):Op->List (Nat × ABlk)
 | .load _ x=>match aev t x with
   | .box k _=>match h k with
     | some Y=>[(k,Y)]
     | none=>[]
   | _=>[]
 | _=>[]
def opCl (h:AHeap) (t:ATm) (o:Op) (u:AV):Cl:=⟨(opX o).map λx=>(x,aev t x),opRd h t o,u,.no⟩
variable {o:Oper}{u:AV}
theorem opA_sp {h:AHeap} {t:ATm} (hc:opA P h t o.op=some u):ASpec P J o ((opX o.op).map λx=>(x,aev t x)) (opRd h t o.op) u .no/\RdL h (opRd h t o.op):=by
 generalize ho:o.op=p at hc ⊢
 cases p with
 | move x=>cases hc;exact ⟨sp_move x _ ho,trivial⟩
 | assign x=>cases hc;exact ⟨sp_assign x _ ho,trivial⟩
 | fieldAddr S x f =>
   simp only [opA] at hc
   split at hc
   ·rename_i n hn
    obtain ⟨fs,fl,z,h1,h2,h3,h4,h5⟩:=fOff_sp hn
    split at hc
    ·rename_i k off hx
     cases hc
     refine ⟨?_,trivial⟩
     show ASpec P J o [(x,aev t x)] [] _ .no
     rw [hx]
     exact Ze2 x ho h1 h2 h3 h4 (by rw [h5])
    ·rename_i cs off hx
     cases hc
     refine ⟨?_,trivial⟩
     show ASpec P J o [(x,aev t x)] [] _ .no
     rw [hx]
     exact sp_fieldEl x ho h1 h2 h3 h4 (by rw [h5])
    cases hc
   cases hc
 | load T x =>
   simp only [opA] at hc
   split at hc
   ·rename_i d hu
    split at hc
    ·rename_i hd
     split at hc
     ·rename_i k off hx
      split at hc
      ·rename_i Y hY
       show ASpec P J o [(x,aev t x)] (opRd h t (.load T x)) u .no/\RdL h (opRd h t (.load T x))
       rw [show opRd h t (.load T x)=[(k,Y)] by simp only [opRd,hx,hY],hx]
       exact ⟨Kl x ho hu hd hc,hY,trivial⟩
      cases hc
     ·rename_i cs off hx
      show ASpec P J o [(x,aev t x)] (opRd h t (.load T x)) u .no/\RdL h (opRd h t (.load T x))
      rw [show opRd h t (.load T x)=[] by simp only [opRd,hx],hx]
      exact ⟨WR x ho hu hd hc,trivial⟩
     cases hc
    rename_i hd
    split at hc
    ·rename_i k off hx
     split at hc
     ·rename_i Y i hY hi
      split at hc
      ·rename_i hb
       rw [Bool.and_eq_true] at hb
       cases hc
       show ASpec P J o [(x,aev t x)] (opRd h t (.load T x)) _ .no/\RdL h (opRd h t (.load T x))
       rw [show opRd h t (.load T x)=[(k,Y)] by simp only [opRd,hx,hY],hx]
       exact ⟨Wm x ho hu hd (by rw [hi];rfl) (Nat.le_of_ble_eq_true hb.1) rfl (Nat.eq_of_beq_eq_true hb.2),hY,trivial⟩
      cases hc
     cases hc
    cases hc
   cases hc
 | unOp op ty x =>
   cases op with
   | not =>
     simp only [opA] at hc
     split at hc
     ·rename_i b hx
      cases hc
      refine ⟨?_,trivial⟩
      show ASpec P J o [(x,aev t x)] [] _ .no
      rw [hx]
      exact sp_not ho rfl
     cases hc
   | _=>cases hc
 | pick c x y =>
   simp only [opA] at hc
   split at hc
   ·rename_i b hx
    cases hc
    refine ⟨?_,trivial⟩
    show ASpec P J o [(c,aev t c),(x,aev t x),(y,aev t y)] [] _ .no
    rw [hx]
    exact sp_pick c x y b _ _ ho
   cases hc
 | nilCheck x =>
   simp only [opA] at hc
   split at hc
   ·rename_i k off hx
    cases hc
    refine ⟨?_,trivial⟩
    show ASpec P J o [(x,aev t x)] [] _ .no
    rw [hx]
    exact sp_nilBox x ho
   ·rename_i cs off hx
    cases hc
    refine ⟨?_,trivial⟩
    show ASpec P J o [(x,aev t x)] [] _ .no
    rw [hx]
    exact sp_nilEl x ho
   cases hc
 | extract x i =>
   simp only [opA] at hc
   split at hc
   ·rename_i cs hx
    refine ⟨?_,trivial⟩
    show ASpec P J o [(x,aev t x)] [] _ .no
    rw [hx]
    exact sp_extract x ho hc
   cases hc
 | call cl =>
   simp only [opA] at hc
   split at hc
   ·rename_i p hp
    split at hc
    ·rename_i e hu
     split at hc
     ·rename_i z n cs hx
      cases hc
      have e:=lenX_sp hp
      show ASpec P J o ((match lenX cl with | some p=>[p.1] | none=>[]).map λx=>(x,aev t x)) [] _ .no/\True
      rw [hp]
      refine ⟨?_,trivial⟩
      show ASpec P J o [(p.1,aev t p.1)] [] _ .no
      rw [hx]
      exact sp_lenSl p.1 (by rw [ho,e]) hu
     cases hc
    cases hc
   cases hc
 | _=>cases hc
theorem WL {t:ATm}:∀ l:List Operand,FitsL t (l.map λx=>(x,aev t x))
 | []=>trivial
 | _::l=>⟨I0,WL l⟩
section
variable {P:Program} {w0:Wb} {h:AHeap} {t:ATm} {Q:Exit->Act->World->Prop} {Ψ:AHeap->ATm->Prop} {ops:Array Oper} {o o2:Oper} {rest:List Oper} {cs:List Cl}
theorem tri_lose {t':ATm} {Φ:Act->World->Prop} (hn:t'.n=t.n) (hf:∀ i,t'.f i=t.f i\/t'.f i = .any) (H:ETri J w0 h t' Φ):ETri J w0 h t Φ:=fun ρ a w s =>
 H ρ a w ⟨s.wf,s.hH,s.bel,s.inv,s.hp,s.dom,s.pin,s.tl.trans hn.symm,λj hj=>by
  rcases hf j with e | e
  ·rw [e];exact s.tm j (hn ▸ hj)
  rw [e];exact .anyR,s.df,s.gh⟩
theorem any_put {d d2:Option Tmp} {u v:AV} (i:Nat):(aput (aput t d .any) d2 u).f i=(aput (aput t d v) d2 u).f i\/(aput (aput t d .any) d2 u).f i = .any:=by
 have h1:∀ j,(aput t d .any).f j=(aput t d v).f j\/(aput t d .any).f j = .any:=λj=>by
  cases d with
  | none=>exact .inl rfl
  | some x =>
    show (if j=x then _ else _)=(if j=x then _ else _)\/(if j=x then _ else _)=_
    by_cases e:j=x
    ·exact .inr (if_pos e)
    exact .inl ((if_neg e).trans (if_neg e).symm)
 cases d2 with
 | none=>exact h1 i
 | some y =>
   show (if i=y then _ else _)=(if i=y then _ else _)\/(if i=y then _ else _)=_
   by_cases e:i=y
   ·exact .inl ((if_pos e).trans (if_pos e).symm)
   simp only [if_neg e];exact h1 i
theorem wanted_put {d:Option Tmp} {v:AV} (hg:awanted ops o2 (aput t d .any)=some true):awanted ops o2 (aput t d v)=some true:=by
 unfold awanted at hg ⊢
 split
 ·rfl
 rename_i g want e
 rw [e] at hg
 simp only at hg ⊢
 split at hg
 ·cases hg
 rename_i e2 x hx
 have h2:(aput t d .any).get x = .any\/(aput t d v).get x=(aput t d .any).get x:=by
  unfold ATm.get
  rw [Wf,Wf]
  split
  ·cases d with
   | none=>exact .inr rfl
   | some i =>
     show (if x=i then _ else _)=_\/(if x=i then _ else _)=(if x=i then _ else _)
     by_cases e:x=i
     ·exact .inl (if_pos e)
     exact .inr ((if_neg e).trans (if_neg e).symm)
  exact .inl rfl
 rcases h2 with h2 | h2
 ·rw [h2] at hg;cases hg
 rw [<- h2] at hg;exact hg
theorem oS (u:AV) (H:ETri J w0 h (aput t o.dst u) (wpList P ops Q rest)) (hc:opA P h t o.op=some u:=by kernel_rfl) (hg:awanted ops o t=some true:=by kernel_rfl):ETri J w0 h t (wpList P ops Q (o::rest)) :=
 KA hg (opA_sp hc).1 (WL _) (opA_sp (J:=J) hc).2 trivial H
theorem oF (u:AV) (H:ETri J w0 h (aput (aput t o.dst .any) o2.dst u) (wpList P ops Q rest)) (hc:(opA P h t o.op).bind (λv=>opA P h (aput t o.dst v) o2.op)=some u:=by kernel_rfl) (hg:awanted ops o t=some true:=by kernel_rfl) (hg2:awanted ops o2 (aput t o.dst .any)=some true:=by kernel_rfl):ETri J w0 h t (wpList P ops Q (o::o2::rest)):=by
 obtain ⟨v,h1,h2⟩:=Option.bind_eq_some_iff.1 hc
 exact oS v (oS u (tri_lose (by rw [Wf,Wf,Wf,Wf]) any_put H) h2 (wanted_put hg2)) h1 hg
theorem getD_of {α:Type} {x:Option α} {d:α} (h:x.isSome=true):x=some (x.getD d):=by
 cases x with
 | none=>cases h
 | some y=>rfl
theorem oW (H:ETri J w0 h (aput t o.dst ((opA P h t o.op).getD .any)) (wpList P ops Q rest)) (hc:(opA P h t o.op).isSome=true:=by kernel_rfl) (hg:awanted ops o t=some true:=by kernel_rfl):ETri J w0 h t (wpList P ops Q (o::rest)) :=
 oS _ H (getD_of hc) hg
abbrev sW (P:Program) (h:AHeap) (t:ATm) (o:Oper):ATm:=aput t o.dst ((opA P h t o.op).getD .any)
def kW1 (P:Program) (ops:Array Oper) (h:AHeap) (t:ATm) (o:Oper):Bool:=(opA P h t o.op).isSome&&(awanted ops o t==some true)
def kV1 (ops:Array Oper) (t:ATm) (o:Oper):Bool:=awanted ops o t==some false
theorem oW_k (H:ETri J w0 h (sW P h t o) (wpList P ops Q rest)) (hc:kW1 P ops h t o=true):ETri J w0 h t (wpList P ops Q (o::rest)):=by
 unfold kW1 at hc
 rw [Bool.and_eq_true,beq_iff_eq] at hc
 exact oW H hc.1 hc.2
theorem qK_k (H:ETri J w0 h (aput t o.dst (.v undef)) (wpList P ops Q rest)) (hc:kV1 ops t o=true):ETri J w0 h t (wpList P ops Q (o::rest)):=by
 unfold kV1 at hc
 rw [beq_iff_eq] at hc
 exact t_skip hc H
section
variable {o3 o4 o5:Oper}
theorem W2 (H:ETri J w0 h (sW P h (sW P h t o) o2) (wpList P ops Q rest)) (hc:(kW1 P ops h t o&&kW1 P ops h (sW P h t o) o2)=true:=by kernel_rfl):ETri J w0 h t (wpList P ops Q (o::o2::rest)):=by
 rw [Bool.and_eq_true] at hc
 exact oW_k (oW_k H hc.2) hc.1
theorem W3 (H:ETri J w0 h (sW P h (sW P h (sW P h t o) o2) o3) (wpList P ops Q rest)) (hc:(kW1 P ops h t o&&(kW1 P ops h (sW P h t o) o2&&kW1 P ops h (sW P h (sW P h t o) o2) o3))=true:=by kernel_rfl):ETri J w0 h t (wpList P ops Q (o::o2::o3::rest)):=by
 rw [Bool.and_eq_true] at hc
 exact oW_k (W2 H hc.2) hc.1
theorem W4 (H:ETri J w0 h (sW P h (sW P h (sW P h (sW P h t o) o2) o3) o4) (wpList P ops Q rest)) (hc:(kW1 P ops h t o&&(kW1 P ops h (sW P h t o) o2&&(kW1 P ops h (sW P h (sW P h t o) o2) o3&&kW1 P ops h (sW P h (sW P h (sW P h t o) o2) o3) o4)))=true:=by kernel_rfl):ETri J w0 h t (wpList P ops Q (o::o2::o3::o4::rest)):=by
 rw [Bool.and_eq_true] at hc
 exact oW_k (W3 H hc.2) hc.1
theorem V2 (H:ETri J w0 h (aput (aput t o.dst (.v undef)) o2.dst (.v undef)) (wpList P ops Q rest)) (hc:(kV1 ops t o&&kV1 ops (aput t o.dst (.v undef)) o2)=true:=by kernel_rfl):ETri J w0 h t (wpList P ops Q (o::o2::rest)):=by
 rw [Bool.and_eq_true] at hc
 exact qK_k (qK_k H hc.2) hc.1
theorem V3 (H:ETri J w0 h (aput (aput (aput t o.dst (.v undef)) o2.dst (.v undef)) o3.dst (.v undef)) (wpList P ops Q rest)) (hc:(kV1 ops t o&&(kV1 ops (aput t o.dst (.v undef)) o2&&kV1 ops (aput (aput t o.dst (.v undef)) o2.dst (.v undef)) o3))=true:=by kernel_rfl):ETri J w0 h t (wpList P ops Q (o::o2::o3::rest)):=by
 rw [Bool.and_eq_true] at hc
 exact qK_k (V2 H hc.2) hc.1
theorem V4 (H:ETri J w0 h (aput (aput (aput (aput t o.dst (.v undef)) o2.dst (.v undef)) o3.dst (.v undef)) o4.dst (.v undef)) (wpList P ops Q rest)) (hc:(kV1 ops t o&&(kV1 ops (aput t o.dst (.v undef)) o2&&(kV1 ops (aput (aput t o.dst (.v undef)) o2.dst (.v undef)) o3&&kV1 ops (aput (aput (aput t o.dst (.v undef)) o2.dst (.v undef)) o3.dst (.v undef)) o4)))=true:=by kernel_rfl):ETri J w0 h t (wpList P ops Q (o::o2::o3::o4::rest)):=by
 rw [Bool.and_eq_true] at hc
 exact qK_k (V3 H hc.2) hc.1
theorem V5 (H:ETri J w0 h (aput (aput (aput (aput (aput t o.dst (.v undef)) o2.dst (.v undef)) o3.dst (.v undef)) o4.dst (.v undef)) o5.dst (.v undef)) (wpList P ops Q rest)) (hc:(kV1 ops t o&&(kV1 ops (aput t o.dst (.v undef)) o2&&(kV1 ops (aput (aput t o.dst (.v undef)) o2.dst (.v undef)) o3&&(kV1 ops (aput (aput (aput t o.dst (.v undef)) o2.dst (.v undef)) o3.dst (.v undef)) o4&&kV1 ops (aput (aput (aput (aput t o.dst (.v undef)) o2.dst (.v undef)) o3.dst (.v undef)) o4.dst (.v undef)) o5))))=true:=by kernel_rfl):ETri J w0 h t (wpList P ops Q (o::o2::o3::o4::o5::rest)):=by
 rw [Bool.and_eq_true] at hc
 exact qK_k (V4 H hc.2) hc.1
end
def stepT (P:Program) (ops:Array Oper) (h:AHeap) (t:ATm) (o:Oper):ATm:=match awanted ops o t with
 | some true=>aput t o.dst ((opA P h t o.op).getD .any)
 | _=>aput t o.dst (.v undef)
def stepO (P:Program) (ops:Array Oper) (h:AHeap) (t:ATm) (o:Oper):Bool:=match awanted ops o t with
 | some true=>(opA P h t o.op).isSome
 | some false=>true
 | none=>false
def runT (P:Program) (ops:Array Oper) (h:AHeap):Nat->List Oper->ATm->ATm
 | 0,_,t=>t
 | _+1,[],t=>t
 | n+1,o::l,t=>runT P ops h n l (stepT P ops h t o)
def runO (P:Program) (ops:Array Oper) (h:AHeap):Nat->List Oper->ATm->Bool
 | 0,_,_=>true
 | _+1,[],_=>false
 | n+1,o::l,t=>stepO P ops h t o&&runO P ops h n l (stepT P ops h t o)
def stepC (ops:Array Oper) (h:AHeap) (t:ATm) (o:Oper) (u:AV):Cl:=match awanted ops o t with
 | some true=>opCl h t o.op u
 | _=>⟨[],[],.v undef,.no⟩
def runCl (P:Program) (ops:Array Oper) (h:AHeap):Nat->List Oper->ATm->List Cl
 | 0,_,_=>[]
 | _+1,[],_=>[]
 | n+1,o::l,t=>stepC ops h t o ((opA P h t o.op).getD .any)::runCl P ops h n l (stepT P ops h t o)
def stE (h:AHeap) (t:ATm):Op->Ef
 | .store _ x y=>match aev t x with
   | .box k off=>match h k with
     | some (.box T0 cs) => .st k (.box T0 (setAll cs off (aev t y).cellsOf))
     | _ => .no
   | _ => .no
 | _ => .no
def stX:Op->List Operand
 | .store _ x y=>[x,y]
 | _=>[]
def stR (h:AHeap) (t:ATm):Op->List (Nat × ABlk)
 | .store _ x _=>match aev t x with
   | .box k _=>match h k with
     | some Y=>[(k,Y)]
     | none=>[]
   | _=>[]
 | _=>[]
def stO (P:Program) (h:AHeap) (t:ATm):Op->Bool
 | .store T x y=>match aev t x with
   | .box k off=>match h k with
     | some (.box _ cs)=>match P.info? T with
       | some i=>(aev t y).cellsOf.all AV.cell&&(Nat.beq (aev t y).cellsOf.length i.size&&Nat.ble (off+i.size) cs.length)
       | none=>false
     | _=>false
   | _=>false
 | _=>false
theorem Za5 {o:Oper} (hc:stO P h t o.op=true):ASpec P J o ((stX o.op).map λx=>(x,aev t x)) (stR h t o.op) (.v undef) (stE h t o.op)/\RdL h (stR h t o.op)/\EfOk h (stE h t o.op)/\(stE h t o.op).slots t=t:=by
 generalize ho:o.op=p at hc ⊢
 cases p with
 | store T x y =>
   simp only [stO] at hc
   split at hc
   ·rename_i k off hx
    split at hc
    ·rename_i T0 cs hk
     split at hc
     ·rename_i i hi
      rw [Bool.and_eq_true,Bool.and_eq_true] at hc
      have e1:stE h t (.store T x y) = .st k (.box T0 (setAll cs off (aev t y).cellsOf)):=by simp only [stE,hx,hk]
      have e2:stR h t (.store T x y)=[(k,.box T0 cs)]:=by simp only [stR,hx,hk]
      rw [e1,e2]
      refine ⟨?_,⟨hk,trivial⟩,?_,rfl⟩
      ·show ASpec P J o [(x,aev t x),(y,aev t y)] _ _ _
       rw [hx]
       exact Yo x y ho (by rw [hi];rfl) hc.1 (Nat.eq_of_beq_eq_true hc.2.1) (Nat.le_of_ble_eq_true hc.2.2) rfl
      show (h k).isSome=true
      rw [hk];rfl
     cases hc
    cases hc
   cases hc
 | _=>cases hc
theorem oY (H:ETri J w0 ((stE h t o.op).heap h) (aput t o.dst (.v undef)) (wpList P ops Q rest)) (hc:stO P h t o.op=true:=by kernel_rfl) (hg:awanted ops o t=some true:=by kernel_rfl):ETri J w0 h t (wpList P ops Q (o::rest)) :=
 KA hg (Za5 hc).1 (WL _) (Za5 (J:=J) hc).2.1 (Za5 (J:=J) hc).2.2.1 (by rw [(Za5 (J:=J) hc).2.2.2];exact H)
theorem dY (H:chainC P J ops Ψ rest cs ((stE h t o.op).heap h) (aput t o.dst (.v undef))) (hc:stO P h t o.op=true:=by kernel_rfl) (hg:awanted ops o t=some true:=by kernel_rfl):chainC P J ops Ψ (o::rest) (⟨(stX o.op).map λx=>(x,aev t x),stR h t o.op,.v undef,stE h t o.op⟩::cs) h t :=
 dR (Za5 hc).1 (WL _) (Za5 (J:=J) hc).2.1 (Za5 (J:=J) hc).2.2.1 (by rw [(Za5 (J:=J) hc).2.2.2];exact H) hg
theorem dS (u:AV) (H:chainC P J ops Ψ rest cs h (aput t o.dst u)) (hc:opA P h t o.op=some u:=by kernel_rfl) (hg:awanted ops o t=some true:=by kernel_rfl):chainC P J ops Ψ (o::rest) (opCl h t o.op u::cs) h t :=
 dR (opA_sp hc).1 (WL _) (opA_sp (J:=J) hc).2 trivial H hg
theorem dW (H:chainC P J ops Ψ rest cs h (aput t o.dst ((opA P h t o.op).getD .any))) (hc:(opA P h t o.op).isSome=true:=by kernel_rfl) (hg:awanted ops o t=some true:=by kernel_rfl):chainC P J ops Ψ (o::rest) (opCl h t o.op ((opA P h t o.op).getD .any)::cs) h t :=
 dS _ H (getD_of hc) hg
theorem dN1 {t:ATm} {o:Oper} {rest:List Oper} {cs:List Cl} (H:chainC P J ops Ψ rest cs h (stepT P ops h t o)) (hc:stepO P ops h t o=true):chainC P J ops Ψ (o::rest) (stepC ops h t o ((opA P h t o.op).getD .any)::cs) h t:=by
 unfold stepT at H
 unfold stepO at hc
 unfold stepC
 cases hw:awanted ops o t with
 | none=>rw [hw] at hc;cases hc
 | some b =>
   rw [hw] at H hc
   cases b with
   | false=>exact dK H hw
   | true=>exact dW H hc hw
theorem dr (n:Nat) {l:List Oper} {t:ATm} {cs:List Cl} (H:chainC P J ops Ψ (l.drop n) cs h (runT P ops h n l t)) (hc:runO P ops h n l t=true:=by kernel_rfl):chainC P J ops Ψ l (runCl P ops h n l t++cs) h t:=by
 induction n generalizing l t with
 | zero=>exact H
 | succ n ih =>
   cases l with
   | nil=>cases hc
   | cons o l =>
     have hc':(stepO P ops h t o&&runO P ops h n l (stepT P ops h t o))=true:=hc
     rw [Bool.and_eq_true] at hc'
     exact dN1 (ih (l:=l) (t:=stepT P ops h t o) H hc'.2) hc'.1
def cmpA (t:ATm) (x y:Operand):Option (Int × Int):=match aev t x,aev t y with
 | .v (.int k a),.v (.int k' b)=>if k=k' then some (a,b) else none
 | _,_=>none
theorem KQ {x y:Operand} {a b:Int} (hc:cmpA t x y=some (a,b)):∃ k,aev t x = .v (.int k a)/\aev t y = .v (.int k b):=by
 unfold cmpA at hc
 split at hc
 ·rename_i k a' k' b' h1 h2
  split at hc
  ·rename_i e
   subst e
   have:=Option.some.inj hc
   cases this
   exact ⟨_,h1,h2⟩
  cases hc
 cases hc
variable {S ty ty':TypeId} {x y:Operand} {d:Option Tmp} {ps:String} {af:Array Edge} {gd:Option (Nat × Bool)} {a b:Int} {r:Bool}
theorem oe (hr:decide (a=b)=r) (H:ETri J w0 h (aput t d (.v (.bool r))) (wpList P ops Q rest)) (hc:cmpA t x y=some (a,b):=by kernel_rfl) (hg:awanted ops ⟨d,.binOp .eql S x y ty,ty',ps,af,gd⟩ t=some true:=by kernel_rfl):ETri J w0 h t (wpList P ops Q (⟨d,.binOp .eql S x y ty,ty',ps,af,gd⟩::rest)):=by
 obtain ⟨k,h1,h2⟩:=KQ hc
 exact KA hg (ZH rfl hr) ⟨.inl h1,.inl h2,trivial⟩ trivial trivial H
theorem de (hr:decide (a=b)=r) (H:chainC P J ops Ψ rest cs h (aput t d (.v (.bool r)))) (hc:cmpA t x y=some (a,b):=by kernel_rfl) (hg:awanted ops ⟨d,.binOp .eql S x y ty,ty',ps,af,gd⟩ t=some true:=by kernel_rfl):chainC P J ops Ψ (⟨d,.binOp .eql S x y ty,ty',ps,af,gd⟩::rest) (⟨[(x,aev t x),(y,aev t y)],[],.v (.bool r),.no⟩::cs) h t:=by
 obtain ⟨k,h1,h2⟩:=KQ hc
 refine dR ?_ ⟨I0,I0,trivial⟩ trivial trivial H hg
 rw [h1,h2];exact ZH rfl hr
theorem on (hr:decide (a=b) = !r) (H:ETri J w0 h (aput t d (.v (.bool r))) (wpList P ops Q rest)) (hc:cmpA t x y=some (a,b):=by kernel_rfl) (hg:awanted ops ⟨d,.binOp .neq S x y ty,ty',ps,af,gd⟩ t=some true:=by kernel_rfl):ETri J w0 h t (wpList P ops Q (⟨d,.binOp .neq S x y ty,ty',ps,af,gd⟩::rest)):=by
 obtain ⟨k,h1,h2⟩:=KQ hc
 exact KA hg (Yg rfl hr) ⟨.inl h1,.inl h2,trivial⟩ trivial trivial H
theorem dn (hr:decide (a=b) = !r) (H:chainC P J ops Ψ rest cs h (aput t d (.v (.bool r)))) (hc:cmpA t x y=some (a,b):=by kernel_rfl) (hg:awanted ops ⟨d,.binOp .neq S x y ty,ty',ps,af,gd⟩ t=some true:=by kernel_rfl):chainC P J ops Ψ (⟨d,.binOp .neq S x y ty,ty',ps,af,gd⟩::rest) (⟨[(x,aev t x),(y,aev t y)],[],.v (.bool r),.no⟩::cs) h t:=by
 obtain ⟨k,h1,h2⟩:=KQ hc
 refine dR ?_ ⟨I0,I0,trivial⟩ trivial trivial H hg
 rw [h1,h2];exact Yg rfl hr
theorem ol (hr:decide (a<b)=r) (H:ETri J w0 h (aput t d (.v (.bool r))) (wpList P ops Q rest)) (hc:cmpA t x y=some (a,b):=by kernel_rfl) (hg:awanted ops ⟨d,.binOp .lss S x y ty,ty',ps,af,gd⟩ t=some true:=by kernel_rfl):ETri J w0 h t (wpList P ops Q (⟨d,.binOp .lss S x y ty,ty',ps,af,gd⟩::rest)):=by
 obtain ⟨k,h1,h2⟩:=KQ hc
 exact KA hg (Zcq rfl hr) ⟨.inl h1,.inl h2,trivial⟩ trivial trivial H
theorem dl (hr:decide (a<b)=r) (H:chainC P J ops Ψ rest cs h (aput t d (.v (.bool r)))) (hc:cmpA t x y=some (a,b):=by kernel_rfl) (hg:awanted ops ⟨d,.binOp .lss S x y ty,ty',ps,af,gd⟩ t=some true:=by kernel_rfl):chainC P J ops Ψ (⟨d,.binOp .lss S x y ty,ty',ps,af,gd⟩::rest) (⟨[(x,aev t x),(y,aev t y)],[],.v (.bool r),.no⟩::cs) h t:=by
 obtain ⟨k,h1,h2⟩:=KQ hc
 refine dR ?_ ⟨I0,I0,trivial⟩ trivial trivial H hg
 rw [h1,h2];exact Zcq rfl hr
theorem oq (hr:decide (a<=b)=r) (H:ETri J w0 h (aput t d (.v (.bool r))) (wpList P ops Q rest)) (hc:cmpA t x y=some (a,b):=by kernel_rfl) (hg:awanted ops ⟨d,.binOp .leq S x y ty,ty',ps,af,gd⟩ t=some true:=by kernel_rfl):ETri J w0 h t (wpList P ops Q (⟨d,.binOp .leq S x y ty,ty',ps,af,gd⟩::rest)):=by
 obtain ⟨k,h1,h2⟩:=KQ hc
 exact KA hg (sp_leq rfl hr) ⟨.inl h1,.inl h2,trivial⟩ trivial trivial H
theorem og (hr:decide (b<a)=r) (H:ETri J w0 h (aput t d (.v (.bool r))) (wpList P ops Q rest)) (hc:cmpA t x y=some (a,b):=by kernel_rfl) (hg:awanted ops ⟨d,.binOp .gtr S x y ty,ty',ps,af,gd⟩ t=some true:=by kernel_rfl):ETri J w0 h t (wpList P ops Q (⟨d,.binOp .gtr S x y ty,ty',ps,af,gd⟩::rest)):=by
 obtain ⟨k,h1,h2⟩:=KQ hc
 exact KA hg (WC rfl hr) ⟨.inl h1,.inl h2,trivial⟩ trivial trivial H
theorem dg (hr:decide (b<a)=r) (H:chainC P J ops Ψ rest cs h (aput t d (.v (.bool r)))) (hc:cmpA t x y=some (a,b):=by kernel_rfl) (hg:awanted ops ⟨d,.binOp .gtr S x y ty,ty',ps,af,gd⟩ t=some true:=by kernel_rfl):chainC P J ops Ψ (⟨d,.binOp .gtr S x y ty,ty',ps,af,gd⟩::rest) (⟨[(x,aev t x),(y,aev t y)],[],.v (.bool r),.no⟩::cs) h t:=by
 obtain ⟨k,h1,h2⟩:=KQ hc
 refine dR ?_ ⟨I0,I0,trivial⟩ trivial trivial H hg
 rw [h1,h2];exact WC rfl hr
theorem oh (hr:decide (b<=a)=r) (H:ETri J w0 h (aput t d (.v (.bool r))) (wpList P ops Q rest)) (hc:cmpA t x y=some (a,b):=by kernel_rfl) (hg:awanted ops ⟨d,.binOp .geq S x y ty,ty',ps,af,gd⟩ t=some true:=by kernel_rfl):ETri J w0 h t (wpList P ops Q (⟨d,.binOp .geq S x y ty,ty',ps,af,gd⟩::rest)):=by
 obtain ⟨k,h1,h2⟩:=KQ hc
 exact KA hg (ZbD rfl hr) ⟨.inl h1,.inl h2,trivial⟩ trivial trivial H
theorem dh (hr:decide (b<=a)=r) (H:chainC P J ops Ψ rest cs h (aput t d (.v (.bool r)))) (hc:cmpA t x y=some (a,b):=by kernel_rfl) (hg:awanted ops ⟨d,.binOp .geq S x y ty,ty',ps,af,gd⟩ t=some true:=by kernel_rfl):chainC P J ops Ψ (⟨d,.binOp .geq S x y ty,ty',ps,af,gd⟩::rest) (⟨[(x,aev t x),(y,aev t y)],[],.v (.bool r),.no⟩::cs) h t:=by
 obtain ⟨k,h1,h2⟩:=KQ hc
 refine dR ?_ ⟨I0,I0,trivial⟩ trivial trivial H hg
 rw [h1,h2];exact ZbD rfl hr
theorem oU (c:Int) (H:ETri J w0 h (aput t d (.v (.int .i64 c))) (wpList P ops Q rest)) (h1:aev t x = .v (.int .i64 a):=by rfl) (h2:aev t y = .v (.int .i64 b):=by rfl) (hc:a-b=c:=by omega) (l1 : -9223372036854775808<=c:=by omega) (l2:c<=9223372036854775807:=by omega) (hg:awanted ops ⟨d,.binOp .sub S x y ty,ty',ps,af,gd⟩ t=some true:=by kernel_rfl):ETri J w0 h t (wpList P ops Q (⟨d,.binOp .sub S x y ty,ty',ps,af,gd⟩::rest)) :=
 KA hg (Kh rfl (w64 hc l1 l2)) ⟨.inl h1,.inl h2,trivial⟩ trivial trivial H
theorem oV (c:Int) (H:ETri J w0 h (aput t d (.v (.int .i64 c))) (wpList P ops Q rest)) (h1:aev t x = .v (.int .i64 a):=by rfl) (h2:aev t y = .v (.int .i64 b):=by rfl) (hc:a+b=c:=by omega) (l1 : -9223372036854775808<=c:=by omega) (l2:c<=9223372036854775807:=by omega) (hg:awanted ops ⟨d,.binOp .add S x y ty,ty',ps,af,gd⟩ t=some true:=by kernel_rfl):ETri J w0 h t (wpList P ops Q (⟨d,.binOp .add S x y ty,ty',ps,af,gd⟩::rest)) :=
 KA hg (WH rfl (w64 hc l1 l2)) ⟨.inl h1,.inl h2,trivial⟩ trivial trivial H
theorem Zds {t:ATm}:∀ {xs:List Operand} {Xs:List AV},xs.map (aev t)=Xs->FitsL t (xs.zip Xs)
 | [],_,_=>trivial
 | x::xs,_,rfl=>⟨I0,Zds rfl⟩
variable {f:FuncId}{Ys:List AV}{U:AV}
theorem oK {xs:Array Operand} {ats:Array TypeId} (hC:Ctr P J f Ys u) (Xs:List AV) (hv:Xs.map (AV.view [])=Ys) (hU:u.res=U) (H:ETri J w0 h (aput t d U) (wpList P ops Q rest)) (ha:xs.toList.map (aev t)=Xs:=by kernel_rfl)
 (hf : (P.funcs[f]?).map (λfn => (fn.name == "runtime.NumGoroutine") || fn.body.isNone) = some false := by kernel_rfl) (hfl : Xs.all AV.flat2 = true := by kernel_rfl) (hg : awanted ops ⟨d, .call { callee := .value (.func f), args := xs, argTypes := ats }, ty', ps, af, gd⟩ t = some true := by kernel_rfl) :
 ETri J w0 h t (wpList P ops Q (⟨d,.call { callee := .value (.func f),args:=xs,argTypes:=ats },ty',ps,af,gd⟩::rest)) :=
 KA hg (Ze3 [] hC rfl hf (by rw [<- ha];simp) hv hfl hU) ⟨I0,Zds ha⟩ trivial trivial H
theorem dk {xs:Array Operand} {ats:Array TypeId} (hC:Ctr P J f Ys u) (Xs:List AV) (hv:Xs.map (AV.view [])=Ys) (hU:u.res=U) (H:chainC P J ops Ψ rest cs h (aput t d U)) (ha:xs.toList.map (aev t)=Xs:=by kernel_rfl)
 (hf : (P.funcs[f]?).map (λfn => (fn.name == "runtime.NumGoroutine") || fn.body.isNone) = some false := by kernel_rfl) (hfl : Xs.all AV.flat2 = true := by kernel_rfl) (hg : awanted ops ⟨d, .call { callee := .value (.func f), args := xs, argTypes := ats }, ty', ps, af, gd⟩ t = some true := by kernel_rfl) :
 chainC P J ops Ψ (⟨d,.call { callee := .value (.func f),args:=xs,argTypes:=ats },ty',ps,af,gd⟩::rest) (⟨(.func f,.v (.func (.func f) #[] #[]))::xs.toList.zip Xs,[],U,.no⟩::cs) h t :=
 dR (Ze3 [] hC rfl hf (by rw [<- ha];simp) hv hfl hU) ⟨I0,Zds ha⟩ trivial trivial H hg
theorem oZ (k:Nat) (z:Value) (H:ETri J w0 (λj=>if j=k then some (.box S (z.cells.toList.map AV.v)) else h j) (aput t d (.box k 0)) (wpList P ops Q rest)) (hz:(P.info? S).bind (·.zero)=some z:=by kernel_rfl) (hk:((h k).isNone&&Nat.blt k hand)=true:=by kernel_rfl) (hg:awanted ops ⟨d,.alloc S,ty',ps,af,gd⟩ t=some true:=by kernel_rfl) :
 ETri J w0 h t (wpList P ops Q (⟨d,.alloc S,ty',ps,af,gd⟩::rest)) :=
 KA hg (sp_alloc rfl hz) trivial trivial hk H
theorem dz (k:Nat) (z:Value) (H:chainC P J ops Ψ rest cs (λj=>if j=k then some (.box S (z.cells.toList.map AV.v)) else h j) (aput t d (.box k 0))) (hz:(P.info? S).bind (·.zero)=some z:=by kernel_rfl) (hk:((h k).isNone&&Nat.blt k hand)=true:=by kernel_rfl) (hg:awanted ops ⟨d,.alloc S,ty',ps,af,gd⟩ t=some true:=by kernel_rfl) :
 chainC P J ops Ψ (⟨d,.alloc S,ty',ps,af,gd⟩::rest) (⟨[],[],.box k 0,.new k (.box S (z.cells.toList.map AV.v))⟩::cs) h t :=
 dR (sp_alloc rfl hz) trivial trivial hk H hg
def ldS (P:Program) (T:TypeId):Bool:=match P.underlying T with
 | some d => !d.isRow
 | none=>false
variable {T:TypeId}
theorem ldS_sp (h:ldS P T=true):∃ d,P.underlying T=some d/\d.isRow=false:=by
 unfold ldS at h
 split at h
 ·rename_i d hd;exact ⟨d,hd,by simpa using h⟩
 cases h
variable {ds:List AV}{off:Nat}
theorem oL (X:AV) (pf:ds[off]? = some X) (H:ETri J w0 h (aput t d X) (wpList P ops Q rest)) (hx:aev t x = .el ds off:=by kernel_rfl) (hd:ldS P S=true:=by kernel_rfl) (hg:awanted ops ⟨d,.load S x,ty',ps,af,gd⟩ t=some true:=by kernel_rfl):ETri J w0 h t (wpList P ops Q (⟨d,.load S x,ty',ps,af,gd⟩::rest)):=by
 obtain ⟨D,h1,h2⟩:=ldS_sp hd
 exact KA hg (WR x rfl h1 h2 pf) ⟨.inl hx,trivial⟩ trivial trivial H
theorem dL (X:AV) (pf:ds[off]? = some X) (H:chainC P J ops Ψ rest cs h (aput t d X)) (hx:aev t x = .el ds off:=by kernel_rfl) (hd:ldS P S=true:=by kernel_rfl) (hg:awanted ops ⟨d,.load S x,ty',ps,af,gd⟩ t=some true:=by kernel_rfl):chainC P J ops Ψ (⟨d,.load S x,ty',ps,af,gd⟩::rest) (⟨[(x,.el ds off)],[],X,.no⟩::cs) h t:=by
 obtain ⟨D,h1,h2⟩:=ldS_sp hd
 exact dR (WR x rfl h1 h2 pf) ⟨.inl hx,trivial⟩ trivial trivial H hg
theorem oX (k:Nat) (X:AV) (H:ETri J w0 (λj=>if j=k then some (.box S X.cellsOf) else h j) (aput t d (.box k 0)) (wpList P ops Q rest)) (hx:aev t x=X:=by kernel_rfl) (hX:X.cellsOf.all AV.cell=true:=by kernel_rfl) (hk:((h k).isNone&&Nat.blt k hand)=true:=by kernel_rfl) (hg:awanted ops ⟨d,.box S x,ty',ps,af,gd⟩ t=some true:=by kernel_rfl) :
 ETri J w0 h t (wpList P ops Q (⟨d,.box S x,ty',ps,af,gd⟩::rest)) :=
 KA hg (sp_box x rfl hX) ⟨.inl hx,trivial⟩ trivial hk H
end
section
variable {P:Program} {w0:Wb} {h:AHeap} {t:ATm} {Q:Exit->Act->World->Prop} {p:Prop} {ops:Array Oper}
variable {n:Nat}
theorem tM {L:List (Nat × ABlk)} {T:List (Nat × AV)} (hp:p) (hn:t.n=n:=by rfl) (hL:L.map (λp=>(h p.1).map (ABlk.wk (keepL L) h))=L.map (λp=>some p.2):=by kernel_rfl) (hT:T.map (λp=>(t.f p.1).wk3 (keepL L) h)=T.map (·.2):=by kernel_rfl):ETri J w0 h t (CutQ J w0 p (ofL L) (ofT n T) Q .normal):=YN hp (Zk L T hn hL hT)
theorem eD (H:ETri J w0 h t (Q .normal)):chainC P J ops (λh t=>ETri J w0 h t (Q .normal)) [] [] h t:=H
theorem tD {id:Nat} {l:List Oper} {cl:List Cl} (H:chainC P J l.toArray (λh t=>ETri J w0 h t (Q .normal)) l cl h t) (hB:fastC l.toArray l cl 0 []=true:=by kernel_rfl) (hm:P.follows .mixedOrders=true:=by kernel_rfl):ETri J w0 h t ((Code.region id l.toArray true).wp P Q):=tri_drawM H hB hm
end
theorem pZ:∀ X∈([]:List AV),Plain X:=λ_ h=>by cases h
theorem pN {l:List AV} (h:Plain X) (H:∀ Y∈l,Plain Y):∀ Y∈X::l,Plain Y:=λY hY=>by
 rcases List.mem_cons.1 hY with rfl | hY
 ·exact h
 exact H Y hY
variable {z:Nat}
theorem fT {α:Type} {f:α->List AV} (hz:∀ x,(f x).length=z) (xs:List α) (i j:Nat) (h:i<xs.length:=by omega) (hX:(f xs[i])[j]? = some X:=by rfl) (hj:j<z:=by decide):(xs.flatMap f)[i*z+j]? = some X:=(Wd hz xs i j h hj).trans hX
theorem cB {a b:Bool} (h:a=b):AV.v (.bool a)=AV.v (.bool b):=congrArg (λx:Bool=>AV.v (.bool x)) h
section
variable {P:Program} {w0:Wb} {h:AHeap} {t:ATm} {Q Q2:Exit->Act->World->Prop} {ops:Array Oper} {K K2:Act->World->Prop} {x y z:Code} {l:List Oper} {id:Nat} {c:Operand}
theorem jA (H:ETri J w0 h t K):ETri J w0 h t (wpList P ops (Exit.then K Q) []):=ZL (Zf H)
theorem jB (H:ETri J w0 h t (wpList P l.toArray (Exit.then (z.wp P Q) Q) l)):ETri J w0 h t ((Code.seq (.region id l.toArray false) z).wp P Q):=Zi (Za H)
theorem jC (H:ETri J w0 h t (y.wp P (Exit.then (z.wp P Q) Q))):ETri J w0 h t (Exit.then ((Code.seq y z).wp P Q) Q2 .normal):=Zf (Zi H)
theorem jD (H:ETri J w0 h t (y.wp P (Exit.then (z.wp P Q) Q))):ETri J w0 h t (wpList P ops (Exit.then ((Code.seq y z).wp P Q) Q2) []):=ZL (Zf (Zi H))
theorem jE (H:ETri J w0 h t (Q .ret)):ETri J w0 h t (wpList P ops (Exit.then (Code.ret.wp P Q) Q2) []):=ZL (Zf (ZQ H))
theorem jF (H:ETri J w0 h t K) (hc:aev t c = .v (.bool false):=by rfl):ETri J w0 h t (wpList P ops (Exit.then ((Code.cond c x .skip).wp P (Exit.then K Q)) Q2) []):=ZL (Zf (Zu hc (Zj (Zf H))))
theorem jG (H:ETri J w0 h t (wpList P l.toArray (Exit.then (z.wp P Q) Q) l)) (hc:aev t c = .v (.bool true):=by rfl):ETri J w0 h t (wpList P ops (Exit.then ((Code.cond c (.seq (.region id l.toArray false) z) x).wp P Q) Q2) []):=ZL (Zf (ZM hc (Zi (Za H))))
theorem jH (H:ETri J w0 h t (y.wp P Q)) (hc:aev t c = .v (.bool true):=by rfl):ETri J w0 h t (wpList P ops (Exit.then ((Code.cond c y x).wp P Q) Q2) []):=ZL (Zf (ZM hc H))
theorem jI (H:ETri J w0 h t (x.wp P Q)) (hc:aev t c = .v (.bool false):=by rfl):ETri J w0 h t (wpList P ops (Exit.then ((Code.cond c y x).wp P Q) Q2) []):=ZL (Zf (Zu hc H))
theorem jJ (H:ETri J w0 h t K) (hc:aev t c = .v (.bool false):=by rfl):ETri J w0 h t (Exit.then ((Code.cond c x .skip).wp P (Exit.then K Q)) Q2 .normal):=Zf (Zu hc (Zj (Zf H)))
theorem jK (H:ETri J w0 h t (wpList P l.toArray (Exit.then (z.wp P Q) Q) l)) (hc:aev t c = .v (.bool true):=by rfl):ETri J w0 h t ((Code.cond c (.seq (.region id l.toArray false) z) x).wp P Q):=ZM hc (Zi (Za H))
theorem jL (H:ETri J w0 h t K) (hc:aev t c = .v (.bool false):=by rfl):ETri J w0 h t ((Code.cond c x .skip).wp P (Exit.then K Q)):=Zu hc (Zj (Zf H))
theorem jM (H:ETri J w0 h t (x.wp P (Exit.then (y.wp P (Exit.then (z.wp P Q) Q)) (Exit.then (z.wp P Q) Q)))):ETri J w0 h t ((Code.seq (.seq x y) z).wp P Q):=Zi (Zi H)
theorem jN (H:ETri J w0 h t (Q .ret)):ETri J w0 h t (Code.ret.wp P (Exit.then K Q)):=ZQ (Zb H)
theorem jO (H:ETri J w0 h t (Q .normal)):ETri J w0 h t ((Code.exit id).wp P (Exit.then K (Exit.then K2 (Exit.inBlock id Q)))):=KR (ZS (ZS (ZdP H)))
end
abbrev nz:AV := .v (.slice none 0 0)
abbrev bx (k:Nat):AV := .box k 0
theorem U3:type_of% underlying3:=underlying3
theorem U4:type_of% underlying4:=underlying4
theorem U9:type_of% underlying9:=underlying9
theorem U22:type_of% underlying22:=underlying22
theorem U23:type_of% underlying23:=underlying23
theorem U24:type_of% underlying24:=underlying24
theorem U25:type_of% underlying25:=underlying25
theorem U27:type_of% underlying27:=underlying27
theorem U28:type_of% underlying28:=underlying28
theorem U30:type_of% underlying30:=underlying30
theorem U32:type_of% underlying32:=underlying32
theorem U36:type_of% underlying36:=underlying36
theorem U37:type_of% underlying37:=underlying37
theorem U50:type_of% underlying50:=underlying50
theorem U58:type_of% underlying58:=underlying58
theorem U60:type_of% underlying60:=underlying60
theorem U62:type_of% underlying62:=underlying62
theorem U67:type_of% underlying67:=underlying67
theorem U72:type_of% underlying72:=underlying72
theorem U77:type_of% underlying77:=underlying77
theorem U79:type_of% underlying79:=underlying79
theorem U82:type_of% underlying82:=underlying82
theorem U84:type_of% underlying84:=underlying84
theorem U87:type_of% underlying87:=underlying87
theorem U93:type_of% underlying93:=underlying93
theorem U94:type_of% underlying94:=underlying94
theorem U95:type_of% underlying95:=underlying95
theorem U116:type_of% underlying116:=underlying116
theorem U118:type_of% underlying118:=underlying118
theorem U161:type_of% underlying161:=underlying161
abbrev Z27:Value := .agg #[.string (⟨#[]⟩),.int .i64 0,.slice none 0 0,.slice none 0 0,.slice none 0 0,.int .i64 0,.slice none 0 0,.slice none 0 0,.slice none 0 0,.slice none 0 0]
abbrev Z36:Value := .agg #[.slice none 0 0,.slice none 0 0,.int .i64 0,.slice none 0 0,.slice none 0 0,.int .i64 0]
abbrev Z60:Value := .agg #[.int .i64 0,.int .i64 0,.int .i64 0]
abbrev Z62:Value := .agg #[.int .i64 0,.int .i64 0,.int .i64 0,.int .i64 0,.int .i64 0,.int .i64 0,.int .i64 0,.int .i64 0,.int .i64 0,.int .i64 0,.int .i64 0,.int .i64 0,.int .i64 0,.int .i64 0,.int .i64 0,.int .i64 0]
abbrev Z67:Value := .agg #[.int .i64 0,.int .i64 0,.int .i64 0]
abbrev Z79:Value := .agg #[.string (⟨#[]⟩),.int .i64 0,.int .i64 0,.int .i64 0,.int .i64 0,.int .i64 0,.slice none 0 0,.slice none 0 0,.slice none 0 0,.slice none 0 0,.int .i64 0,.int .i64 0,.slice none 0 0,.int .i64 0,.slice none 0 0,.slice none 0 0,.slice none 0 0,.int .i64 0]
abbrev Z82:Value := .agg #[.slice none 0 0,.int .i64 0]
abbrev Z84:Value := .agg #[.int .i64 0,.int .i64 0,.int .i64 0]
abbrev Z116:Value := .agg #[.int .i64 0,.int .i64 0,.int .i64 0,.int .i64 0]
abbrev Z118:Value := .agg #[.int .i64 0,.int .i64 0,.int .i64 0,.int .i64 0,.int .i64 0,.int .i64 0]
set_option maxRecDepth 100000 in
set_option maxHeartbeats 6400000 in
theorem ZcX (xs:List Int) (hx:xs.length<=17592186044416):Ctr Tryz.prog J 83 [Zc xs] (Zc xs):=by
 refine Zn func83 rfl (by intro X hX;simp at hX;subst hX;exact Zx _) (n:=6) rfl (by simp)<|λw0 => ?_
 refine jB<|oS (nz)<|jD<|Za<|YA rfl (Zaw (z:=1) (k:=1) true rfl U24<|by kernel_rfl) T0 T0 rfl<|oS (Zc xs)<|YA rfl (K1 (n:=0) (cs:=[]) (fr:=true) (m:=xs.length) (ds:=(xs.map iv)) (⟨U24,by kernel_rfl,by decide⟩:Elt Tryz.prog 24 3 1 8) (.tmp 3) (.tmp 4) rfl (λ_ d hd=>by obtain ⟨x,_,rfl⟩:=List.mem_map.1 hd;rfl) (by unfold maxLen;omega) (by omega) (λd hd=>by obtain ⟨x,_,rfl⟩:=List.mem_map.1 hd;rfl) (es:=(xs.map iv))<|by rw [Zby];rfl) ⟨I0,I0,T0⟩ ⟨rfl,T0⟩ rfl<|oS (.own 1)<|jE ?_
 refine Zd results83 (.tmp rfl) ?_
 show AV.sl 1 (0+xs.length) (xs.map iv)=Zc xs
 rw [Nat.zero_add];rfl
structure RuLen (r:Ru):Prop where
 resp:r.resp.length<=17592186044416
 gz:r.gz.length<=1000000000
 ex:r.ex.length<=17592186044416
 fa:r.fa.length<=17592186044416
 send:r.send.length<=17592186044416
 left:r.left.length<=17592186044416
 right:r.right.length<=17592186044416
 pz:r.pz.length<=17592186044416
end Go.Proofs.YtmpgnibfhjdfpaaGreat
