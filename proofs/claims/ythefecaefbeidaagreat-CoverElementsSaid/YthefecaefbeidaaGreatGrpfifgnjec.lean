import Derived.Laws.MakeOwn
import Derived.Test.YthefecaefbeidaaGreatGrpcdkhhigo
import Derived.Test.YthefecaefbeidaaGreatGrpgojjocei
set_option linter.all false
namespace Go.Proofs.YthefecaefbeidaaGreat
open Go.RowKit Go.Deep
inductive Tr (α:Type) where
 | lf
 | nd (v:Option α) (l r:Tr α)
namespace Tr
variable {α:Type}
def val:Tr α→Option α
 | .lf=>none
 | .nd v _ _=>v
def left:Tr α→Tr α
 | .lf => .lf
 | .nd _ l _=>l
def right:Tr α→Tr α
 | .lf => .lf
 | .nd _ _ r=>r
def getF (n:Nat):Tr α→Nat→Option α:=Nat.rec (motive:=fun _=>Tr α→Nat→Option α) (fun _ _=>none)
 (fun _ ih t k=>Tr.casesOn (motive:=fun _=>Option α) t none fun v l r=>Nat.casesOn (motive:=fun _=>Option α) k v fun j=>Bool.casesOn (motive:=fun _=>Option α) (Nat.beq (Nat.mod j 2) 0) (ih r (Nat.div j 2)) (ih l (Nat.div j 2))) n
def get (t:Tr α) (k:Nat):Option α:=getF (Nat.succ k) t k
def setF (n:Nat):Tr α→Nat→Option α→Tr α:=Nat.rec (motive:=fun _=>Tr α→Nat→Option α→Tr α) (fun t _ _=>t)
 (fun _ ih t k x=>Tr.casesOn (motive:=fun _=>Tr α) t
  (Nat.casesOn (motive:=fun _=>Tr α) k (.nd x .lf .lf) (fun j=>Bool.casesOn (motive:=fun _=>Tr α) (Nat.beq (Nat.mod j 2) 0) (.nd none .lf (ih .lf (Nat.div j 2) x)) (.nd none (ih .lf (Nat.div j 2) x) .lf)))
  (fun v l r=>Nat.casesOn (motive:=fun _=>Tr α) k (.nd x l r) (fun j=>Bool.casesOn (motive:=fun _=>Tr α) (Nat.beq (Nat.mod j 2) 0) (.nd v l (ih r (Nat.div j 2) x)) (.nd v (ih l (Nat.div j 2) x) r)))) n
def set (t:Tr α) (k:Nat) (x:Option α):Tr α:=setF (Nat.succ k) t k x
theorem Zaq (n:Nat) (t:Tr α):getF (n+1) t 0=t.val:=by cases t<;>rfl
theorem Zar (n:Nat) (t:Tr α) (j:Nat):getF (n+1) t (j+1)=if j % 2=0 then getF n t.left (j / 2) else getF n t.right (j / 2):=by
 have lf:∀ n k,getF n (Tr.lf:Tr α) k=none:=fun n k=>by cases n<;>rfl
 cases t with
 | lf =>
   show none=_
   split
   ·exact (lf _ _).symm
   exact (lf _ _).symm
 | nd v l r =>
   show Bool.casesOn (motive:=fun _=>Option α) (Nat.beq (Nat.mod j 2) 0) (getF n r (Nat.div j 2)) (getF n l (Nat.div j 2))=_
   cases h:Nat.beq (Nat.mod j 2) 0 with
   | true =>
     have e:j % 2=0:=Nat.eq_of_beq_eq_true h
     rw [if_pos e];rfl
   | false =>
     have e:¬ j % 2=0:=Nat.ne_of_beq_eq_false h
     rw [if_neg e];rfl
theorem Wp:∀ (n m:Nat) (t:Tr α) (k:Nat),k<n→k<m→getF n t k=getF m t k
 | 0,_,_,_,h,_=>by omega
 | _+1,0,_,_,_,h=>by omega
 | n+1,m+1,t,0,_,_=>by rw [Zaq,Zaq]
 | n+1,m+1,t,k+1,h1,h2=>by
   rw [Zar,Zar,Wp n m t.left (k / 2) (by omega) (by omega),Wp n m t.right (k / 2) (by omega) (by omega)]
theorem get_lf (k:Nat):(Tr.lf:Tr α).get k=none:=rfl
theorem get_zero (t:Tr α):t.get 0=t.val:=Zaq 0 t
theorem WZ (t:Tr α) (j:Nat):t.get (j+1)=if j % 2=0 then t.left.get (j / 2) else t.right.get (j / 2):=by
 unfold get
 rw [Zar,Wp (j+1) (j / 2+1) _ _ (by omega) (by omega),Wp (j+1) (j / 2+1) t.right _ (by omega) (by omega)]
theorem setF_zero (n:Nat) (t:Tr α) (x:Option α):setF (n+1) t 0 x = .nd x t.left t.right:=by cases t<;>rfl
theorem setF_succ (n:Nat) (t:Tr α) (j:Nat) (x:Option α):setF (n+1) t (j+1) x=if j % 2=0 then .nd t.val (setF n t.left (j / 2) x) t.right else .nd t.val t.left (setF n t.right (j / 2) x):=by
 cases t with
 | lf =>
   show Bool.casesOn (motive:=fun _=>Tr α) (Nat.beq (Nat.mod j 2) 0) (.nd none .lf (setF n .lf (Nat.div j 2) x)) (.nd none (setF n .lf (Nat.div j 2) x) .lf)=_
   cases h:Nat.beq (Nat.mod j 2) 0 with
   | true =>
     have e:j % 2=0:=Nat.eq_of_beq_eq_true h
     rw [if_pos e];rfl
   | false =>
     have e:¬ j % 2=0:=Nat.ne_of_beq_eq_false h
     rw [if_neg e];rfl
 | nd v l r =>
   show Bool.casesOn (motive:=fun _=>Tr α) (Nat.beq (Nat.mod j 2) 0) (.nd v l (setF n r (Nat.div j 2) x)) (.nd v (setF n l (Nat.div j 2) x) r)=_
   cases h:Nat.beq (Nat.mod j 2) 0 with
   | true =>
     have e:j % 2=0:=Nat.eq_of_beq_eq_true h
     rw [if_pos e];rfl
   | false =>
     have e:¬ j % 2=0:=Nat.ne_of_beq_eq_false h
     rw [if_neg e];rfl
theorem Zbv:∀ (n:Nat) (t:Tr α) (k:Nat) (x:Option α),k<n→∀ j,(setF n t k x).get j=if j=k then x else t.get j
 | 0,_,_,_,h,_=>by omega
 | n+1,t,0,x,h,j=>by
   rw [setF_zero]
   cases j with
   | zero=>rfl
   | succ j =>
     rw [if_neg (by omega),WZ,WZ]
     rfl
 | n+1,t,k+1,x,h,j=>by
   have hk:k / 2<n:=by omega
   rw [setF_succ]
   cases j with
   | zero =>
     rw [get_zero,get_zero,if_neg (show ¬ 0=k+1 by omega)]
     split<;>rfl
   | succ j =>
     rw [WZ,WZ]
     by_cases hp:k % 2=0
     ·rw [if_pos hp]
      show (if j % 2=0 then (setF n t.left (k / 2) x).get (j / 2) else t.right.get (j / 2))=_
      rw [Zbv n t.left (k / 2) x hk]
      by_cases hj:j % 2=0
      ·rw [if_pos hj,if_pos hj]
       by_cases e:j=k
       ·rw [if_pos (by omega),if_pos (by omega)]
       rw [if_neg (by omega),if_neg (by omega)]
      rw [if_neg hj,if_neg hj,if_neg (by omega)]
     rw [if_neg hp]
     show (if j % 2=0 then t.left.get (j / 2) else (setF n t.right (k / 2) x).get (j / 2))=_
     rw [Zbv n t.right (k / 2) x hk]
     by_cases hj:j % 2=0
     ·rw [if_pos hj,if_pos hj,if_neg (by omega)]
     rw [if_neg hj,if_neg hj]
     by_cases e:j=k
     ·rw [if_pos (by omega),if_pos (by omega)]
     rw [if_neg (by omega),if_neg (by omega)]
theorem get_set (t:Tr α) (k:Nat) (x:Option α) (j:Nat):(t.set k x).get j=if j=k then x else t.get j:=Zbv _ t k x (Nat.lt_succ_self k) j
end Tr
inductive CV where
 | v (x:Value)
 | p (k o:Nat)
 | s (k o n c:Nat)
 | g (k o n:Nat)
 | e
 | agg (cs:List CV)
 | tup (cs:List CV)
 | clo (f:Fn) (fs cs:List CV)
 | ifc (t:TypeId) (x:CV)
 | mp (k:Nat)
 | any
structure Pl where
 b:Nat
 C:Nat
 z:Nat
abbrev Nms:=Nat→Option Pl
inductive Rv (ρ:Nms):CV→Value→Prop
 | v (x:Value):Rv ρ (.v x) x
 | p {k o:Nat} {q:Pl} (h:ρ k=some q):Rv ρ (.p k o) (.pointer (some ⟨q.b,o,none⟩))
 | s {k o n c:Nat} {q:Pl} (h:ρ k=some q):Rv ρ (.s k o n c) (.slice (some ⟨q.b,o,none⟩) n c)
 | g {k o n:Nat} {q:Pl} (h:ρ k=some q):Rv ρ (.g k o n) (.slice (some ⟨q.b,o*q.z,none⟩) n (q.C-o))
 | e {a:Option Addr} {c:Nat} (ha:a=none→c=0):Rv ρ .e (.slice a 0 c)
 | agg {cs:List CV} {vs:Array Value} (hl:vs.size=cs.length) (h:∀ j (hj:j<cs.length),Rv ρ cs[j] (vs.getD j undef)):Rv ρ (.agg cs) (.agg vs)
 | tup {cs:List CV} {vs:Array Value} (hl:vs.size=cs.length) (h:∀ j (hj:j<cs.length),Rv ρ cs[j] (vs.getD j undef)):Rv ρ (.tup cs) (.tuple vs)
 | clo {f:Fn} {fs cs:List CV} {us vs:Array Value} (kl:us.size=fs.length) (k:∀ j (hj:j<fs.length),Rv ρ fs[j] (us.getD j undef)) (hl:vs.size=cs.length) (h:∀ j (hj:j<cs.length),Rv ρ cs[j] (vs.getD j undef)):Rv ρ (.clo f fs cs) (.func f us vs)
 | ifc {t:TypeId} {X:CV} {x:Value} (h:Rv ρ X x):Rv ρ (.ifc t X) (.iface t x)
 | mp {k:Nat} {q:Pl} (h:ρ k=some q):Rv ρ (.mp k) (.map (some q.b))
 | any (x:Value):Rv ρ .any x
def Ext (ρ ρ':Nms):Prop:=∀ k q,ρ k=some q→ρ' k=some q
theorem Ext.refl (ρ:Nms):Ext ρ ρ:=fun _ _ h=>h
theorem Ext.trans {ρ ρ' ρ'':Nms} (h:Ext ρ ρ') (h':Ext ρ' ρ''):Ext ρ ρ'':=fun k q e=>h' k q (h k q e)
theorem Rv.ext {ρ ρ':Nms} (e:Ext ρ ρ') {X:CV} {x:Value} (h:Rv ρ X x):Rv ρ' X x:=by
 induction h with
 | v x=>exact .v x
 | p h=>exact .p (e _ _ h)
 | s h=>exact .s (e _ _ h)
 | g h=>exact .g (e _ _ h)
 | e ha=>exact .e ha
 | agg hl _ ih=>exact .agg hl ih
 | tup hl _ ih=>exact .tup hl ih
 | clo kl _ hl _ ih ih2=>exact .clo kl ih hl ih2
 | ifc _ ih=>exact .ifc ih
 | mp h=>exact .mp (e _ _ h)
 | any x=>exact .any x
inductive CB where
 | cells (T:TypeId) (z n:Nat) (ex:Bool) (cs:List CV)
 | sit (s:ByteArray) (pos:Nat)
 | map (es:List (CV × CV)) (clock:Nat)
structure CellsR (ρ:Nms) (q:Pl) (T z n:Nat) (ex:Bool) (cs:List CV) (cur:Array Value):Prop where
 len:cs.length=n*z
 size:cur.size=q.C*z
 le:n≤q.C
 max:q.C≤maxLen
 ex:ex=true→q.C=n
 zz:q.z=z
 z0:0<z
 h:∀ j (hj:j<cs.length),Rv ρ cs[j] (cur.getD j undef)
def BlkC (ρ:Nms) (w:World) (q:Pl):CB→Prop
 | .cells T z n ex cs=>∃ cur,w.heap[q.b]? = some (.cells cur T (0,0))∧CellsR ρ q T z n ex cs cur
 | .sit s pos=>w.heap[q.b]? = some (.stringIter s pos)
 | .map es clock=>∃ fs:Array MapEntry,w.heap[q.b]? = some (.map fs clock)∧fs.size=es.length∧∀ j (hj:j<es.length),∃ f,fs[j]? = some f∧Rv ρ es[j].1 f.key∧Rv ρ es[j].2 f.val
theorem BlkC.ext {ρ ρ':Nms} (e:Ext ρ ρ') {w w':World} {q:Pl} {X:CB} (hw:w'.heap[q.b]? = w.heap[q.b]?) (h:BlkC ρ w q X):BlkC ρ' w' q X:=by
 cases X with
 | cells T z n ex cs =>
   obtain ⟨cur,h1,h2⟩:=h
   exact ⟨cur,hw.trans h1,h2.len,h2.size,h2.le,h2.max,h2.ex,h2.zz,h2.z0,fun j hj=>(h2.h j hj).ext e⟩
 | sit s pos=>exact hw.trans h
 | map es clock =>
   obtain ⟨fs,h1,h2,h3⟩:=h
   exact ⟨fs,hw.trans h1,h2,fun j hj=>by obtain ⟨f,a,b,c⟩:=h3 j hj;exact ⟨f,a,b.ext e,c.ext e⟩⟩
structure Ctx where
 w:World
 Own:Nat→Prop
abbrev HM:=Tr CB
structure HSatF (c:Ctx) (ρ:Nms) (H:Nat→Option CB) (w:World):Prop where
 inj:∀ j k X Y p q,H j=some X→H k=some Y→ρ j=some p→ρ k=some q→p.b=q.b→j=k
 lo:∀ k q,ρ k=some q→q.b<w.heap.size
 hp:∀ k X,H k=some X→∃ q,ρ k=some q∧(c.w.heap.size≤q.b∨c.Own q.b)∧BlkC ρ w q X
 os:w.os=c.w.os
 tape:w.tape=c.w.tape
 output:w.output=c.w.output
 size:c.w.heap.size≤w.heap.size
 keep:∀ b,b<c.w.heap.size→¬ c.Own b→w.heap[b]? = c.w.heap[b]?
abbrev HSat (c:Ctx) (ρ:Nms) (H:HM) (w:World):Prop:=HSatF c ρ H.get w
abbrev SM:=Tr CV
structure TSatF (ρ:Nms) (n:Nat) (t:Nat→Option CV) (a:Act):Prop where
 tl:a.tmps.size=n
 tm:∀ i X,t i=some X→i<n∧Rv ρ X (a.tmps.getD i undef)
 df:a.defers=[]
abbrev TSat (ρ:Nms) (n:Nat) (t:SM) (a:Act):Prop:=TSatF ρ n t.get a
def cvOf:Value→CV
 | .agg cs => .agg (cs.toList.map .v)
 | .tuple cs => .tup (cs.toList.map .v)
 | x => .v x
theorem rv_cvOf (ρ:Nms) (x:Value):Rv ρ (cvOf x) x:=by
 cases x<;>first | exact .v _ | skip
 ·rename_i cs
  exact .agg (by simp) fun j hj=>by
   have:j<cs.size:=by simpa using hj
   simp only [List.getElem_map,Array.getElem_toList,Array.getD,this,dif_pos]
   exact .v _
 rename_i cs
 exact .tup (by simp) fun j hj=>by
  have:j<cs.size:=by simpa using hj
  simp only [List.getElem_map,Array.getElem_toList,Array.getD,this,dif_pos]
  exact .v _
def cev (t:SM):Operand→CV
 | .tmp i=>(t.get i).getD .any
 | .const x=>cvOf x
 | .global g => .v (.pointer (some ⟨g,0,none⟩))
 | .func f => .clo (.func f) [] []
variable {n:Nat}{a:Act}
theorem TSat.ev {ρ:Nms} {t:SM} (s:TSat ρ n t a) (x:Operand):Rv ρ (cev t x) (a.eval x):=by
 cases x with
 | tmp i =>
   simp only [cev,Act.eval]
   cases h:t.get i with
   | none=>exact .any _
   | some X=>exact (s.tm i X h).2
 | const x=>exact rv_cvOf ρ x
 | global g=>exact .v _
 | func f=>exact .clo rfl (fun j hj=>by cases hj) rfl fun j hj=>by cases hj
def cput (t:SM) (d:Option Tmp) (u:CV):SM:=match d with
 | some i=>t.set i (some u)
 | none=>t
theorem TSat.put {ρ ρ':Nms} {n:Nat} {t:SM} {a:Act} (s:TSat ρ n t a) (e:Ext ρ ρ') (d:Option Tmp) (hd:∀ i,d=some i→i<n) {u:CV} {v:Value} (h:Rv ρ' u v):TSat ρ' n (cput t d u) (a.put d v):=by
 cases d with
 | none=>exact ⟨s.tl,fun i X h=>⟨(s.tm i X h).1,(s.tm i X h).2.ext e⟩,s.df⟩
 | some i =>
   have hi:=hd i rfl
   refine ⟨by simpa [Act.put] using s.tl,fun j X hj => ?_,s.df⟩
   simp only [cput,Tr.get_set] at hj
   split at hj
   ·rename_i e1
    subst e1
    cases hj
    refine ⟨hi,?_⟩
    simp only [Act.put,Array.getD_eq_getD_getElem?,Array.getElem?_setIfInBounds,if_true]
    rw [if_pos (by rw [s.tl];exact hi)]
    exact h
   rename_i e1
   refine ⟨(s.tm j X hj).1,?_⟩
   simp only [Act.put]
   rw [Array.getD_eq_getD_getElem?,Array.getElem?_setIfInBounds_ne (by omega),← Array.getD_eq_getD_getElem?]
   exact (s.tm j X hj).2.ext e
structure KPost (c:Ctx) (ρ:Nms) (H':HM) (nx nx':Nat) (u:CV) (ρ':Nms) (w':World) (v:Value):Prop where
 ext:Ext ρ ρ'
 rng:∀ k,ρ k=none→ρ' k≠none→nx≤k∧k<nx'
 hs:HSat c ρ' H' w'
 re:Rv ρ' u v
def OpS (P:Program) (t:SM) (H:HM) (nx:Nat) (o:Oper) (u:CV) (H':HM) (nx':Nat):Prop :=
 ∀ (c:Ctx) (ρ:Nms) (n:Nat) (a:Act) (w:World) (K:Act→World→Prop) (Q:Exit→Act→World→Prop),HSat c ρ H w→TSat ρ n t a→(∀ k,nx≤k→k<nx'→ρ k=none) →
  (∀ ρ' w' v,KPost c ρ H' nx nx' u ρ' w' v→K (a.put o.dst v) w')→o.wp P a w K Q
section
variable {P:Program} {t:SM} {H:HM} {nx:Nat} {o:Oper}
theorem ZT {u:CV} (h:∀ (c:Ctx) (ρ:Nms) (n:Nat) (a:Act) (w:World),HSat c ρ H w→TSat ρ n t a→∃ v,(execOp a.eval o).run P w = .ok (.value v) w∧Rv ρ u v):OpS P t H nx o u H nx:=by
 intro c ρ n a w K Q hh ht _ hk
 obtain ⟨v,h1,h2⟩:=h c ρ n a w hh ht
 unfold Oper.wp
 rw [h1]
 exact hk ρ w v ⟨.refl ρ,fun k h h'=>absurd h h',hh,h2⟩
def kupd (ρ:Nms) (k:Nat) (q:Pl):Nms:=fun j=>if j=k then some q else ρ j
variable {k:Nat}
theorem Wm {ρ:Nms} {q:Pl} (h:ρ k=none):Ext ρ (kupd ρ k q):=fun j r hj=>by
 unfold kupd
 rw [if_neg (by rintro rfl;rw [h] at hj;cases hj)]
 exact hj
variable {w:World}
theorem HSat.new {c:Ctx} {ρ:Nms} (hh:HSat c ρ H w) (hn:ρ nx=none) (ob:Obj) (C z:Nat) {X:CB} (hX:∀ ρ' w',Ext ρ ρ'→w'.heap[w.heap.size]? = some ob→BlkC ρ' w' ⟨w.heap.size,C,z⟩ X) :
 HSat c (kupd ρ nx ⟨w.heap.size,C,z⟩) (H.set nx (some X)) (w.alloc ob):=by
 have he:=Wm (q:=⟨w.heap.size,C,z⟩) hn
 have hself:kupd ρ nx ⟨w.heap.size,C,z⟩ nx=some ⟨w.heap.size,C,z⟩:=if_pos rfl
 have hoth:∀ j,j≠nx→kupd ρ nx ⟨w.heap.size,C,z⟩ j=ρ j:=fun j hj=>if_neg hj
 refine ⟨fun j k X Y p q hj hk hp hq e => ?_,fun k q hk => ?_,fun k Y hk => ?_,hh.os,hh.tape,hh.output,by simp;exact Nat.le_succ_of_le hh.size,fun b hb hO => ?_⟩
 ·rw [Tr.get_set] at hj hk
  by_cases e1:j=nx
  ·by_cases e2:k=nx
   ·rw [e1,e2]
   rw [if_neg e2] at hk
   rw [hoth k e2] at hq
   rw [e1,hself] at hp
   cases hp
   have:=hh.lo k q hq
   simp only at e
   omega
  rw [if_neg e1] at hj
  rw [hoth j e1] at hp
  by_cases e2:k=nx
  ·rw [e2,hself] at hq
   cases hq
   have:=hh.lo j p hp
   simp only at e
   omega
  rw [if_neg e2] at hk
  rw [hoth k e2] at hq
  exact hh.inj j k X Y p q hj hk hp hq e
 ·by_cases e1:k=nx
  ·rw [e1,hself] at hk;cases hk;simp
  rw [hoth k e1] at hk
  have:=hh.lo k q hk
  simp;omega
 ·rw [Tr.get_set] at hk
  by_cases e1:k=nx
  ·rw [if_pos e1] at hk
   cases hk
   exact ⟨_,by rw [e1];exact hself,.inl hh.size,hX _ _ he (heap_alloc_new w _)⟩
  rw [if_neg e1] at hk
  obtain ⟨q,h1,h2,h3⟩:=hh.hp k Y hk
  exact ⟨q,by rw [hoth k e1];exact h1,h2,h3.ext he (heap_alloc_old w _ (hh.lo k q h1))⟩
 rw [heap_alloc_old w _ (Nat.lt_of_lt_of_le hb hh.size)]
 exact hh.keep b hb hO
theorem Zal {u:CV} {X:CB} (h:∀ (c:Ctx) (ρ:Nms) (n:Nat) (a:Act) (w:World),HSat c ρ H w→TSat ρ n t a→ρ nx=none→∃ v ob C z,(execOp a.eval o).run P w = .ok (.value v) (w.alloc ob)∧Rv (kupd ρ nx ⟨w.heap.size,C,z⟩) u v ∧
 ∀ ρ' w',Ext ρ ρ'→w'.heap[w.heap.size]? = some ob→BlkC ρ' w' ⟨w.heap.size,C,z⟩ X):OpS P t H nx o u (H.set nx (some X)) (nx+1):=by
 intro c ρ n a w K Q hh ht hf hk
 have hn:=hf nx (Nat.le_refl _) (Nat.lt_succ_self _)
 obtain ⟨v,ob,C,z,h1,h2,h3⟩:=h c ρ n a w hh ht hn
 unfold Oper.wp
 rw [h1]
 refine hk _ _ v ⟨Wm hn,fun k h h' => ?_,hh.new hn ob C z h3,h2⟩
 by_cases e:k=nx
 ·subst e;exact ⟨Nat.le_refl _,Nat.lt_succ_self _⟩
 unfold kupd at h';rw [if_neg e] at h';exact absurd h h'
variable {w':World}
theorem HSat.wr {c:Ctx} {ρ:Nms} (hh:HSat c ρ H w) {Y X:CB} {q:Pl} (hk:H.get k=some Y) (hq:ρ k=some q) (os:w'.os=w.os) (tape:w'.tape=w.tape) (output:w'.output=w.output) (size:w'.heap.size=w.heap.size)
 (ho:∀ b,b≠q.b→w'.heap[b]? = w.heap[b]?) (hX:BlkC ρ w' q X):HSat c ρ (H.set k (some X)) w':=by
 refine ⟨fun i j X Y p q hi hj hp hq e => ?_,fun i r hi=>by rw [size];exact hh.lo i r hi,fun i Z hi => ?_,os.trans hh.os,tape.trans hh.tape,output.trans hh.output,by rw [size];exact hh.size,fun b hb hO => ?_⟩
 ·rw [Tr.get_set] at hi hj
  have hi':∃ X,H.get i=some X:=by
   split at hi
   ·rename_i e;exact ⟨_,e ▸ hk⟩
   exact ⟨_,hi⟩
  have hj':∃ X,H.get j=some X:=by
   split at hj
   ·rename_i e;exact ⟨_,e ▸ hk⟩
   exact ⟨_,hj⟩
  obtain ⟨_,hi'⟩:=hi'
  obtain ⟨_,hj'⟩:=hj'
  exact hh.inj i j _ _ p q hi' hj' hp hq e
 ·rw [Tr.get_set] at hi
  by_cases e:i=k
  ·rw [if_pos e] at hi
   cases hi
   subst e
   obtain ⟨q',h1,h2,_⟩:=hh.hp i Y hk
   rw [hq] at h1;cases h1
   exact ⟨q,hq,h2,hX⟩
  rw [if_neg e] at hi
  obtain ⟨r,h1,h2,h3⟩:=hh.hp i Z hi
  exact ⟨r,h1,h2,h3.ext (.refl ρ) (ho r.b fun e2=>e (hh.inj i k Z Y r q hi hk h1 hq e2))⟩
 obtain ⟨q',h1,h2,_⟩:=hh.hp k Y hk
 rw [hq] at h1;cases h1
 rw [ho b fun e=>by subst e;rcases h2 with h2 | h2;omega;exact hO h2]
 exact hh.keep b hb hO
theorem ops_wr {u:CV} {Y X:CB} (hk:H.get k=some Y) (h:∀ (c:Ctx) (ρ:Nms) (n:Nat) (a:Act) (w:World) (q:Pl),HSat c ρ H w→TSat ρ n t a→ρ k=some q→BlkC ρ w q Y→∃ v w' r,(execOp a.eval o).run P w = .ok r w'∧(r = .value v∨(r = .skip∧v=undef))∧Rv ρ u v ∧
 w'.os=w.os∧w'.tape=w.tape∧w'.output=w.output∧w'.heap.size=w.heap.size∧(∀ b,b≠q.b→w'.heap[b]? = w.heap[b]?)∧BlkC ρ w' q X):OpS P t H nx o u (H.set k (some X)) nx:=by
 intro c ρ n a w K Q hh ht _ hK
 obtain ⟨q,h1,h2,h3⟩:=hh.hp k Y hk
 obtain ⟨v,w',r,e1,e2,e3,e4,e5,e6,e7,e8,e9⟩:=h c ρ n a w q hh ht h1 h3
 have:=hK ρ w' v ⟨.refl ρ,fun k h h'=>absurd h h',hh.wr hk h1 e4 e5 e6 e7 e8 e9,e3⟩
 unfold Oper.wp
 rw [e1]
 rcases e2 with rfl | ⟨rfl,rfl⟩<;>exact this
end
section
variable {ρ:Nms} {x:Value}
theorem Rv.v_inv {y:Value} (h:Rv ρ (.v y) x):x=y:=by cases h;rfl
variable {k o:Nat}
theorem Rv.p_inv (h:Rv ρ (.p k o) x):∃ q,ρ k=some q∧x = .pointer (some ⟨q.b,o,none⟩):=by cases h with | p h=>exact ⟨_,h,rfl⟩
theorem Rv.s_inv {k o n c:Nat} (h:Rv ρ (.s k o n c) x):∃ q,ρ k=some q∧x = .slice (some ⟨q.b,o,none⟩) n c:=by cases h with | s h=>exact ⟨_,h,rfl⟩
theorem Rv.g_inv (h:Rv ρ (.g k o n) x):∃ q,ρ k=some q∧x = .slice (some ⟨q.b,o*q.z,none⟩) n (q.C-o):=by cases h with | g h=>exact ⟨_,h,rfl⟩
theorem Rv.agg_inv {cs:List CV} (h:Rv ρ (.agg cs) x):∃ vs:Array Value,x = .agg vs∧vs.size=cs.length∧∀ j (hj:j<cs.length),Rv ρ cs[j] (vs.getD j undef):=by cases h with | agg hl h=>exact ⟨_,rfl,hl,h⟩
theorem Rv.tup_inv {cs:List CV} (h:Rv ρ (.tup cs) x):∃ vs:Array Value,x = .tuple vs∧vs.size=cs.length∧∀ j (hj:j<cs.length),Rv ρ cs[j] (vs.getD j undef):=by cases h with | tup hl h=>exact ⟨_,rfl,hl,h⟩
theorem Rv.clo_inv {f:Fn} {fs cs:List CV} (h:Rv ρ (.clo f fs cs) x):∃ us vs:Array Value,x = .func f us vs∧us.size=fs.length∧(∀ j (hj:j<fs.length),Rv ρ fs[j] (us.getD j undef))∧vs.size=cs.length∧∀ j (hj:j<cs.length),Rv ρ cs[j] (vs.getD j undef):=by cases h with | clo kl k hl h=>exact ⟨_,_,rfl,kl,k,hl,h⟩
end
def CV.cell:CV→Bool
 | .agg _=>false
 | .tup _=>false
 | .any=>false
 | .v x=>x.oneCell'
 | _=>true
def CV.cellsOf:CV→List CV
 | .agg cs=>cs
 | X=>[X]
theorem Rv.one {ρ:Nms} {X:CV} {x:Value} (h:Rv ρ X x) (hc:X.cell=true):x.oneCell'=true:=by
 cases h<;>first | rfl | (cases hc;done) | exact hc
theorem Rv.cells {ρ:Nms} {X:CV} {x:Value} (h:Rv ρ X x) (hc:X.cellsOf.all CV.cell=true):x.cells.size=X.cellsOf.length∧(∀ v∈x.cells,v.oneCell'=true)∧∀ j (hj:j<X.cellsOf.length),Rv ρ X.cellsOf[j] (x.cells.getD j undef):=by
 have one:X.cell=true→X.cellsOf=[X]→x.cells.size=X.cellsOf.length∧(∀ v∈x.cells,v.oneCell'=true)∧∀ j (hj:j<X.cellsOf.length),Rv ρ X.cellsOf[j] (x.cells.getD j undef):=fun h1 h2=>by
  have h3:=Zcp (h.one h1)
  refine ⟨by rw [h2,h3];rfl,fun v hv=>by rw [h3] at hv;simp at hv;rw [hv];exact h.one h1,fun j hj => ?_⟩
  have:j=0:=by rw [h2] at hj;simp at hj;exact hj
  subst this
  simp only [h2,h3]
  exact h
 cases X with
 | agg cs =>
   obtain ⟨vs,rfl,hl,hr⟩:=h.agg_inv
   simp only [CV.cellsOf] at hc ⊢
   refine ⟨hl,fun v hv => ?_,hr⟩
   obtain ⟨j,hj,rfl⟩:=Array.getElem_of_mem (show v∈vs from hv)
   have:=(hr j (by omega)).one (List.all_eq_true.1 hc _ (List.getElem_mem _))
   simpa [Array.getD,hj] using this
 | v y=>exact one (by simpa [CV.cellsOf] using hc) rfl
 | tup cs=>simp [CV.cellsOf,CV.cell] at hc
 | any=>simp [CV.cellsOf,CV.cell] at hc
 | _=>exact one rfl rfl
def pureRun {α:Type} (P:Program):Nat→Sem α→Option α
 | _+1,.pure x=>some x
 | n+1,.program k=>pureRun P n (k P)
 | _,_=>none
theorem ZaV {α:Type} {P:Program}:∀ {n:Nat} {s:Sem α} {x:α},pureRun P n s=some x→∀ w,s.run P w = .ok x w
 | n+1,.pure y,x,h,w=>by cases h;rfl
 | n+1,.program k,x,h,w=>ZaV (n:=n) (s:=k P) h w
 | 0,.pure _,_,h,_=>by cases h
 | 0,.program _,_,h,_=>by cases h
 | n+1,.load _ _ _,_,h,_=>by cases h
 | 0,.load _ _ _,_,h,_=>by cases h
 | n+1,.store _ _ _ _,_,h,_=>by cases h
 | 0,.store _ _ _ _,_,h,_=>by cases h
 | n+1,.new _ _,_,h,_=>by cases h
 | 0,.new _ _,_,h,_=>by cases h
 | n+1,.shape _ _,_,h,_=>by cases h
 | 0,.shape _ _,_,h,_=>by cases h
 | n+1,.freeze _ _ _,_,h,_=>by cases h
 | 0,.freeze _ _ _,_,h,_=>by cases h
 | n+1,.frozen _ _,_,h,_=>by cases h
 | 0,.frozen _ _,_,h,_=>by cases h
 | n+1,.getObj _ _,_,h,_=>by cases h
 | 0,.getObj _ _,_,h,_=>by cases h
 | n+1,.setObj _ _ _,_,h,_=>by cases h
 | 0,.setObj _ _ _,_,h,_=>by cases h
 | n+1,.choose _ _,_,h,_=>by cases h
 | 0,.choose _ _,_,h,_=>by cases h
 | n+1,.sys _ _,_,h,_=>by cases h
 | 0,.sys _ _,_,h,_=>by cases h
 | n+1,.mark _ _,_,h,_=>by cases h
 | 0,.mark _ _,_,h,_=>by cases h
 | n+1,.halt _,_,h,_=>by cases h
 | 0,.halt _,_,h,_=>by cases h
def plainL:List CV→Option (List Value)
 | []=>some []
 | .v x::l=>match plainL l with
   | some r=>some (x::r)
   | none=>none
 | _::_=>none
def plainV:CV→Option Value
 | .v x=>some x
 | .agg cs=>match plainL cs with
   | some l=>some (.agg l.toArray)
   | none=>none
 | .clo f [] []=>some (.func f #[] #[])
 | _=>none
theorem Zb2:∀ {cs:List CV} {l:List Value},plainL cs=some l→cs=l.map .v
 | [],_,h=>by cases h;rfl
 | c::cs,l,h=>by
   cases c with
   | v x =>
     simp only [plainL] at h
     split at h
     ·rename_i r hr;cases h;rw [Zb2 hr];rfl
     cases h
   | _=>cases h
theorem plainV_sp {ρ:Nms} {X:CV} {y x:Value} (h:plainV X=some y) (hx:Rv ρ X x):x=y:=by
 cases X with
 | v z=>cases h;exact hx.v_inv
 | agg cs =>
   simp only [plainV] at h
   split at h
   ·rename_i l hl
    cases h
    have e:=Zb2 hl
    subst e
    obtain ⟨vs,rfl,h1,h2⟩:=hx.agg_inv
    congr 1
    apply Array.ext
    ·simpa using h1
    intro i hi hi'
    have hi2:i<l.length:=by simpa using hi'
    have:=h2 i (by simpa using hi2)
    rw [List.getElem_map] at this
    have:=this.v_inv
    simpa [Array.getD,hi] using this
   cases h
 | clo f fs cs =>
   cases fs with
   | cons _ _=>cases h
   | nil=>cases cs with
     | cons _ _=>cases h
     | nil =>
       cases h
       obtain ⟨us,vs,rfl,h1,_,h2,_⟩:=hx.clo_inv
       have e1:us = #[]:=Array.eq_empty_of_size_eq_zero h1
       have e2:vs = #[]:=Array.eq_empty_of_size_eq_zero h2
       rw [e1,e2]
 | _=>cases h
def isSelect:Op→Bool
 | .select _ _=>true
 | _=>false
def plainOp (P:Program) (t:SM) (o:Oper):Option CV :=
 match isSelect o.op || !(o.op.operands.toList.all fun x=>(plainV (cev t x)).isSome) with
 | true=>none
 | false=>match pureRun P 400 (execOp (fun x=>(plainV (cev t x)).getD undef) o) with
   | some (.value v)=>some (cvOf v)
   | _=>none
section
variable {P:Program} {t:SM} {H:HM} {nx:Nat} {o:Oper}
theorem ZaX {u:CV} (h:plainOp P t o=some u):OpS P t H nx o u H nx:=by
 unfold plainOp at h
 split at h
 ·cases h
 rename_i hb
 rw [Bool.or_eq_false_iff] at hb
 obtain ⟨hs,hp⟩:=hb
 have hp:(o.op.operands.toList.all fun x=>(plainV (cev t x)).isSome)=true:=by
  cases e:(o.op.operands.toList.all fun x=>(plainV (cev t x)).isSome) with
  | true=>rfl
  | false=>rw [e] at hp;cases hp
 split at h
 ·rename_i v hv
  cases h
  refine ZT fun c ρ n a w hh ht=>⟨v,?_,rv_cvOf ρ v⟩
  rw [execOp_congr (ρ':=fun x=>(plainV (cev t x)).getD undef) o (fun cs b e=>by rw [e] at hs;cases hs) fun x hx => ?_]
  ·exact ZaV hv w
  have:=List.all_eq_true.1 hp x (by simpa using hx)
  obtain ⟨y,hy⟩:=Option.isSome_iff_exists.1 this
  rw [hy]
  exact plainV_sp hy (ht.ev x)
 cases h
variable {w:World}{k z:Nat}{T:TypeId}{ex:Bool}
theorem K5 {c:Ctx} {ρ:Nms} (hh:HSat c ρ H w) {cs:List CV} (hk:H.get k=some (.cells T z n ex cs)) {q:Pl} (hq:ρ k=some q) {j:Nat} (hj:j<cs.length):∃ v,w.cell? ⟨q.b,j,none⟩=some v∧w.frozen? ⟨q.b,j,none⟩=false∧Rv ρ cs[j] v:=by
 obtain ⟨q',h1,_,cur,h2,h3⟩:=hh.hp k _ hk
 rw [hq] at h1;cases h1
 have hj':j<cur.size:=by
  have:=h3.len
  have:=h3.size
  have:=Nat.mul_le_mul_right z h3.le
  omega
 refine ⟨cur.getD j undef,?_,frozenB h2 j,h3.h j hj⟩
 rw [Zv h2 j (v:=cur.getD j undef) (by simp [Array.getD,hj'])]
def ldK (P:Program) (H:HM) (T:TypeId) (k off:Nat):Option CV:=match H.get k with
 | some (.cells _ _ _ _ cs)=>match P.underlying T with
   | some d=>match d.isRow with
     | false=>cs[off]?
     | true=>match P.info? T with
       | some i=>match Nat.beq ((cs.drop off).take i.size).length i.size with
         | true=>some (.agg ((cs.drop off).take i.size))
         | false=>none
       | none=>none
   | none=>none
 | _=>none
variable {off:Nat}
theorem Zay {cs ds:List CV} (hX:(cs.drop off).take z=ds) (hl:ds.length=z) (j:Nat) (hj:j<ds.length):∃ h:off+j<cs.length,cs[off+j]=ds[j]:=by
 subst hX
 have h1:off+j<cs.length:=by simp at hl hj;omega
 exact ⟨h1,by simp⟩
variable {m:Nat}
theorem Zcx {c:Ctx} {ρ:Nms} (hh:HSat c ρ H w) {cs:List CV} (hk:H.get k=some (.cells T z n ex cs)) {q:Pl} (hq:ρ k=some q) {ds:List CV} (hX:(cs.drop off).take m=ds) (hl:ds.length=m) :
 ∃ ys:List Value,ys.length=m∧(∀ j,j<m→w.cell? ⟨q.b,off+j,none⟩=some (ys.getD j undef))∧∀ j (hj:j<ds.length),Rv ρ ds[j] (ys.getD j undef):=by
 have H1:∀ j,j<m→∃ v,w.cell? ⟨q.b,off+j,none⟩=some v∧∃ hj:j<ds.length,Rv ρ ds[j] v:=fun j hj=>by
  obtain ⟨h3,h4⟩:=Zay hX hl j (by omega)
  obtain ⟨v,h5,_,h6⟩:=K5 hh hk hq h3
  exact ⟨v,h5,by omega,by rw [← h4];exact h6⟩
 obtain ⟨f,hf⟩:=choose_lt H1
 refine ⟨(List.range m).map f,by simp,fun j hj=>by rw [(hf j hj).1];simp [hj],fun j hj => ?_⟩
 obtain ⟨_,h⟩:=(hf j (by omega)).2
 have:j<m:=by omega
 simpa [this] using h
variable {x:Operand}
theorem ld_sp {u:CV} (ho:o.op = .load T x) (hx:cev t x = .p k off) (h:ldK P H T k off=some u):OpS P t H nx o u H nx:=by
 unfold ldK at h
 split at h
 ·rename_i T0 z n ex cs hk
  split at h
  ·rename_i d hu
   refine ZT fun c ρ m a w hh ht => ?_
   have he:=ht.ev x
   rw [hx] at he
   obtain ⟨q,hq,ha⟩:=he.p_inv
   split at h
   ·rename_i hd
    obtain ⟨hj,h⟩:=List.getElem?_eq_some_iff.1 h
    obtain ⟨v,h1,_,h2⟩:=K5 hh hk hq hj
    refine ⟨v,?_,by rw [← h];exact h2⟩
    simp only [execOp,ho,ha]
    exact Zw (Kv hu hd h1)
   rename_i hd
   split at h
   ·rename_i i hi
    split at h
    ·rename_i hb
     cases h
     obtain ⟨ys,h1,h2,h3⟩:=Zcx hh hk hq (m:=i.size) rfl (Nat.eq_of_beq_eq_true hb)
     refine ⟨.agg ys.toArray,?_,.agg (by simp [h1,Nat.eq_of_beq_eq_true hb]) fun j hj=>by simpa using h3 j hj⟩
     simp only [execOp,ho,ha]
     exact Zw (We hu hd (by rw [hi];rfl) ys h1 h2)
    cases h
   cases h
  cases h
 cases h
def setK:List CV→Nat→List CV→List CV
 | cs,0,ds=>ds++cs.drop ds.length
 | [],_+1,_=>[]
 | c::cs,n+1,ds=>c::setK cs n ds
theorem ZcK:∀ (cs:List CV) (off:Nat) (ds:List CV),off+ds.length≤cs.length→setK cs off ds=cs.take off++ds++cs.drop (off+ds.length)
 | cs,0,ds,_=>by simp [setK]
 | [],_+1,ds,h=>by simp at h
 | c::cs,n+1,ds,h=>by
   have:=ZcK cs n ds (by simp at h;omega)
   rw [setK,this]
   simp [show n+1+ds.length=(n+ds.length)+1 by omega]
theorem YW {cs:List CV} {ds:List CV} (h:off+ds.length≤cs.length):(setK cs off ds).length=cs.length:=by
 rw [ZcK _ _ _ h];simp;omega
theorem setK_get {cs:List CV} {ds:List CV} (h:off+ds.length≤cs.length) (j:Nat) (hj:j<(setK cs off ds).length):(off≤j∧∃ h:j-off<ds.length,(setK cs off ds)[j]=ds[j-off])∨((j<off∨off+ds.length≤j)∧∃ h:j<cs.length,(setK cs off ds)[j]=cs[j]):=by
 have hl:=YW h
 have e:=ZcK _ _ _ h
 have hj2:j<cs.length:=by omega
 by_cases h1:j<off
 ·refine .inr ⟨.inl h1,hj2,?_⟩
  simp only [e]
  rw [List.getElem_append_left (by simp;omega),List.getElem_append_left (by simp;omega)]
  simp
 by_cases h2:j<off+ds.length
 ·refine .inl ⟨by omega,by omega,?_⟩
  simp only [e]
  rw [List.getElem_append_left (by simp;omega),List.getElem_append_right (by simp;omega)]
  congr 1
  simp;omega
 refine .inr ⟨.inr (by omega),hj2,?_⟩
 simp only [e]
 rw [List.getElem_append_right (by simp;omega)]
 simp
 congr 1
 omega
def stK (P:Program) (H:HM) (T:TypeId) (k off:Nat) (X:CV):Option CB:=match H.get k with
 | some (.cells T0 z n ex cs)=>match P.info? T with
   | some i=>match X.cellsOf.all CV.cell&&(Nat.beq X.cellsOf.length i.size&&Nat.ble (off+i.size) cs.length) with
     | true=>some (.cells T0 z n ex (setK cs off X.cellsOf))
     | false=>none
   | none=>none
 | _=>none
variable {ys:List Value}
theorem Zau {c:Ctx} {ρ:Nms} (hh:HSat c ρ H w) {cs:List CV} (hk:H.get k=some (.cells T z n ex cs)) {q:Pl} (hq:ρ k=some q) {ds:List CV} (hl:ys.length=ds.length) (hr:off+ds.length≤cs.length) (hd:∀ j (hj:j<ds.length),Rv ρ ds[j] (ys.getD j undef)) :
 BlkC ρ (w.setCells q.b off ys) q (.cells T z n ex (setK cs off ds))∧∀ b,b≠q.b→(w.setCells q.b off ys).heap[b]? = w.heap[b]? := by
 obtain ⟨q',h1,_,cur,hg,h3⟩:=hh.hp k _ hk
 rw [hq] at h1;cases h1
 have hsz:cs.length≤cur.size:=by rw [h3.len,h3.size];exact Nat.mul_le_mul_right z h3.le
 obtain ⟨cur',hg',hs',hget⟩:=Yk ys off w cur hg (by omega)
 refine ⟨⟨cur',hg',⟨by rw [YW hr,h3.len],by rw [hs',h3.size],h3.le,h3.max,h3.ex,h3.zz,h3.z0,fun j hj => ?_⟩⟩,fun b hb=>Z8 hb _ _ _⟩
 have hj':j<cs.length:=by rw [YW hr] at hj;exact hj
 rcases setK_get hr j hj with ⟨e1,e2,e3⟩ | ⟨e1,e2,e3⟩
 ·rw [e3]
  have:=hd (j-off) e2
  have hg2:=hget j
  rw [if_pos ⟨e1,by omega⟩] at hg2
  rw [Array.getD_eq_getD_getElem?,hg2,← List.getD_eq_getElem?_getD]
  exact this
 rw [e3]
 have hg2:=hget j
 rw [if_neg (by omega)] at hg2
 rw [Array.getD_eq_getD_getElem?,hg2,← Array.getD_eq_getD_getElem?]
 exact h3.h j e2
variable {y:Operand}
theorem st_sp {X:CB} (ho:o.op = .store T x y) (hx:cev t x = .p k off) (h:stK P H T k off (cev t y)=some X):OpS P t H nx o (.v undef) (H.set k (some X)) nx:=by
 unfold stK at h
 split at h
 ·rename_i T0 z n ex cs hk
  split at h
  ·rename_i i hi
   split at h
   ·rename_i hb
    rw [Bool.and_eq_true,Bool.and_eq_true] at hb
    obtain ⟨hc,hl,hr⟩:=hb
    have hl:=Nat.eq_of_beq_eq_true hl
    have hr:=Nat.le_of_ble_eq_true hr
    cases h
    refine ops_wr hk fun c ρ m a w q hh ht hq hB => ?_
    have he:=ht.ev x
    rw [hx] at he
    obtain ⟨q',hq',ha⟩:=he.p_inv
    rw [hq] at hq';cases hq'
    obtain ⟨g1,g2,g3⟩:=(ht.ev y).cells hc
    have hth:w.there q.b off i.size:=fun j hj=>by
     obtain ⟨v,e1,e2,_⟩:=K5 hh hk hq (j:=off+j) (by omega)
     exact ⟨by rw [e1];rfl,e2⟩
    have hrun:=ZaQ (P:=P) (T:=T) (z:=i.size) (by rw [hi];rfl) (a.eval y) (by omega) g2 hth
    obtain ⟨b1,b2⟩:=Zau hh hk hq (off:=off) (ds:=(cev t y).cellsOf) (ys:=(a.eval y).cells.toList) (by simpa using g1) (by omega) fun j hj=>by
     have:=g3 j hj
     simpa [Array.getD_eq_getD_getElem?,List.getD_eq_getElem?_getD] using this
    obtain ⟨q1,q2,q3⟩:=Yc q.b (a.eval y).cells.toList off w
    refine ⟨undef,_,.skip,?_,.inr ⟨rfl,rfl⟩,.v _,q1,q2,q3,by rw [ZH],b2,b1⟩
    simp only [execOp,ho,ha,Sem.run_bind,hrun,Result.andThen_ok,Sem.run_pure]
   cases h
  cases h
 cases h
variable {b:Nat}
theorem Zcq {ρ:Nms} {ob:Array Value} {cs:List CV} (hl:ob.size=cs.length) (hm:cs.length≤maxLen) (h:∀ j (hj:j<cs.length),Rv ρ cs[j] (ob.getD j undef)) :
 ∀ ρ' w',Ext ρ ρ'→w'.heap[b]? = some (.cells ob T (0,0))→BlkC ρ' w' ⟨b,cs.length,1⟩ (.cells T 1 cs.length true cs):=fun ρ' w' e hw =>
 ⟨ob,hw,by simp,by simp [hl],Nat.le_refl _,hm,fun _=>rfl,rfl,by decide,fun j hj=>(h j hj).ext e⟩
theorem Zc1 (h:Nat.ble n 1000000=true):n≤maxLen:=by
 have:=Nat.le_of_ble_eq_true h
 simp only [maxLen];omega
def allocK (P:Program) (T:TypeId):Option CB:=match P.info? T with
 | some i=>match i.zero with
   | some z=>match Nat.ble z.cells.size 1000000 with
     | true=>some (.cells T 1 (z.cells.toList.map CV.v).length true (z.cells.toList.map CV.v))
     | false=>none
   | none=>none
 | none=>none
theorem alloc_sp {X:CB} (ho:o.op = .alloc T) (h:allocK P T=some X):OpS P t H nx o (.p nx 0) (H.set nx (some X)) (nx+1):=by
 unfold allocK at h
 split at h
 ·rename_i i hi
  split at h
  ·rename_i z hz
   split at h
   ·rename_i hb
    cases h
    refine Zal fun c ρ n a w hh ht hn=>⟨.pointer (some ⟨w.heap.size,0,none⟩),.cells z.cells T,_,1,?_,.p (q:=⟨w.heap.size,(z.cells.toList.map CV.v).length,1⟩) (if_pos rfl),Zcq (ρ:=ρ) (by simp) (by simpa using Zc1 hb) fun j hj => ?_⟩
    ·simp only [execOp,ho]
     exact Zw (by simp [Instr.alloc,zeroValue,typeInfo,hi,hz,newVar,newRow])
    have:j<z.cells.size:=by simpa using hj
    simp only [List.getElem_map,Array.getElem_toList,Array.getD,this,dif_pos]
    exact .v _
   cases h
  cases h
 cases h
def boxK (T:TypeId) (X:CV):Option CB:=match X.cellsOf.all CV.cell&&Nat.ble X.cellsOf.length 1000000 with
 | true=>some (.cells T 1 X.cellsOf.length true X.cellsOf)
 | false=>none
theorem box_sp {X:CB} (ho:o.op = .box T x) (h:boxK T (cev t x)=some X):OpS P t H nx o (.p nx 0) (H.set nx (some X)) (nx+1):=by
 unfold boxK at h
 split at h
 ·rename_i hb
  rw [Bool.and_eq_true] at hb
  cases h
  refine Zal fun c ρ n a w hh ht hn => ?_
  obtain ⟨h1,h2,h3⟩:=(ht.ev x).cells hb.1
  refine ⟨.pointer (some ⟨w.heap.size,0,none⟩),.cells (a.eval x).cells T,_,1,?_,.p (q:=⟨w.heap.size,(cev t x).cellsOf.length,1⟩) (if_pos rfl),Zcq (ρ:=ρ) h1 (Zc1 hb.2) h3⟩
  simp only [execOp,ho]
  exact Zw (by simp [Instr.box,newVar,newRow])
 cases h
end
variable {J:World→Prop}
section
variable {P:Program} {o:Oper}
end
def RvL (ρ:Nms) (cs:List CV) (ys:Array Value):Prop:=ys.size=cs.length∧∀ j (hj:j<cs.length),Rv ρ cs[j] (ys.getD j undef)
def fillK (place:Nat→Option (Nat × Nat)):List CV→List (Nat × CV)→Option (List CV)
 | cs,[]=>some cs
 | cs,(i,X)::rest=>match place i with
   | none=>none
   | some (off,size)=>match Nat.beq X.cellsOf.length size&&(Nat.ble (off+size) cs.length&&X.cellsOf.all CV.cell) with
     | true=>fillK place (setK cs off X.cellsOf) rest
     | false=>none
theorem Zbz {ρ:Nms} {place:Nat→Option (Nat × Nat)}:∀ (l:List (Nat × CV)) (vs:List (Nat × Value)) (cs ds:List CV) (ys:Array Value),fillK place cs l=some ds→RvL ρ cs ys→vs.length=l.length→(∀ j (h:j<l.length) (h':j<vs.length),vs[j].1=l[j].1∧Rv ρ l[j].2 vs[j].2) →
 ∃ zs,Instr.fill place ys vs=some zs∧RvL ρ ds zs
 | [],vs,cs,ds,ys,h,hr,hl,_=>by
   cases vs with
   | nil=>cases h;exact ⟨ys,rfl,hr⟩
   | cons _ _=>cases hl
 | (i,X)::l,vs,cs,ds,ys,h,hr,hl,hv=>by
   cases vs with
   | nil=>cases hl
   | cons p vs =>
     obtain ⟨i',v⟩:=p
     obtain ⟨e,hX⟩:=hv 0 (by simp) (by simp)
     simp only [List.getElem_cons_zero] at e hX
     subst e
     rw [fillK] at h
     split at h
     ·cases h
     rename_i off size hp
     split at h
     ·rename_i hb
      rw [Bool.and_eq_true,Bool.and_eq_true] at hb
      obtain ⟨b1,b2,b3⟩:=hb
      have b1:=Nat.eq_of_beq_eq_true b1
      have b2:=Nat.le_of_ble_eq_true b2
      obtain ⟨c1,c2,c3⟩:=hX.cells b3
      have hstep:RvL ρ (setK cs off X.cellsOf) ((v.cells.zipIdx.foldl (fun cs (c,j)=>cs.setIfInBounds (off+j) c) ys)):=by
       rw [← Array.foldl_toList,Array.toList_zipIdx]
       obtain ⟨g1,g2⟩:=Great.foldl_set off v.cells.toList 0 ys
       have g1:(List.foldl (fun (cs:Array Value) (x:Value × Nat)=>cs.setIfInBounds (off+x.2) x.1) ys (v.cells.toList.zipIdx 0)).size=ys.size:=g1
       refine ⟨by rw [YW (by omega),← hr.1];exact g1,fun j hj => ?_⟩
       have g3:=g2 j
       simp only [Nat.add_zero,Array.length_toList] at g3
       rw [Array.getD_eq_getD_getElem?,g3]
       have hj':j<cs.length:=by rw [YW (by omega)] at hj;exact hj
       rcases setK_get (by omega) j hj with ⟨e1,e2,e3⟩ | ⟨e1,e2,e3⟩
       ·rw [e3,if_pos ⟨e1,by omega,by rw [hr.1];exact hj'⟩]
        have:=c3 (j-off) e2
        rw [Array.getD_eq_getD_getElem?] at this
        simpa using this
       rw [e3,if_neg (by omega)]
       have:=hr.2 j e2
       rw [Array.getD_eq_getD_getElem?] at this
       exact this
      obtain ⟨zs,z1,z2⟩:=Zbz l vs _ ds _ h hstep (by simpa using hl) fun j h h'=>hv (j+1) (by simp;omega) (by simp;omega)
      refine ⟨zs,?_,z2⟩
      unfold Instr.fill
      simp only [hp]
      rw [if_neg]
      ·exact z1
      have:=hr.1
      simp;omega
     cases h
def partsK (t:SM) (parts:Array (Nat × Operand)):List (Nat × CV):=parts.toList.map fun p=>(p.1,cev t p.2)
def partsV (a:Act) (parts:Array (Nat × Operand)):List (Nat × Value):=parts.toList.map fun p=>(p.1,a.eval p.2)
theorem Zb4 (a:Act) (parts:Array (Nat × Operand)):(parts.map fun ((i,x):Nat × Operand)=>(i,a.eval x)).toList=partsV a parts:=by
 rw [Array.toList_map];rfl
theorem Zb3 {ρ:Nms} {t:SM} (ht:TSat ρ n t a) (parts:Array (Nat × Operand)):(partsV a parts).length=(partsK t parts).length∧∀ j (h:j<(partsK t parts).length) (h':j<(partsV a parts).length),(partsV a parts)[j].1=(partsK t parts)[j].1∧Rv ρ (partsK t parts)[j].2 (partsV a parts)[j].2:=by
 refine ⟨by simp [partsK,partsV],fun j h h' => ?_⟩
 simp only [partsK,partsV,List.getElem_map]
 exact ⟨trivial,ht.ev _⟩
def zerosK (z:Value):List CV:=z.cells.toList.map .v
theorem ZaH (ρ:Nms) (z:Value):RvL ρ (zerosK z) z.cells:=⟨by simp [zerosK],fun j hj=>by
 have:j<z.cells.size:=by simpa [zerosK] using hj
 simp only [zerosK,List.getElem_map,Array.getElem_toList,Array.getD,this,dif_pos]
 exact .v _⟩
def placesK (P:Program) (T:TypeId):Option (Nat→Option (Nat × Nat)):=match P.underlying T with
 | some (.array _ e)=>match P.info? e with
   | some ie=>some fun i=>some (i*ie.size,ie.size)
   | none=>none
 | some (.struct fields)=>match fields.toList.mapM (fun f=>(P.info? f.type).map fun i=>(f.offset,i.size)) with
   | some places=>some (places.toArray[·]?)
   | none=>none
 | _=>none
def buildK (P:Program) (t:SM) (T:TypeId) (parts:Array (Nat × Operand)):Option CV:=match P.info? T with
 | some it=>match it.zero with
   | some z=>match placesK P T with
     | some pl=>match fillK pl (zerosK z) (partsK t parts) with
       | some ds=>some (.agg ds)
       | none=>none
     | none=>none
   | none=>none
 | none=>none
section
variable {P:Program} {t:SM} {H:HM} {nx:Nat} {o:Oper}
variable {T:TypeId}
theorem build_sp {parts:Array (Nat × Operand)} {u:CV} (ho:o.op = .build T parts) (h:buildK P t T parts=some u):OpS P t H nx o u H nx:=by
 unfold buildK at h
 split at h
 ·rename_i it hit
  split at h
  ·rename_i z hz
   split at h
   ·rename_i pl hpl
    split at h
    ·rename_i ds hf
     cases h
     refine ZT fun c ρ n a w hh ht => ?_
     obtain ⟨p1,p2⟩:=Zb3 ht parts
     obtain ⟨zs,z1,z2⟩:=Zbz _ _ _ _ _ hf (ZaH ρ z) p1 p2
     refine ⟨.agg zs,?_,.agg z2.1 z2.2⟩
     simp only [execOp,ho]
     refine Zw (run_build w T _ zs ?_)
     rw [Zb4]
     unfold placesK at hpl
     unfold Program.built
     split at hpl
     ·rename_i len e hu
      split at hpl
      ·rename_i ie hie
       cases hpl
       simp only [hit,hu,hz,hie]
       exact z1
      cases hpl
     ·rename_i fields hu
      split at hpl
      ·rename_i places hpl2
       cases hpl
       simp only [hit,hu,hz,hpl2]
       exact z1
      cases hpl
     cases hpl
    cases h
   cases h
  cases h
 cases h
def repK (z:List CV):Nat→List CV
 | 0=>[]
 | n+1=>z++repK z n
theorem Yq (z:List CV):∀ n,(repK z n).length=n*z.length
 | 0=>by simp [repK]
 | n+1=>by simp [repK,Yq z n,Nat.add_mul];omega
theorem repK_get (z:List CV):∀ n j (hj:j<(repK z n).length) (h:j % z.length<z.length),(repK z n)[j]=z[j % z.length]
 | 0,j,hj,_=>by simp [repK] at hj
 | n+1,j,hj,h=>by
   simp only [repK]
   by_cases hlt:j<z.length
   ·rw [List.getElem_append_left hlt]
    simp only [Nat.mod_eq_of_lt hlt]
   rw [List.getElem_append_right (by omega)]
   have hm:(j-z.length) % z.length=j % z.length:=by
    rw [← Nat.mod_eq_sub_mod (by omega)]
   rw [repK_get z n (j-z.length) (by rw [Yq] at hj ⊢;rw [Nat.add_mul] at hj;omega) (by rw [hm];exact h)]
   simp only [hm]
theorem madeK (ρ:Nms) (z:Value) (hz:0<z.cells.size) (n:Nat):RvL ρ (repK (zerosK z) n) (madeCells z.cells (n*z.cells.size)):=by
 have hl:(zerosK z).length=z.cells.size:=by simp [zerosK]
 refine ⟨by rw [size_madeCells,Yq,hl],fun j hj => ?_⟩
 have hj':j<n*z.cells.size:=by rw [Yq,hl] at hj;exact hj
 have hm:j % z.cells.size<z.cells.size:=Nat.mod_lt _ hz
 rw [repK_get _ n j hj (by rw [hl];exact hm)]
 have e:(madeCells z.cells (n*z.cells.size)).getD j undef=z.cells.getD (j % z.cells.size) undef:=by simp [madeCells,hj',Array.getD,hm]
 rw [e]
 have:=(ZaH ρ z).2 (j % z.cells.size) (by rw [hl];exact hm)
 simp only [hl]
 exact this
structure El (P:Program) (T:TypeId) where
 e:TypeId
 i:TypeInfo
 z:Value
def elK (P:Program) (T:TypeId):Option (El P T):=match P.underlying T with
 | some (.slice e)=>match P.info? e with
   | some i=>match i.zero with
     | some z=>match Nat.beq z.cells.size i.size&&Nat.blt 0 i.size with
       | true=>some ⟨e,i,z⟩
       | false=>none
     | none=>none
   | none=>none
 | _=>none
theorem WR {E:El P T} (h:elK P T=some E):P.underlying T=some (.slice E.e)∧P.info? E.e=some E.i∧E.i.zero=some E.z∧E.z.cells.size=E.i.size∧0<E.i.size:=by
 unfold elK at h
 split at h
 ·rename_i e hu
  split at h
  ·rename_i i hi
   split at h
   ·rename_i z hz
    split at h
    ·rename_i hb
     rw [Bool.and_eq_true] at hb
     cases h
     exact ⟨hu,hi,hz,Nat.eq_of_beq_eq_true hb.1,Nat.le_of_ble_eq_true hb.2⟩
    cases h
   cases h
  cases h
 cases h
def intK:CV→Option Nat
 | .v (.int _ (.ofNat n))=>some n
 | _=>none
theorem Zao {ρ:Nms} {X:CV} {x:Value} (h:intK X=some n) (hx:Rv ρ X x):∃ k,x = .int k (n:Int):=by
 unfold intK at h
 split at h
 ·rename_i k m
  cases h
  exact ⟨k,hx.v_inv⟩
 cases h
def newK {P:Program} (E:El P T) (n:Nat) (cs:List CV):CB := .cells E.e E.i.size n true cs
variable {b:Nat}
theorem newK_sp {E:El P T} (hz0:0<E.i.size) {ρ:Nms} {cs:List CV} {ys:Array Value} (hl:cs.length=n*E.i.size) (hn:Nat.ble n 1000000=true) (h:RvL ρ cs ys) :
 ∀ ρ' w',Ext ρ ρ'→w'.heap[b]? = some (.cells ys E.e (0,0))→BlkC ρ' w' ⟨b,n,E.i.size⟩ (newK E n cs):=fun ρ' w' e hw =>
 ⟨ys,hw,hl,by rw [h.1,hl],Nat.le_refl _,Zc1 hn,fun _=>rfl,rfl,hz0,fun j hj=>(h.2 j hj).ext e⟩
def makeK (P:Program) (t:SM) (T:TypeId) (x y:Operand) (nx:Nat):Option (CV × CB):=match elK P T with
 | some E=>match intK (cev t x) with
   | some l=>match intK (cev t y) with
     | some c=>match Nat.ble l c&&(Nat.ble c 1000000&&Nat.ble (E.i.bytes*c) 281474976710656) with
       | true=>some (.s nx 0 l c,newK E c (repK (zerosK E.z) c))
       | false=>none
     | none=>none
   | none=>none
 | none=>none
variable {x y:Operand}
theorem make_sp {u:CV} {X:CB} (ho:o.op = .makeSlice T x y) (h:makeK P t T x y nx=some (u,X)):OpS P t H nx o u (H.set nx (some X)) (nx+1):=by
 unfold makeK at h
 split at h
 ·rename_i E hE
  obtain ⟨e1,e2,e3,e4,e5⟩:=WR hE
  split at h
  ·rename_i l hl
   split at h
   ·rename_i m hm
    split at h
    ·rename_i hb
     rw [Bool.and_eq_true,Bool.and_eq_true] at hb
     obtain ⟨b1,b2,b3⟩:=hb
     have b1:=Nat.le_of_ble_eq_true b1
     have b3:=Nat.le_of_ble_eq_true b3
     have b4:=Nat.le_of_ble_eq_true b2
     cases h
     refine Zal fun c ρ n a w hh ht hn => ?_
     obtain ⟨k1,hx⟩:=Zao hl (ht.ev x)
     obtain ⟨k2,hy⟩:=Zao hm (ht.ev y)
     have hrun:=run_make (P:=P) w T E.e E.i E.z e1 e2 e3 k1 k2 l m (by omega) (by omega) (by have:=b3;omega) (by omega)
     simp only [Int.toNat_natCast] at hrun
     rw [← e4] at hrun
     refine ⟨_,.cells (madeCells E.z.cells (m*E.z.cells.size)) E.e,m,E.i.size,?_,.s (if_pos rfl),newK_sp e5 (by rw [Yq];simp [zerosK,e4]) b2 (madeK ρ E.z (by omega) m)⟩
     simp only [execOp,ho,hx,hy]
     exact Zw hrun
    cases h
   cases h
  cases h
 cases h
def bslK (P:Program) (t:SM) (T:TypeId) (n:Nat) (parts:Array (Nat × Operand)) (nx:Nat):Option (CV × CB):=match elK P T with
 | some E=>match Nat.ble (n*E.i.size) 1000000&&(Nat.ble n 1000000&&(Nat.blt 0 n||parts.isEmpty)) with
   | true=>match fillK (fun i=>some (i*E.i.size,E.i.size)) (repK (zerosK E.z) n) (partsK t parts) with
     | some ds=>match Nat.beq ds.length (n*E.i.size) with
       | true=>some (.s nx 0 n n,newK E n ds)
       | false=>none
     | none=>none
   | false=>none
 | none=>none
variable {m:Nat}
theorem bsl_sp {parts:Array (Nat × Operand)} {u:CV} {X:CB} (ho:o.op = .buildSlice T m parts) (h:bslK P t T m parts nx=some (u,X)):OpS P t H nx o u (H.set nx (some X)) (nx+1):=by
 unfold bslK at h
 split at h
 ·rename_i E hE
  obtain ⟨e1,e2,e3,e4,e5⟩:=WR hE
  split at h
  ·rename_i hb
   rw [Bool.and_eq_true,Bool.and_eq_true] at hb
   obtain ⟨hb1,hb2,hb3⟩:=hb
   have b1:=Nat.le_of_ble_eq_true hb1
   split at h
   ·rename_i ds hf
    split at h
    ·rename_i hd
     have hd:=Nat.eq_of_beq_eq_true hd
     cases h
     refine Zal fun c ρ n a w hh ht hn => ?_
     obtain ⟨p1,p2⟩:=Zb3 ht parts
     have hmk:=madeK ρ E.z (by omega) m
     obtain ⟨zs,z1,z2⟩:=Zbz _ _ _ _ _ hf hmk p1 p2
     refine ⟨.slice (some ⟨w.heap.size,0,none⟩) m m,.cells zs E.e,m,E.i.size,?_,.s (q:=⟨w.heap.size,m,E.i.size⟩) (if_pos rfl),newK_sp e5 hd hb2 z2⟩
     simp only [execOp,ho]
     refine Zw ?_
     rw [e4] at z1
     by_cases h0:m=0
     ·subst h0
      have hp:parts = #[]:=by
       rcases Bool.or_eq_true_iff.1 hb3 with h | h
       ·cases h
       simpa using h
      subst hp
      have hz:zs = #[]:=Array.eq_empty_of_size_eq_zero (by rw [z2.1,hd,Nat.zero_mul])
      subst hz
      have h0:Array.map (fun (_:Nat)=>(default:Value)) (Array.range 0) = #[]:=by apply Array.eq_empty_of_size_eq_zero;simp
      simp [Instr.buildSlice,run_underlying e1,sizeOf,typeInfo,e2,Instr.fill,newRow,h0]
     exact run_buildSlice (P:=P) w T E.e m _ zs E.i E.z e1 e2 e3 (by omega) (by have:=Nat.mul_pos (Nat.pos_of_ne_zero h0) e5;omega) (by rw [Zb4];exact z1)
    cases h
   cases h
  cases h
 cases h
theorem Wl {ρ:Nms} {t:SM} (ht:TSat ρ n t a) (xs:Array Operand):(xs.map a.eval).size=(xs.toList.map (cev t)).length∧∀ j (hj:j<(xs.toList.map (cev t)).length),Rv ρ (xs.toList.map (cev t))[j] ((xs.map a.eval).getD j undef):=by
 refine ⟨by simp,fun j hj => ?_⟩
 have:j<xs.size:=by simpa using hj
 simp only [List.getElem_map,Array.getElem_toList]
 have e:(xs.map a.eval).getD j undef=a.eval xs[j]:=by simp [Array.getD,this]
 rw [e]
 exact ht.ev _
theorem func_sp {f:Fn} {xs ys:Array Operand} (ho:o.op = .makeFunc f xs ys):OpS P t H nx o (.clo f (xs.toList.map (cev t)) (ys.toList.map (cev t))) H nx :=
 ZT fun c ρ n a w hh ht=>⟨.func f (xs.map a.eval) (ys.map a.eval),by simp only [execOp,ho];exact Zw rfl,.clo (Wl ht xs).1 (Wl ht xs).2 (Wl ht ys).1 (Wl ht ys).2⟩
theorem extract_sp {i:Nat} {cs:List CV} {u:CV} (ho:o.op = .extract x i) (hx:cev t x = .tup cs) (h:cs[i]? = some u):OpS P t H nx o u H nx :=
 ZT fun c ρ n a w hh ht=>by
  have he:=ht.ev x
  rw [hx] at he
  obtain ⟨vs,e1,e2,e3⟩:=he.tup_inv
  obtain ⟨hj,h⟩:=List.getElem?_eq_some_iff.1 h
  have hj':i<vs.size:=by omega
  refine ⟨vs.getD i undef,?_,by rw [← h];exact e3 i hj⟩
  simp only [execOp,ho,e1]
  exact Zw (by simp [Instr.extract,Array.getD,hj'])
def fieldK (P:Program) (T:TypeId) (f:Nat) (cs:List CV):Option CV:=match P.underlying T with
 | some (.struct fs)=>match fs[f]? with
   | some fl=>match P.underlying fl.type with
     | some d=>match d.isRow with
       | false=>cs[fl.offset]?
       | true=>match P.info? fl.type with
         | some i=>match Nat.ble (fl.offset+i.size) cs.length with
           | true=>some (.agg ((cs.drop fl.offset).take i.size))
           | false=>none
         | none=>none
     | none=>none
   | none=>none
 | _=>none
theorem field_sp {f:Nat} {cs:List CV} {u:CV} (ho:o.op = .field T x f) (hx:cev t x = .agg cs) (h:fieldK P T f cs=some u):OpS P t H nx o u H nx:=by
 unfold fieldK at h
 split at h
 ·rename_i fs hu
  split at h
  ·rename_i fl hf
   split at h
   ·rename_i d hd
    refine ZT fun c ρ n a w hh ht => ?_
    have he:=ht.ev x
    rw [hx] at he
    obtain ⟨vs,e1,e2,e3⟩:=he.agg_inv
    have h4:(isAgg fl.type).run P w = .ok d.isRow w:=by
     unfold isAgg
     rw [Sem.run_bind,run_underlying hd w]
     cases d<;>simp_all [TypeDesc.isRow]
    split at h
    ·rename_i hrow
     obtain ⟨hj,h⟩:=List.getElem?_eq_some_iff.1 h
     have hj':fl.offset<vs.size:=by omega
     refine ⟨vs.getD fl.offset undef,?_,by rw [← h];exact e3 _ hj⟩
     rw [hrow] at h4
     simp only [execOp,ho,e1]
     exact Zw (by simp [Instr.field,run_underlying hu,hf,asAgg,part,h4,Array.getD,hj'])
    rename_i hrow
    rw [hrow] at h4
    split at h
    ·rename_i i hi
     split at h
     ·rename_i hb
      have hb:=Nat.le_of_ble_eq_true hb
      cases h
      refine ⟨.agg (vs.extract fl.offset (fl.offset+i.size)),?_,.agg (by simp;omega) fun j hj => ?_⟩
      ·simp only [execOp,ho,e1]
       exact Zw (by simp [Instr.field,run_underlying hu,hf,asAgg,part,h4,sizeOf,typeInfo,hi])
      have hj2:j<i.size:=by simp at hj;omega
      have hj3:fl.offset+j<cs.length:=by omega
      have:=e3 (fl.offset+j) hj3
      have hv:(vs.extract fl.offset (fl.offset+i.size)).getD j undef=vs.getD (fl.offset+j) undef:=by
       have h1:fl.offset+j<vs.size:=by omega
       have h2:j<min (fl.offset+i.size) vs.size-fl.offset:=by omega
       simp [Array.getD,h1,h2]
      rw [hv]
      simpa using this
     cases h
    cases h
   cases h
  cases h
 cases h
end
def rdSl (H:HM) (z:Nat):CV→Option (Nat × List CV)
 | .v (.slice none 0 0)=>some (0,[])
 | .e=>some (0,[])
 | .s k o n c=>match H.get k with
   | some (.cells _ _ _ _ cs)=>match Nat.beq ((cs.drop o).take (n*z)).length (n*z)&&Nat.ble n c with
     | true=>some (n,(cs.drop o).take (n*z))
     | false=>none
   | _=>none
 | .g k o n=>match H.get k with
   | some (.cells _ zb nb _ cs)=>match Nat.beq zb z&&Nat.ble (o+n) nb with
     | true=>some (n,(cs.drop (o*z)).take (n*z))
     | false=>none
   | _=>none
 | _=>none
structure SlV (w:World) (x:Value) (z n:Nat) (ys:List Value):Prop where
 ex:∃ a c,x = .slice a n c∧n≤c∧(a=none→c=0)∧∀ ad,a=some ad→∀ j u,ys[j]? = some u→w.cell? (ad.add j)=some u
 len:ys.length=n*z
section
variable {P:Program} {t:SM} {H:HM} {nx:Nat} {o:Oper}
variable {e:TypeId}
theorem KF {ie:TypeInfo} (h:P.info? e=some ie) (w:World):(sizeOf e).run P w = .ok ie.size w:=by
 simp [sizeOf,typeInfo,h]
variable {w:World}{b off m:Nat}{ys:List Value}
theorem ZbA (hl:ys.length=m) (h:∀ j,j<m→w.cell? ⟨b,off+j,none⟩=some (ys.getD j undef)):∀ j u,ys[j]? = some u→w.cell? ((⟨b,off,none⟩:Addr).add j)=some u:=fun j u hu=>by
 obtain ⟨hj,e⟩:=List.getElem?_eq_some_iff.1 hu
 rw [Addr.add_mid,h j (by omega)]
 simp [hj,e]
variable {z:Nat}
theorem ZcR {c:Ctx} {ρ:Nms} (hh:HSat c ρ H w) {X:CV} {ds:List CV} (h:rdSl H z X=some (n,ds)) {x:Value} (hx:Rv ρ X x):∃ ys,SlV w x z n ys∧ds.length=n*z∧∀ j (hj:j<ds.length),Rv ρ ds[j] (ys.getD j undef):=by
 cases X with
 | v y =>
   have e:=hx.v_inv
   subst e
   unfold rdSl at h
   split at h<;>rename_i heq
   ·cases heq
    cases h
    exact ⟨[],⟨⟨none,0,rfl,Nat.le_refl _,fun _=>rfl,fun ad e=>by cases e⟩,by simp⟩,by simp,fun j hj=>by cases hj⟩
   ·cases heq
   ·cases heq
   ·cases heq
   cases h
 | e =>
   cases h
   cases hx with
   | e ha=>exact ⟨[],⟨⟨_,_,rfl,Nat.zero_le _,ha,fun ad _ j u hu=>by cases hu⟩,by simp⟩,by simp,fun j hj=>by cases hj⟩
 | s k o' m c' =>
   simp only [rdSl] at h
   split at h
   ·rename_i T zb nb ex cs hk
    split at h
    ·rename_i hb
     rw [Bool.and_eq_true] at hb
     cases h
     obtain ⟨q,hq,rfl⟩:=hx.s_inv
     obtain ⟨ys,h1,h2,h3⟩:=Zcx hh hk hq (m:=n*z) rfl (Nat.eq_of_beq_eq_true hb.1)
     exact ⟨ys,⟨⟨_,_,rfl,Nat.le_of_ble_eq_true hb.2,(fun e=>by cases e),fun ad e=>by cases e;exact ZbA h1 h2⟩,h1⟩,Nat.eq_of_beq_eq_true hb.1,h3⟩
    cases h
   cases h
 | g k o' m =>
   simp only [rdSl] at h
   split at h
   ·rename_i T zb nb ex cs hk
    split at h
    ·rename_i hb
     rw [Bool.and_eq_true] at hb
     cases h
     have hz:=Nat.eq_of_beq_eq_true hb.1
     have hn:=Nat.le_of_ble_eq_true hb.2
     subst hz
     obtain ⟨q,hq,rfl⟩:=hx.g_inv
     obtain ⟨q',hq',_,cur,hg,hc⟩:=hh.hp k _ hk
     rw [hq] at hq';cases hq'
     have hlen:(((cs.drop (o'*zb)).take (n*zb))).length=n*zb:=by
      have:=Nat.mul_le_mul_right zb hn
      rw [Nat.add_mul] at this
      have:=hc.len
      simp;omega
     obtain ⟨ys,h1,h2,h3⟩:=Zcx hh hk hq (m:=n*zb) rfl hlen
     have hle:=hc.le
     refine ⟨ys,⟨⟨_,_,rfl,by omega,fun e=>(by cases e),fun ad e => ?_⟩,h1⟩,hlen,h3⟩
     cases e
     rw [hc.zz]
     exact ZbA h1 h2
    cases h
   cases h
 | _=>cases h
def ixK (P:Program) (t:SM) (H:HM) (T:TypeId) (x y:Operand):Option CV:=match intK (cev t y) with
 | some i=>match P.underlying T with
   | some (.slice e)=>match P.info? e with
     | some ie=>match cev t x with
       | .s k o n _=>match Nat.blt i n with
         | true=>some (.p k (o+i*ie.size))
         | false=>none
       | .g k o n=>match H.get k with
         | some (.cells _ zb _ _ _)=>match Nat.blt i n with
           | true=>some (.p k (o*zb+i*ie.size))
           | false=>none
         | _=>none
       | _=>none
     | none=>none
   | some (.array len e)=>match P.info? e with
     | some ie=>match cev t x with
       | .p k o=>match Nat.blt i len with
         | true=>some (.p k (o+i*ie.size))
         | false=>none
       | _=>none
     | none=>none
   | _=>none
 | none=>none
variable {T:TypeId}{x y:Operand}
theorem ix_sp {u:CV} (ho:o.op = .indexAddr T x y) (h:ixK P t H T x y=some u):OpS P t H nx o u H nx:=by
 unfold ixK at h
 split at h
 ·rename_i i hi
  refine ZT fun c ρ n a w hh ht => ?_
  obtain ⟨ik,hy⟩:=Zao hi (ht.ev y)
  have hx:=ht.ev x
  split at h
  ·rename_i e hu
   split at h
   ·rename_i ie hie
    split at h
    ·rename_i k o' m c' hX
     split at h
     ·rename_i hb
      have hb:=Nat.le_of_ble_eq_true hb
      cases h
      rw [hX] at hx
      obtain ⟨q,hq,hv⟩:=hx.s_inv
      refine ⟨_,?_,.p (o:=o'+i*ie.size) hq⟩
      simp only [execOp,ho,hv,hy]
      exact Zw (by rw [Zae hu (z:=ie.size) (by rw [hie];rfl) _ _ _ _ _ _ (by omega) (by omega)];simp)
     cases h
    ·rename_i k o' m hX
     split at h
     ·rename_i T0 zb nb ex cs hk
      split at h
      ·rename_i hb
       have hb:=Nat.le_of_ble_eq_true hb
       cases h
       rw [hX] at hx
       obtain ⟨q,hq,hv⟩:=hx.g_inv
       obtain ⟨q',hq',_,cur,hg,hc⟩:=hh.hp k _ hk
       rw [hq] at hq';cases hq'
       refine ⟨_,?_,.p (o:=o'*zb+i*ie.size) hq⟩
       simp only [execOp,ho,hv,hy]
       exact Zw (by rw [Zae hu (z:=ie.size) (by rw [hie];rfl) _ _ _ _ _ _ (by omega) (by omega),hc.zz];simp)
      cases h
     cases h
    cases h
   cases h
  ·rename_i len e hu
   split at h
   ·rename_i ie hie
    split at h
    ·rename_i k o' hX
     split at h
     ·rename_i hb
      have hb:=Nat.le_of_ble_eq_true hb
      cases h
      rw [hX] at hx
      obtain ⟨q,hq,hv⟩:=hx.p_inv
      refine ⟨_,?_,.p (o:=o'+i*ie.size) hq⟩
      simp only [execOp,ho,hv,hy]
      refine Zw ?_
      simp [Instr.indexAt,asIntOf,run_underlying hu,Instr.sureAddr,sizeOf,typeInfo,hie,Addr.add_mid]
      intro hle
      omega
     cases h
    cases h
   cases h
  cases h
 cases h
def bdK (t:SM) (d:Nat):Option Operand→Option Nat
 | none=>some d
 | some y=>intK (cev t y)
theorem Za6 {ρ:Nms} (ht:TSat ρ n t a) {d m:Nat} {x:Option Operand} (h:bdK t d x=some m):(x=none∧m=d)∨∃ k,x.map a.eval=some (.int k (m:Int)):=by
 cases x with
 | none=>cases h;exact .inl ⟨rfl,rfl⟩
 | some y =>
   obtain ⟨k,hk⟩:=Zao h (ht.ev y)
   exact .inr ⟨k,by simp [hk]⟩
theorem Wf (v:Value) (k:IntKind) (m y:Nat) (code:BoundsCode) (hm:m≤y) (hv:v = .int k (m:Int)) (w:World):(Instr.sliceBound v y code).run P w = .ok m w:=by
 subst hv
 simp [Instr.sliceBound,asIntOf,hm]
theorem KG {ρ:Nms} {nn:Nat} (ht:TSat ρ nn t a) {b:Bool} {len cap l h m:Nat} {lo hi mx:Option Operand} (hl:bdK t 0 lo=some l) (hh:bdK t len hi=some h) (hm:bdK t cap mx=some m) (h1:l≤h) (h2:hi=none∨h≤m) (h3:m≤cap) (h4:hi=none→mx=none) (w:World) :
 (Instr.sliceBounds b len cap (lo.map a.eval) (hi.map a.eval) (mx.map a.eval)).run P w = .ok (l,h,m) w:=by
 rcases Za6 ht hm with ⟨rfl,rfl⟩ | ⟨km,em⟩
 ·rcases Za6 ht hh with ⟨rfl,rfl⟩ | ⟨kh,eh⟩
  ·rcases Za6 ht hl with ⟨rfl,rfl⟩ | ⟨kl,el⟩
   ·simp [Instr.sliceBounds]
   simp [Instr.sliceBounds,el,Wf _ kl l h .sliceB h1 rfl]
  have h2':h≤m:=by
   rcases h2 with h2 | h2
   ·subst h2;cases eh
   exact h2
  rcases Za6 ht hl with ⟨rfl,rfl⟩ | ⟨kl,el⟩
  ·simp [Instr.sliceBounds,eh,Wf _ kh h m _ h2' rfl]
  simp [Instr.sliceBounds,el,eh,Wf _ kh h m _ h2' rfl,Wf _ kl l h .sliceB h1 rfl]
 rcases Za6 ht hh with ⟨rfl,rfl⟩ | ⟨kh,eh⟩
 ·rw [h4 rfl] at em;cases em
 have h2':h≤m:=by
  rcases h2 with h2 | h2
  ·subst h2;cases eh
  exact h2
 rcases Za6 ht hl with ⟨rfl,rfl⟩ | ⟨kl,el⟩
 ·simp [Instr.sliceBounds,em,eh,Wf _ km m cap _ h3 rfl,Wf _ kh h m .slice3B h2' rfl]
 simp [Instr.sliceBounds,em,el,eh,Wf _ km m cap _ h3 rfl,Wf _ kh h m .slice3B h2' rfl,Wf _ kl l h .slice3C h1 rfl]
def okBd (l h m cap:Nat) (hi mx:Option Operand):Bool:=Nat.ble l h&&(Nat.ble m cap&&((hi.isNone&&mx.isNone)||Nat.ble h m))
variable {l h cap:Nat}
theorem okBd_sp {hi mx:Option Operand} (hb:okBd l h m cap hi mx=true):l≤h∧m≤cap∧(hi=none∨h≤m)∧(hi=none→mx=none∨h≤m):=by
 unfold okBd at hb
 rw [Bool.and_eq_true,Bool.and_eq_true,Bool.or_eq_true,Bool.and_eq_true] at hb
 obtain ⟨b1,b2,b3⟩:=hb
 refine ⟨Nat.le_of_ble_eq_true b1,Nat.le_of_ble_eq_true b2,?_,fun _ => ?_⟩
 ·rcases b3 with b3 | b3
  ·exact .inl (by simpa using b3.1)
  exact .inr (Nat.le_of_ble_eq_true b3)
 rcases b3 with b3 | b3
 ·exact .inl (by simpa using b3.2)
 exact .inr (Nat.le_of_ble_eq_true b3)
def cutK (P:Program) (t:SM) (H:HM) (T:TypeId) (x:Operand) (lo hi mx:Option Operand):Option CV:=match hi.isNone&&mx.isSome,bdK t 0 lo with
 | false,some l=>match P.underlying T with
   | some (.slice e)=>match P.info? e with
     | some ie=>match cev t x with
       | .s k o n c=>match bdK t n hi,bdK t c mx with
         | some h,some m=>match okBd l h m c hi mx with
           | true=>some (.s k (match Nat.beq m l with | true=>o | false=>o+l*ie.size) (h-l) (m-l))
           | false=>none
         | _,_=>none
       | .g k o n=>match H.get k,bdK t n hi,mx with
         | some (.cells _ zb nb _ _),some h,none=>match (Nat.beq zb ie.size&&Nat.ble l h)&&Nat.ble (o+h) nb with
           | true=>match Nat.beq l 0||Nat.blt (o+l) nb with
             | true=>some (.g k (o+l) (h-l))
             | false=>match Nat.beq h l with
               | true=>some .e
               | false=>none
           | false=>none
         | some (.cells _ zb nb _ _),some h,some y=>match intK (cev t y) with
           | some m=>match (Nat.beq zb ie.size&&(Nat.ble l h&&hi.isSome))&&(Nat.ble h m&&Nat.ble (o+m) nb) with
             | true=>some (.s k (match Nat.beq m l with | true=>o*zb | false=>o*zb+l*ie.size) (h-l) (m-l))
             | false=>none
           | none=>none
         | _,_,_=>none
       | _=>none
     | none=>none
   | some (.array len e)=>match P.info? e with
     | some ie=>match cev t x with
       | .p k o=>match bdK t len hi,bdK t len mx with
         | some h,some m=>match okBd l h m len hi mx with
           | true=>some (.s k (match Nat.beq m l with | true=>o | false=>o+l*ie.size) (h-l) (m-l))
           | false=>none
         | _,_=>none
       | _=>none
     | none=>none
   | _=>none
 | _,_=>none
theorem at_of (b o l z m:Nat):(if m=l then (some (⟨b,o,none⟩:Addr)) else some ((⟨b,o,none⟩:Addr).add (l*z)))=some ⟨b,match Nat.beq m l with | true=>o | false=>o+l*z,none⟩:=by
 cases h:Nat.beq m l with
 | true=>rw [if_pos (Nat.eq_of_beq_eq_true h)]
 | false=>rw [if_neg (Nat.ne_of_beq_eq_false h),Addr.add_mid]
theorem cut_sp {lo hi mx:Option Operand} {u:CV} (ho:o.op = .slice T x lo hi mx) (h:cutK P t H T x lo hi mx=some u):OpS P t H nx o u H nx:=by
 unfold cutK at h
 split at h
 ·rename_i l hhm hl
  have h4:hi=none→mx=none:=fun e=>by
   rw [Bool.and_eq_false_iff] at hhm
   rcases hhm with hhm | hhm
   ·rw [e] at hhm;cases hhm
   simpa using hhm
  refine ZT fun c ρ nn a w hh ht => ?_
  have hx:=ht.ev x
  split at h
  ·rename_i e hu
   split at h
   ·rename_i ie hie
    split at h
    ·rename_i k o' n c' hX
     split at h
     ·rename_i h' m eh em
      split at h
      ·rename_i hb
       obtain ⟨b1,b2,b3,b4⟩:=okBd_sp hb
       cases h
       rw [hX] at hx
       obtain ⟨q,hq,hv⟩:=hx.s_inv
       refine ⟨_,?_,.s hq⟩
       simp only [execOp,ho,hv]
       refine Zw ?_
       simp only [Instr.sliceAt,Instr.slice,Sem.run_bind,run_underlying hu,Result.andThen_ok,KG ht hl eh em b1 b3 b2 h4 w,KF hie,Sem.run_pure,Option.map_some,at_of]
      cases h
     cases h
    ·rename_i k o' n hX
     rw [hX] at hx
     obtain ⟨q,hq,hv⟩:=hx.g_inv
     split at h
     ·rename_i T0 zb nb ex cs h' hk eh
      obtain ⟨q',hq',_,cur,hg,hc⟩:=hh.hp k _ hk
      rw [hq] at hq';cases hq'
      split at h
      ·rename_i hb
       rw [Bool.and_eq_true,Bool.and_eq_true] at hb
       obtain ⟨⟨b1,b2⟩,b3⟩:=hb
       have b1:=Nat.eq_of_beq_eq_true b1
       have b2:=Nat.le_of_ble_eq_true b2
       have b3:=Nat.le_of_ble_eq_true b3
       subst b1
       have hle:=hc.le
       have hrun:(execOp a.eval o).run P w = .ok (.value (.slice (if q.C-o'=l then some ⟨q.b,o'*q.z,none⟩ else some ((⟨q.b,o'*q.z,none⟩:Addr).add (l*ie.size))) (h'-l) (q.C-o'-l))) w:=by
        simp only [execOp,ho,hv]
        refine Zw ?_
        have hbs:=KG (P:=P) (b:=true) (cap:=q.C-o') (mx:=none) ht hl eh rfl b2 (.inr (by omega)) (Nat.le_refl _) (fun _=>rfl) w
        simp only [Option.map_none] at hbs
        simp only [Instr.sliceAt,Instr.slice,Sem.run_bind,run_underlying hu,Result.andThen_ok,Option.map_none,hbs,KF hie,Sem.run_pure,Option.map_some]
       split at h
       ·rename_i hb4
        cases h
        refine ⟨_,hrun,?_⟩
        have e1:(if q.C-o'=l then some (⟨q.b,o'*q.z,none⟩:Addr) else some ((⟨q.b,o'*q.z,none⟩:Addr).add (l*ie.size)))=some ⟨q.b,(o'+l)*q.z,none⟩:=by
         rw [hc.zz]
         rcases Bool.or_eq_true_iff.1 hb4 with h0 | h0
         ·have:=Nat.eq_of_beq_eq_true h0
          subst this
          simp [Addr.add]
         have:=Nat.le_of_ble_eq_true h0
         rw [if_neg (by omega),Addr.add_mid,Nat.add_mul]
        rw [e1,Nat.sub_sub]
        exact .g hq
       split at h
       ·rename_i hb5
        have:=Nat.eq_of_beq_eq_true hb5
        subst this
        cases h
        refine ⟨_,hrun,?_⟩
        rw [Nat.sub_self]
        exact .e fun e=>by split at e<;>cases e
       cases h
      cases h
     ·rename_i T0 zb nb ex cs h' y hk eh
      obtain ⟨q',hq',_,cur,hg,hc⟩:=hh.hp k _ hk
      rw [hq] at hq';cases hq'
      split at h
      ·rename_i m em
       split at h
       ·rename_i hb
        rw [Bool.and_eq_true,Bool.and_eq_true,Bool.and_eq_true,Bool.and_eq_true] at hb
        obtain ⟨⟨b1,b2,b3⟩,b4,b5⟩:=hb
        have b1:=Nat.eq_of_beq_eq_true b1
        have b2:=Nat.le_of_ble_eq_true b2
        have b4:=Nat.le_of_ble_eq_true b4
        have b5:=Nat.le_of_ble_eq_true b5
        subst b1
        have hle:=hc.le
        cases h
        refine ⟨_,?_,.s hq⟩
        simp only [execOp,ho,hv]
        refine Zw ?_
        have hbs:=KG (P:=P) (b:=true) (cap:=q.C-o') (mx:=some y) ht hl eh em b2 (.inr b4) (by omega) h4 w
        simp only [Option.map_some] at hbs
        simp only [Instr.sliceAt,Instr.slice,Sem.run_bind,run_underlying hu,Result.andThen_ok,hbs,KF hie,Sem.run_pure,Option.map_some,at_of,hc.zz]
       cases h
      cases h
     cases h
    cases h
   cases h
  ·rename_i len e hu
   split at h
   ·rename_i ie hie
    split at h
    ·rename_i k o' hX
     split at h
     ·rename_i h' m eh em
      split at h
      ·rename_i hb
       obtain ⟨b1,b2,b3,b4⟩:=okBd_sp hb
       cases h
       rw [hX] at hx
       obtain ⟨q,hq,hv⟩:=hx.p_inv
       refine ⟨_,?_,.s hq⟩
       simp only [execOp,ho,hv]
       refine Zw ?_
       simp only [Instr.sliceAt,Instr.sureAddr,Sem.run_bind,run_underlying hu,Result.andThen_ok,KG ht hl eh em b1 b3 b2 h4 w,KF hie,Sem.run_pure]
       have:=at_of q.b o' l ie.size m
       by_cases hml:m=l
       ·rw [if_pos hml] at this
        rw [if_pos hml,this]
       rw [if_neg hml] at this
       rw [if_neg hml,this]
      cases h
     cases h
    cases h
   cases h
  cases h
 cases h
def lenK (P:Program) (t:SM) (T:TypeId) (x:Operand):Option CV:=match P.underlying T with
 | some (.slice _)=>match cev t x with
   | .s _ _ n _=>some (.v (.int .i64 n))
   | .g _ _ n=>some (.v (.int .i64 n))
   | .e=>some (.v (.int .i64 0))
   | _=>none
 | _=>none
theorem len_sp {u:CV} (ho:o.op = .call ⟨.builtin .len,⟨[x]⟩,⟨[T]⟩⟩) (h:lenK P t T x=some u):OpS P t H nx o u H nx:=by
 unfold lenK at h
 split at h
 ·rename_i e hu
  refine ZT fun c ρ n a w hh ht => ?_
  have hx:=ht.ev x
  have key:∀ ad m c',a.eval x = .slice ad m c'→(execOp a.eval o).run P w = .ok (.value (.int .i64 m)) w:=fun ad m c' e'=>by
   simp [execOp,ho,resolve,invoke,builtin,e',Zbl hu]
  split at h
  ·rename_i k o' m c' hX
   cases h
   rw [hX] at hx
   obtain ⟨q,_,hv⟩:=hx.s_inv
   exact ⟨_,key _ _ _ hv,.v _⟩
  ·rename_i k o' m hX
   cases h
   rw [hX] at hx
   obtain ⟨q,_,hv⟩:=hx.g_inv
   exact ⟨_,key _ _ _ hv,.v _⟩
  ·rename_i hX
   cases h
   rw [hX] at hx
   generalize hv:a.eval x=v at hx
   cases hx with
   | e ha=>exact ⟨_,key _ _ _ hv,.v _⟩
  cases h
 cases h
def capK (P:Program) (t:SM) (T:TypeId) (x:Operand):Option CV:=match P.underlying T with
 | some (.slice _)=>match cev t x with
   | .s _ _ _ c=>some (.v (.int .i64 c))
   | _=>none
 | _=>none
theorem cap_sp {u:CV} (ho:o.op = .call ⟨.builtin .cap,⟨[x]⟩,⟨[T]⟩⟩) (h:capK P t T x=some u):OpS P t H nx o u H nx:=by
 unfold capK at h
 split at h
 ·rename_i e hu
  refine ZT fun c ρ n a w hh ht => ?_
  have hx:=ht.ev x
  split at h
  ·rename_i k o' m c' hX
   cases h
   rw [hX] at hx
   obtain ⟨q,_,hv⟩:=hx.s_inv
   refine ⟨.int .i64 c',?_,.v _⟩
   simp [execOp,ho,resolve,invoke,builtin,hv,Builtin.cap_,run_underlying hu,goInt]
  cases h
 cases h
end
set_option maxHeartbeats 12800000
section
variable {P:Program} {t:SM} {H:HM} {nx:Nat} {o:Oper}
variable {nx':Nat}
theorem ops_gen {u:CV} {H':HM} (h:∀ (c:Ctx) (ρ:Nms) (n:Nat) (a:Act) (w:World),HSat c ρ H w→TSat ρ n t a→(∀ k,nx≤k→k<nx'→ρ k=none)→∃ ρ' w' v,(execOp a.eval o).run P w = .ok (.value v) w'∧KPost c ρ H' nx nx' u ρ' w' v):OpS P t H nx o u H' nx':=by
 intro c ρ n a w K Q hh ht hf hk
 obtain ⟨ρ',w',v,h1,h2⟩:=h c ρ n a w hh ht hf
 unfold Oper.wp
 rw [h1]
 exact hk ρ' w' v h2
theorem HSat.drew {c:Ctx} {ρ:Nms} {w:World} (hh:HSat c ρ H w):HSat c ρ H w.drew:=⟨hh.inj,hh.lo,fun k X hk=>by
 obtain ⟨q,h1,h2,h3⟩:=hh.hp k X hk
 exact ⟨q,h1,h2,h3.ext (.refl ρ) rfl⟩,hh.os,hh.tape,hh.output,hh.size,hh.keep⟩
variable {w:World}
theorem HSat.drop {c:Ctx} {ρ:Nms} (hh:HSat c ρ H w) (k:Nat):HSat c ρ (H.set k none) w:=by
 have hg:∀ {j X},(H.set k none).get j=some X→H.get j=some X:=fun {j X} h=>by
  rw [Tr.get_set] at h
  split at h
  ·cases h
  exact h
 exact ⟨fun i j X Y p q hi hj=>hh.inj i j X Y p q (hg hi) (hg hj),hh.lo,fun j X hj=>hh.hp j X (hg hj),hh.os,hh.tape,hh.output,hh.size,hh.keep⟩
variable {w':World}{v:Value}
theorem Ky {c:Ctx} {ρ:Nms} {H':HM} {u:CV} {q:Pl} (hn:ρ nx=none) (hs:HSat c (kupd ρ nx q) H' w') (hr:Rv (kupd ρ nx q) u v):KPost c ρ H' nx (nx+1) u (kupd ρ nx q) w' v:=⟨Wm hn,fun k h h'=>by
 by_cases e:k=nx
 ·subst e;exact ⟨Nat.le_refl _,Nat.lt_succ_self _⟩
 unfold kupd at h';rw [if_neg e] at h';exact absurd h h',hs,hr⟩
variable {k:Nat}
theorem HSat.mv {c:Ctx} {ρ:Nms} (hh:HSat c ρ H w) {Y X:CB} {q q':Pl} (hk:H.get k=some Y) (hq:ρ k=some q) (hn:ρ nx=none) (hb:q'.b=q.b) (os:w'.os=w.os) (tape:w'.tape=w.tape) (output:w'.output=w.output) (size:w'.heap.size=w.heap.size)
 (ho:∀ b,b≠q.b→w'.heap[b]? = w.heap[b]?) (hX:BlkC (kupd ρ nx q') w' q' X):HSat c (kupd ρ nx q') ((H.set k none).set nx (some X)) w':=by
 have hself:kupd ρ nx q' nx=some q':=if_pos rfl
 have hoth:∀ j,j≠nx→kupd ρ nx q' j=ρ j:=fun j hj=>if_neg hj
 have hg:∀ {j Z},((H.set k none).set nx (some X)).get j=some Z→(j=nx∧Z=X)∨(j≠nx∧j≠k∧H.get j=some Z):=fun {j Z} h=>by
  rw [Tr.get_set,Tr.get_set] at h
  split at h
  ·rename_i e;exact .inl ⟨e,(Option.some.inj h).symm⟩
  rename_i e
  split at h
  ·cases h
  rename_i e2;exact .inr ⟨e,e2,h⟩
 refine ⟨fun i j A B p r hi hj hp hr e => ?_,fun i r hi => ?_,fun i Z hi => ?_,os.trans hh.os,tape.trans hh.tape,output.trans hh.output,by rw [size];exact hh.size,fun b hb' hO => ?_⟩
 ·rcases hg hi with ⟨e1,_⟩ | ⟨e1,e2,hi⟩
  ·rcases hg hj with ⟨e3,_⟩ | ⟨e3,e4,hj⟩
   ·rw [e1,e3]
   rw [e1,hself] at hp;cases hp
   rw [hoth j e3] at hr
   exact absurd (hh.inj j k _ _ r q hj hk hr hq (by rw [← e,hb])) e4
  rcases hg hj with ⟨e3,_⟩ | ⟨e3,e4,hj⟩
  ·rw [e3,hself] at hr;cases hr
   rw [hoth i e1] at hp
   exact absurd (hh.inj i k _ _ p q hi hk hp hq (by rw [e,hb])) e2
  rw [hoth i e1] at hp
  rw [hoth j e3] at hr
  exact hh.inj i j _ _ p r hi hj hp hr e
 ·rw [size]
  by_cases e:i=nx
  ·rw [e,hself] at hi;cases hi;rw [hb];exact hh.lo k q hq
  rw [hoth i e] at hi;exact hh.lo i r hi
 ·rcases hg hi with ⟨e1,e2⟩ | ⟨e1,e2,hi⟩
  ·subst e1;subst e2
   obtain ⟨q0,h1,h2,_⟩:=hh.hp k Y hk
   rw [hq] at h1;cases h1
   exact ⟨q',hself,by rw [hb];exact h2,hX⟩
  obtain ⟨r,h1,h2,h3⟩:=hh.hp i Z hi
  exact ⟨r,by rw [hoth i e1];exact h1,h2,h3.ext (Wm hn) (ho r.b fun e3=>e2 (hh.inj i k Z Y r q hi hk h1 hq e3))⟩
 obtain ⟨q0,h1,h2,_⟩:=hh.hp k Y hk
 rw [hq] at h1;cases h1
 rw [ho b fun e=>by subst e;rcases h2 with h2 | h2;omega;exact hO h2]
 exact hh.keep b hb' hO
variable {ys:List Value}
theorem Zb6 {ρ:Nms} {ds:List CV} (hl:ys.length=ds.length) (hc:ds.all CV.cell=true) (h:∀ j (hj:j<ds.length),Rv ρ ds[j] (ys.getD j undef)):∀ u∈ys,u.oneCell'=true:=fun u hu=>by
 obtain ⟨j,hj,rfl⟩:=List.getElem_of_mem hu
 have:=(h j (by omega)).one (List.all_eq_true.1 hc _ (List.getElem_mem _))
 simpa [hj] using this
variable {T ty e:TypeId}{b off cap m:Nat}
theorem Kw {ie:TypeInfo} (hu:P.underlying T=some (.slice e)) (hi:P.info? e=some ie) {x:Value} (hx:SlV w x ie.size m ys) (hroom:n+m≤cap) (h1:∀ v∈ys,v.oneCell'=true) (ht:w.there b (off+n*ie.size) ys.length) :
 (Builtin.append_ #[T,T] ty #[.slice (some ⟨b,off,none⟩) n cap,x]).run P w = .ok (.slice (some ⟨b,off,none⟩) (n+m) cap) (w.setCells b (off+n*ie.size) ys):=by
 obtain ⟨⟨a,c,rfl,hmc,hn,hc⟩,hl⟩:=hx
 have hst:=run_storeCells_cells (P:=P) b (off+n*ie.size) ys 0 w (fun j hj=>by simpa using (ht j hj).1) (fun j hj=>by simpa using (ht j hj).2) h1
 simp only [Nat.add_zero] at hst
 have hf:(Builtin.firstCells ie.size m (.slice a m c)).run P w = .ok ys.toArray w:=by
  cases a with
  | none =>
    have:=hn rfl
    have:m=0:=by omega
    subst this
    have:ys=[]:=List.eq_nil_of_length_eq_zero (by simpa using hl)
    subst this
    exact run_firstCells_none _ _ _ _ _
  | some ad=>exact run_firstCells_some _ _ _ _ _ _ _ hl (hc ad rfl)
 simp only [Builtin.append_,List.getElem?_toArray,List.getElem?_cons_zero,List.getElem?_cons_succ,Sem.run_bind,run_underlying hu,Result.andThen_ok,KF hi,Sem.run_pure,Builtin.lenOf]
 simp only [Bool.false_eq_true,if_false,Sem.run_pure,Result.andThen_ok,hroom,if_true,Sem.run_bind,Bool.not_false,hf,Addr.add_mid,hst]
theorem ZbB {E:El P T} (hE:elK P T=some E) {v x:Value} {olds ys:List Value} (hv:(v = .slice none 0 0∧n=0∧cap=0∧olds=[])∨∃ b,v = .slice (some b) n cap∧∀ j u,olds[j]? = some u→w.cell? (b.add j)=some u) (hlo:olds.length=n*E.i.size) (hx:SlV w x E.i.size m ys) (hg:cap<n+m) (h0:0<m) (hn:n+m≤1000000) (hby:(n+m)*E.i.bytes≤140737488355328) :
 ∃ C,n+m≤C∧C≤maxLen∧(Builtin.append_ #[T,T] ty #[v,x]).run P w = .ok (.slice (some ⟨w.heap.size,0,none⟩) (n+m) C) (w.drew.alloc (.cells ((olds++ys).toArray++Builtin.zeroCells E.z.cells (C-(n+m))) E.e)):=by
 obtain ⟨e1,e2,e3,e4,e5⟩:=WR hE
 obtain ⟨⟨a,c,rfl,hmc,hnn,hc⟩,hl⟩:=hx
 cases a with
 | none=>have:=hnn rfl;omega
 | some ad =>
   have hml:n+m≤maxLen:=by simp only [maxLen];omega
   rcases hv with ⟨rfl,rfl,rfl,rfl⟩ | ⟨b,rfl,holds⟩
   ·have hr:=run_append_nil (P:=P) w T ty E.e E.i E.z e1 e2 e3 ad m c ys hl (hc ad rfl) h0 (by omega) (by simp only [Nat.zero_add] at hby;omega)
    refine ⟨grownCap w (0+m) 0 E.e,grownCap_ge _ _ _ _,grownCap_le_maxLen _ _ _ _ hml,?_⟩
    simp only [Nat.zero_add,List.nil_append] at hr ⊢
    exact hr
   have hr:=run_append_grow (P:=P) w T ty E.e E.i E.z e1 e2 e3 b n cap olds hlo holds ad m c ys hl (hc ad rfl) hg (by omega) (growslice_fits hg hby)
   refine ⟨grownCap w (n+m) cap E.e,grownCap_ge _ _ _ _,grownCap_le_maxLen _ _ _ _ hml,?_⟩
   rw [hr]
   simp
theorem ZbC {E:El P T} (hE:elK P T=some E) {ρ:Nms} {b n C:Nat} {ds:List CV} (hl:ys.length=ds.length) (hn:ds.length=n*E.i.size) (h1:n≤C) (h2:C≤maxLen) (h:∀ j (hj:j<ds.length),Rv ρ ds[j] (ys.getD j undef)) :
 ∀ ρ' w',Ext ρ ρ'→w'.heap[b]? = some (.cells (ys.toArray++Builtin.zeroCells E.z.cells (C-n)) E.e (0,0))→BlkC ρ' w' ⟨b,C,E.i.size⟩ (.cells E.e E.i.size n false ds):=fun ρ' w' e hw=>by
 obtain ⟨e1,e2,e3,e4,e5⟩:=WR hE
 refine ⟨_,hw,hn,?_,h1,h2,(fun h=>by cases h),rfl,e5,fun j hj => ?_⟩
 ·simp only [Array.size_append,List.size_toArray,size_zeroCells,e4,hl,hn,← Nat.add_mul]
  congr 1
  omega
 have:(ys.toArray++Builtin.zeroCells E.z.cells (C-n)).getD j undef=ys.getD j undef:=by
  have hj':j<ys.length:=by omega
  rw [Array.getD_eq_getD_getElem?,Array.getElem?_append_left (by simpa using hj')]
  simp
 rw [this]
 exact (h j hj).ext e
theorem getD_app {xs ys:List Value} {cs ds:List CV} {ρ:Nms} (hx:xs.length=cs.length) (h1:∀ j (hj:j<cs.length),Rv ρ cs[j] (xs.getD j undef)) (h2:∀ j (hj:j<ds.length),Rv ρ ds[j] (ys.getD j undef)):∀ j (hj:j<(cs++ds).length),Rv ρ (cs++ds)[j] ((xs++ys).getD j undef):=fun j hj=>by
 by_cases h:j<cs.length
 ·rw [List.getElem_append_left h,List.getD_eq_getElem?_getD,List.getElem?_append_left (by omega),← List.getD_eq_getElem?_getD]
  exact h1 j h
 rw [List.getElem_append_right (by omega),List.getD_eq_getElem?_getD,List.getElem?_append_right (by omega),← List.getD_eq_getElem?_getD,hx]
 exact h2 (j-cs.length) (by simp at hj;omega)
def apK (P:Program) (t:SM) (H:HM) (nx:Nat) (T:TypeId) (s x:Operand):Option (CV × HM × Nat):=match elK P T with
 | none=>none
 | some E=>match rdSl H E.i.size (cev t x) with
   | none=>none
   | some (m,ds)=>match ds.all CV.cell with
     | false=>none
     | true=>match cev t s with
       | .v (.slice none 0 0)=>match m with
         | 0=>some (.v (.slice none 0 0),H,nx)
         | m+1=>match Nat.ble (m+1) 1000000&&Nat.ble ((m+1)*E.i.bytes) 140737488355328 with
           | true=>some (.g nx 0 (m+1),H.set nx (some (.cells E.e E.i.size (m+1) false ds)),nx+1)
           | false=>none
       | .s k o n c=>match Nat.ble (n+m) c with
         | true=>match H.get k with
           | some (.cells T0 zb nb ex cs)=>match Nat.ble (o+(n+m)*E.i.size) cs.length with
             | true=>some (.s k o (n+m) c,H.set k (some (.cells T0 zb nb ex (setK cs (o+n*E.i.size) ds))),nx)
             | false=>none
           | _=>none
         | false=>match rdSl H E.i.size (.s k o n c) with
           | some (n',os)=>match Nat.beq n' n&&(Nat.ble (n+m) 1000000&&Nat.ble ((n+m)*E.i.bytes) 140737488355328) with
             | true=>some (.g nx 0 (n+m),H.set nx (some (.cells E.e E.i.size (n+m) false (os++ds))),nx+1)
             | false=>none
           | none=>none
       | .g k 0 n=>match H.get k with
         | some (.cells T0 zb nb ex cs)=>match (Nat.beq T0 E.e&&Nat.beq zb E.i.size)&&(Nat.ble n nb&&(Nat.ble (n+m) 1000000&&Nat.ble ((n+m)*E.i.bytes) 140737488355328)) with
           | true=>match Nat.ble (n+m) nb with
             | true=>some (.g k 0 (n+m),H.set k (some (.cells T0 zb nb ex (setK cs (n*E.i.size) ds))),nx)
             | false=>some (.g nx 0 (n+m),(H.set k none).set nx (some (.cells T0 zb (n+m) false (cs.take (n*E.i.size)++ds))),nx+1)
           | false=>none
         | _=>none
       | _=>none
variable {s x:Operand}
theorem K4 (ho:o.op = .call ⟨.builtin .append,⟨[s,x]⟩,⟨[T,T]⟩⟩) (h:(Builtin.append_ #[T,T] o.type #[a.eval s,a.eval x]).run P w = .ok v w'):(execOp a.eval o).run P w = .ok (.value v) w':=by
 simp only [execOp,ho,resolve,invoke,builtin,Sem.run_bind,Sem.run_pure,Result.andThen_ok,List.map_toArray,List.map_cons,List.map_nil,h]
variable {ex:Bool}
theorem ap_amb {E:El P T} (hE:elK P T=some E) (ho:o.op = .call ⟨.builtin .append,⟨[s,x]⟩,⟨[T,T]⟩⟩) {c:Ctx} {ρ:Nms} (hh:HSat c ρ H w) {k nb n m:Nat} {cs ds:List CV} (hk:H.get k=some (.cells E.e E.i.size nb ex cs)) {q:Pl} (hq:ρ k=some q) (hv:a.eval s = .slice (some ⟨q.b,0,none⟩) n q.C)
 (hsl:SlV w (a.eval x) E.i.size m ys) (hyl:ys.length=ds.length) (hdl:ds.length=m*E.i.size) (hone:ds.all CV.cell=true) (hds:∀ j (hj:j<ds.length),Rv ρ ds[j] (ys.getD j undef)) (b3:n≤nb) (b4:n+m≤1000000) (b5:(n+m)*E.i.bytes≤140737488355328) (hin:¬ n+m≤nb) (hn:ρ nx=none) :
 ∃ ρ' w' v,(execOp a.eval o).run P w = .ok (.value v) w'∧KPost c ρ ((H.set k none).set nx (some (.cells E.e E.i.size (n+m) false (cs.take (n*E.i.size)++ds)))) nx (nx+1) (.g nx 0 (n+m)) ρ' w' v:=by
 obtain ⟨e1,e2,e3,e4,e5⟩:=WR hE
 obtain ⟨q',hq',_,cur,hg,hc⟩:=hh.hp k _ hk
 rw [hq] at hq';cases hq'
 have hcl:=hc.len
 have hcs:=hc.size
 have hle:=hc.le
 have hmul:=Nat.mul_le_mul_right E.i.size b3
 have hthere:n+m≤q.C→w.there q.b (n*E.i.size) ys.length:=fun hle j hj=>by
  have h1:=Nat.mul_le_mul_right E.i.size hle
  rw [Nat.add_mul] at h1
  have h2:n*E.i.size+j<cur.size:=by omega
  refine ⟨?_,frozenB hg _⟩
  rw [Zv hg _ (v:=cur[n*E.i.size+j]) (by simp [h2])]
  rfl
 have htk:(cs.take (n*E.i.size)).length=n*E.i.size:=by simp;omega
 obtain ⟨zs,z1,z2,z3⟩:=Zcx hh hk hq (off:=0) (m:=n*E.i.size) (ds:=cs.take (n*E.i.size)) (by simp) htk
 by_cases hroom:n+m≤q.C
 ·have hrun:=Kw (P:=P) (ty:=o.type) (off:=0) (cap:=q.C) e1 e2 hsl hroom (Zb6 hyl hone hds) (by rw [Nat.zero_add];exact hthere hroom)
  simp only [Nat.zero_add] at hrun
  obtain ⟨q1,q2,q3⟩:=Yc q.b ys (n*E.i.size) w
  have hfit:n*E.i.size+ys.length≤cur.size:=by
   have h1:=Nat.mul_le_mul_right E.i.size hroom
   rw [Nat.add_mul] at h1
   omega
  obtain ⟨cur',hg',hs',hget⟩:=Yk ys (n*E.i.size) w cur hg hfit
  have hblk:BlkC (kupd ρ nx q) (w.setCells q.b (n*E.i.size) ys) q (.cells E.e E.i.size (n+m) false (cs.take (n*E.i.size)++ds)):=by
   refine ⟨cur',hg',by simp only [List.length_append,htk,hdl,Nat.add_mul],by rw [hs',hcs],hroom,hc.max,(fun h=>by cases h),hc.zz,hc.z0,fun j hj => ?_⟩
   refine Rv.ext (Wm hn) ?_
   have hgj:=hget j
   rw [Array.getD_eq_getD_getElem?,hgj]
   by_cases hj2:j<n*E.i.size
   ·rw [if_neg (by omega),List.getElem_append_left (by omega)]
    have hj3:j<cs.length:=by omega
    have:=hc.h j hj3
    rw [Array.getD_eq_getD_getElem?] at this
    simpa using this
   have hj4:j-n*E.i.size<ds.length:=by simp only [List.length_append,htk] at hj;omega
   rw [if_pos (by omega),List.getElem_append_right (by omega)]
   have:=hds (j-n*E.i.size) hj4
   rw [List.getD_eq_getElem?_getD] at this
   simp only [htk]
   exact this
  refine ⟨_,_,_,K4 ho (by rw [hv];exact hrun),Ky (q:=q) hn (hh.mv hk hq hn rfl q1 q2 q3 (ZH _ _ _ _) (fun b hb=>Z8 hb _ _ _) hblk) ?_⟩
  have:=Rv.g (ρ:=kupd ρ nx q) (k:=nx) (o:=0) (n:=n+m) (q:=q) (if_pos rfl)
  simpa using this
 obtain ⟨C,c1,c2,c3⟩:=ZbB (ty:=o.type) hE (v:=a.eval s) (n:=n) (cap:=q.C) (olds:=zs) (.inr ⟨_,hv,ZbA z1 z2⟩) z1 hsl (by omega) (by omega) b4 b5
 refine ⟨_,_,_,K4 ho c3,Ky (q:=⟨w.heap.size,C,E.i.size⟩) hn ((hh.drop k).drew.new hn _ C E.i.size (ZbC hE (by simp only [List.length_append,hyl,z1,htk]) (by simp only [List.length_append,htk,hdl,Nat.add_mul]) c1 c2 (getD_app (by rw [z1,htk]) z3 hds))) ?_⟩
 have:=Rv.g (ρ:=kupd ρ nx ⟨w.heap.size,C,E.i.size⟩) (k:=nx) (o:=0) (n:=n+m) (q:=⟨w.heap.size,C,E.i.size⟩) (if_pos rfl)
 simpa using this
theorem ap_sp {u:CV} {H':HM} (ho:o.op = .call ⟨.builtin .append,⟨[s,x]⟩,⟨[T,T]⟩⟩) (h:apK P t H nx T s x=some (u,H',nx')):OpS P t H nx o u H' nx':=by
 unfold apK at h
 split at h
 ·cases h
 rename_i E hE
 obtain ⟨e1,e2,e3,e4,e5⟩:=WR hE
 split at h
 ·cases h
 rename_i m ds hrd
 split at h
 ·cases h
 rename_i hone
 refine ops_gen fun c ρ nn a w hh ht hf => ?_
 obtain ⟨ys,hsl,hdl,hds⟩:=ZcR hh hrd (ht.ev x)
 have hyl:ys.length=ds.length:=by rw [hsl.len,hdl]
 have hs:=ht.ev s
 split at h
 ·rename_i hX
  rw [hX] at hs
  have hv:=hs.v_inv
  split at h
  ·cases h
   refine ⟨ρ,w,_,K4 ho ?_,.refl ρ,fun k h h'=>absurd h h',hh,.v _⟩
   obtain ⟨⟨ad,c',ev,_,hn0,hc⟩,_⟩:=hsl
   rw [hv,ev]
   have hf0:(Builtin.firstCells E.i.size 0 (.slice ad 0 c')).run P w = .ok #[] w:=by
    cases ad with
    | none=>exact run_firstCells_none _ _ _ _ _
    | some ad=>exact run_firstCells_some _ _ _ _ _ _ [] (by simp) (fun j u hu=>by cases hu)
   simp [Builtin.append_,run_underlying e1,sizeOf,typeInfo,e2,Builtin.lenOf,hf0]
  rename_i m
  split at h
  ·rename_i hb
   rw [Bool.and_eq_true] at hb
   have b1:=Nat.le_of_ble_eq_true hb.1
   have b2:=Nat.le_of_ble_eq_true hb.2
   cases h
   have hn:=hf nx (Nat.le_refl _) (Nat.lt_succ_self _)
   obtain ⟨C,c1,c2,c3⟩:=ZbB (ty:=o.type) hE (v:=a.eval s) (n:=0) (cap:=0) (olds:=[]) (.inl ⟨hv,rfl,rfl,rfl⟩) (by simp) hsl (by omega) (by omega) (by omega) (by simpa using b2)
   simp only [Nat.zero_add,List.nil_append] at c1 c3
   refine ⟨_,_,_,K4 ho c3,Ky (q:=⟨w.heap.size,C,E.i.size⟩) hn (hh.drew.new hn _ C E.i.size (ZbC hE hyl hdl c1 c2 hds)) ?_⟩
   have:=Rv.g (ρ:=kupd ρ nx ⟨w.heap.size,C,E.i.size⟩) (k:=nx) (o:=0) (n:=m+1) (q:=⟨w.heap.size,C,E.i.size⟩) (if_pos rfl)
   simpa using this
  cases h
 ·rename_i k o' n c' hX
  rw [hX] at hs
  obtain ⟨q,hq,hv⟩:=hs.s_inv
  split at h
  ·rename_i hroom
   have hroom:=Nat.le_of_ble_eq_true hroom
   split at h
   ·rename_i T0 zb nb ex cs hk
    split at h
    ·rename_i hb
     have hb:=Nat.le_of_ble_eq_true hb
     rw [Nat.add_mul] at hb
     cases h
     have hth:w.there q.b (o'+n*E.i.size) ys.length:=fun j hj=>by
      obtain ⟨v,f1,f2,_⟩:=K5 hh hk hq (j:=o'+n*E.i.size+j) (by omega)
      exact ⟨by rw [f1];rfl,f2⟩
     have hrun:=Kw (P:=P) (ty:=o.type) e1 e2 hsl hroom (Zb6 hyl hone hds) hth
     obtain ⟨g1,g2⟩:=Zau hh hk hq (off:=o'+n*E.i.size) hyl (by omega) hds
     obtain ⟨q1,q2,q3⟩:=Yc q.b ys (o'+n*E.i.size) w
     refine ⟨ρ,_,_,K4 ho (by rw [hv];exact hrun),.refl ρ,fun k h h'=>absurd h h',hh.wr hk hq q1 q2 q3 (ZH _ _ _ _) g2 g1,.s hq⟩
    cases h
   cases h
  rename_i hroom
  have hroom:¬ n+m≤c':=fun e=>by rw [Nat.ble_eq_true_of_le e] at hroom;cases hroom
  split at h
  ·rename_i n' os hro
   split at h
   ·rename_i hb
    rw [Bool.and_eq_true,Bool.and_eq_true] at hb
    obtain ⟨b0,b1,b2⟩:=hb
    have b0:=Nat.eq_of_beq_eq_true b0
    have b1:=Nat.le_of_ble_eq_true b1
    have b2:=Nat.le_of_ble_eq_true b2
    subst b0
    cases h
    obtain ⟨zs,hzl,hol,hos⟩:=ZcR hh hro (.s hq)
    obtain ⟨⟨ad,cc,ev,hnc,_,hcell⟩,hzlen⟩:=hzl
    cases ev
    have hn:=hf nx (Nat.le_refl _) (Nat.lt_succ_self _)
    obtain ⟨C,c1,c2,c3⟩:=ZbB (ty:=o.type) hE (v:=a.eval s) (n:=n') (cap:=c') (olds:=zs) (.inr ⟨_,hv,hcell _ rfl⟩) hzlen hsl (by omega) (by omega) (by omega) b2
    refine ⟨_,_,_,K4 ho c3,Ky (q:=⟨w.heap.size,C,E.i.size⟩) hn (hh.drew.new hn _ C E.i.size (ZbC hE (by simp [hyl,hzlen,hol]) (by simp [hol,hdl,Nat.add_mul]) c1 c2 (getD_app (by rw [hzlen,hol]) hos hds))) ?_⟩
    have:=Rv.g (ρ:=kupd ρ nx ⟨w.heap.size,C,E.i.size⟩) (k:=nx) (o:=0) (n:=n'+m) (q:=⟨w.heap.size,C,E.i.size⟩) (if_pos rfl)
    simpa using this
   cases h
  cases h
 ·rename_i k n hX
  rw [hX] at hs
  obtain ⟨q,hq,hv⟩:=hs.g_inv
  simp only [Nat.zero_mul,Nat.sub_zero] at hv
  split at h
  ·rename_i T0 zb nb ex cs hk
   split at h
   ·rename_i hb
    rw [Bool.and_eq_true,Bool.and_eq_true,Bool.and_eq_true,Bool.and_eq_true] at hb
    obtain ⟨⟨b1,b2⟩,b3,b4,b5⟩:=hb
    have b1:=Nat.eq_of_beq_eq_true b1
    have b2:=Nat.eq_of_beq_eq_true b2
    have b3:=Nat.le_of_ble_eq_true b3
    have b4:=Nat.le_of_ble_eq_true b4
    have b5:=Nat.le_of_ble_eq_true b5
    subst b1;subst b2
    obtain ⟨q',hq',_,cur,hg,hc⟩:=hh.hp k _ hk
    rw [hq] at hq';cases hq'
    have hcl:=hc.len
    have hcs:=hc.size
    have hle:=hc.le
    have hmul:=Nat.mul_le_mul_right E.i.size b3
    have hthere:n+m≤q.C→w.there q.b (n*E.i.size) ys.length:=fun hle j hj=>by
     have h1:=Nat.mul_le_mul_right E.i.size hle
     rw [Nat.add_mul] at h1
     have h2:n*E.i.size+j<cur.size:=by omega
     refine ⟨?_,frozenB hg _⟩
     rw [Zv hg _ (v:=cur[n*E.i.size+j]) (by simp [h2])]
     rfl
    split at h
    ·rename_i hin
     have hin:=Nat.le_of_ble_eq_true hin
     have hin2:=Nat.mul_le_mul_right E.i.size hin
     rw [Nat.add_mul] at hin2
     cases h
     have hrun:=Kw (P:=P) (ty:=o.type) (off:=0) (n:=n) (cap:=q.C) e1 e2 hsl (by omega) (Zb6 hyl hone hds) (by rw [Nat.zero_add];exact hthere (by omega))
     simp only [Nat.zero_add] at hrun
     obtain ⟨g1,g2⟩:=Zau hh hk hq (off:=n*E.i.size) hyl (by omega) hds
     obtain ⟨q1,q2,q3⟩:=Yc q.b ys (n*E.i.size) w
     refine ⟨ρ,_,_,K4 ho (by rw [hv];exact hrun),.refl ρ,fun k h h'=>absurd h h',hh.wr hk hq q1 q2 q3 (ZH _ _ _ _) g2 g1,?_⟩
     have:=Rv.g (ρ:=ρ) (k:=k) (o:=0) (n:=n+m) hq
     simpa using this
    rename_i hin
    have hin:¬ n+m≤nb:=fun e=>by rw [Nat.ble_eq_true_of_le e] at hin;cases hin
    cases h
    exact ap_amb hE ho hh hk hq hv hsl hyl hdl hone hds b3 b4 b5 hin (hf nx (Nat.le_refl _) (Nat.lt_succ_self _))
   cases h
  cases h
 cases h
end
end Go.Proofs.YthefecaefbeidaaGreat
