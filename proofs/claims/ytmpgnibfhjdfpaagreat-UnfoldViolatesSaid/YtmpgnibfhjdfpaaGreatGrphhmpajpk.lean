import Derived.Great.BuildSlice
import Derived.Laws.Small
import Derived.Laws.StructEq
import Derived.Test.YtmpgnibfhjdfpaaGreatProg
import Derived.WalkSpells
import Derived.WalkLawsBesides
import Derived.Deep.QuietTactic
import Derived.BigQuiet
import Derived.Lib.Hide
import Derived.LoopTactic
import Derived.WalkKit
import Derived.Laws.Tables
import Derived.Deep.OwnRows
import Derived.Test.YtmpgnibfhjdfpaaGreatGrpnbibgnod
import Derived.Test.YtmpgnibfhjdfpaaGreatGrpaggajjjj
set_option linter.all false
namespace Go.Proofs.YtmpgnibfhjdfpaaGreat
open Go.RowKit Go.Deep Tryz
variable {J:World->Prop}
def FitsL (t:ATm):List (Operand × AV)->Prop
 | []=>True
 | p::ps=>Fits (aev t p.1) p.2/\FitsL t ps
theorem FitsL.all {t:ATm}:∀ {l:List (Operand × AV)},FitsL t l->∀ p∈l,Fits (aev t p.1) p.2
 | [],_,p,hp=>by cases hp
 | q::l,h,p,hp=>by
   rcases List.mem_cons.1 hp with rfl | hp
   ·exact h.1
   exact FitsL.all h.2 p hp
def RdL (h:AHeap):List (Nat × ABlk)->Prop
 | []=>True
 | p::ps=>h p.1=some p.2/\RdL h ps
theorem RdL.all {h:AHeap}:∀ {l:List (Nat × ABlk)},RdL h l->∀ p∈l,h p.1=some p.2
 | [],_,p,hp=>by cases hp
 | q::l,hh,p,hp=>by
   rcases List.mem_cons.1 hp with rfl | hp
   ·exact hh.1
   exact RdL.all hh.2 p hp
def EfOk (h:AHeap):Ef->Prop
 | .no=>True
 | .new k _=>((h k).isNone&&Nat.blt k hand)=true
 | .st k _=>(h k).isSome=true
 | .ap k _=>((h k).isSome&&Nat.blt k hand)=true
 | .nws k _ k2 _=>(((h k).isNone&&(h k2).isNone)&&(Nat.blt k hand&&(Nat.blt k2 hand && !Nat.beq k k2)))=true
theorem EfOk.fresh {h:AHeap} {e:Ef} (H:EfOk h e):∀ k X,e.isN k X->h k=none:=by
 rintro k X (rfl | ⟨k2,X2,rfl⟩ | ⟨k1,X1,rfl⟩)
 rotate_left
 ·have:(((h k).isNone&&(h k2).isNone)&&(Nat.blt k hand&&(Nat.blt k2 hand && !Nat.beq k k2)))=true:=H
  rw [Bool.and_eq_true,Bool.and_eq_true,Option.isNone_iff_eq_none] at this
  exact this.1.1
 ·have:(((h k1).isNone&&(h k).isNone)&&(Nat.blt k1 hand&&(Nat.blt k hand && !Nat.beq k1 k)))=true:=H
  rw [Bool.and_eq_true,Bool.and_eq_true,Option.isNone_iff_eq_none (o:=h k)] at this
  exact this.1.2
 have:((h k).isNone&&Nat.blt k hand)=true:=H
 rw [Bool.and_eq_true,Option.isNone_iff_eq_none] at this
 exact this.1
theorem EfOk.low {h:AHeap} {e:Ef} (H:EfOk h e):e.low=true:=by
 cases e with
 | no=>rfl
 | st k X=>rfl
 | new k X=>exact (Bool.and_eq_true _ _ ▸ (show ((h k).isNone&&Nat.blt k hand)=true from H)).2
 | ap k X=>exact (Bool.and_eq_true _ _ ▸ (show ((h k).isSome&&Nat.blt k hand)=true from H)).2
 | nws k X k2 X2=>exact (Bool.and_eq_true _ _ ▸ (show (((h k).isNone&&(h k2).isNone)&&(Nat.blt k hand&&(Nat.blt k2 hand && !Nat.beq k k2)))=true from H)).2
theorem EfOk.there {h:AHeap} {e:Ef} (H:EfOk h e):∀ k,e.old=some k->(h k).isSome=true:=by
 intro k hk
 cases e with
 | no=>cases hk
 | new _ _=>cases hk
 | st j X=>cases hk;exact H
 | nws _ _ _ _=>cases hk
 | ap j X=>cases hk;exact (Bool.and_eq_true _ _ ▸ (show ((h k).isSome&&Nat.blt k hand)=true from H)).1
section
variable {P:Program} {w0:Wb} {h:AHeap} {t:ATm} {Q:Exit->Act->World->Prop} {ops:Array Oper} {o:Oper} {rest:List Oper}
variable {u:AV}
theorem YA {args:List (Operand × AV)} {rd:List (Nat × ABlk)} {e:Ef} (hg:o.guard=none) (hs:ASpec P J o args rd u e) (hf:FitsL t args) (hr:RdL h rd) (he:EfOk h e)
 (H:ETri J w0 (e.heap h) (aput (e.slots t) o.dst u) (wpList P ops Q rest)):ETri J w0 h t (wpList P ops Q (o::rest)) :=
 tri_op hg ⟨args,rd,hs,hf.all,hr.all,he.fresh,he.there,he.low⟩ H
theorem KA {args:List (Operand × AV)} {rd:List (Nat × ABlk)} {e:Ef} (hg:awanted ops o t=some true) (hs:ASpec P J o args rd u e) (hf:FitsL t args) (hr:RdL h rd) (he:EfOk h e)
 (H:ETri J w0 (e.heap h) (aput (e.slots t) o.dst u) (wpList P ops Q rest)):ETri J w0 h t (wpList P ops Q (o::rest)):=fun ρ a w s=>by
 unfold wpList
 rw [Wy s hg,if_pos rfl]
 exact .inl (s.step ⟨args,rd,hs,hf.all,hr.all,he.fresh,he.there,he.low⟩ fun ρ' a' w' s'=>H ρ' a' w' s')
theorem t_skip (hg:awanted ops o t=some false) (H:ETri J w0 h (aput t o.dst (.v undef)) (wpList P ops Q rest)):ETri J w0 h t (wpList P ops Q (o::rest)):=fun ρ a w s=>by
 unfold wpList
 rw [Wy s hg,if_neg (by simp)]
 exact H ρ _ w ⟨s.wf,s.hH,s.bel,s.inv,s.hp,s.dom,s.pin,by rw [Wr,Wf];exact s.tl,Zak _ s.tl s.tm (.pu (.v _)),by rw [Kn];exact s.df,s.gh⟩
theorem app_yes {c:Cl} (hg:awanted ops o t=some true) (hs:ASpec P J o c.args c.rd c.u c.e) (hf:FitsL t c.args) (hr:RdL h c.rd) (he:EfOk h c.e):App P J ops o c h t := .inl ⟨hg,hs,hf.all,hr.all,he.fresh,he.there,he.low⟩
theorem app_no (hg:awanted ops o t=some false):App P J ops o ⟨[],[],.v undef,.no⟩ h t := .inr ⟨hg,rfl⟩
theorem Zf {K:Act->World->Prop} (H:ETri J w0 h t K):ETri J w0 h t (Exit.then K Q .normal):=H
variable {id:Nat}
theorem ZS {K:Act->World->Prop} (H:ETri J w0 h t (Q (.exit id))):ETri J w0 h t (Exit.then K Q (.exit id)):=H
theorem Zb {K:Act->World->Prop} (H:ETri J w0 h t (Q .ret)):ETri J w0 h t (Exit.then K Q .ret):=H
theorem Zs (H:ETri J w0 h t (Q .normal)):ETri J w0 h t (Exit.inBlock id Q .normal):=H
theorem Ze (H:ETri J w0 h t (Q .ret)):ETri J w0 h t (Exit.inBlock id Q .ret):=H
theorem ZdP (H:ETri J w0 h t (Q .normal)):ETri J w0 h t (Exit.inBlock id Q (.exit id)):=fun ρ a w s=>by
 simp only [Exit.inBlock,if_true];exact H ρ a w s
theorem W8 {id id':Nat} (hne:id'≠id) (H:ETri J w0 h t (Q (.exit id'))):ETri J w0 h t (Exit.inBlock id Q (.exit id')):=fun ρ a w s=>by
 simp only [Exit.inBlock,if_neg hne];exact H ρ a w s
variable {c:Operand}
theorem ZM {x y:Code} (hc:aev t c = .v (.bool true)) (H:ETri J w0 h t (x.wp P Q)):ETri J w0 h t ((Code.cond c x y).wp P Q):=tri_cond hc H
theorem Zu {x y:Code} (hc:aev t c = .v (.bool false)) (H:ETri J w0 h t (y.wp P Q)):ETri J w0 h t ((Code.cond c x y).wp P Q):=tri_cond hc H
end
def CutQ (J:World->Prop) (w0:Wb) (p:Prop) (h:AHeap) (t:ATm) (Q:Exit->Act->World->Prop):Exit->Act->World->Prop
 | .normal,a,w=>p/\∃ ρ,Sat J w0 ρ h t a w
 | e,a,w=>Q e a w
section
variable {P:Program} {w0:Wb} {h h':AHeap} {t t':ATm} {Q:Exit->Act->World->Prop} {p:Prop}
theorem Ye {x:Code} (p:Prop) (h':AHeap) (t':ATm) (H1:ETri J w0 h t (x.wp P (CutQ J w0 p h' t' Q))) (H2:p->ETri J w0 h' t' (Q .normal)):ETri J w0 h t (x.wp P Q):=fun ρ a w s =>
 wp_mono (H1 ρ a w s) λe a w hq=>by
  cases e with
  | normal=>obtain ⟨hp,ρ',s'⟩:=hq;exact H2 hp ρ' a w s'
  | exit id=>exact hq
  | goto l=>exact hq
  | ret=>exact hq
  | panic ch=>exact hq
  | outgrown=>exact hq
theorem YN (hp:p) (k:Wk h t h' t'):ETri J w0 h t (CutQ J w0 p h' t' Q .normal):=fun ρ a w s=>⟨hp,k J w0 ρ a w s⟩
theorem ZW (H:ETri J w0 h t (Q .ret)):ETri J w0 h t (CutQ J w0 p h' t' Q .ret):=H
end
theorem dT {p:Prop} [Decidable p] (h:p):decide p=true:=decide_eq_true h
theorem dF {p:Prop} [Decidable p] (h:¬ p):decide p=false:=decide_eq_false h
theorem dF' {p:Prop} [Decidable p] (h:¬ p):decide p = !true:=decide_eq_false h
theorem dT' {p:Prop} [Decidable p] (h:p):decide p = !false:=decide_eq_true h
theorem T0:True:=trivial
variable {X:AV}
theorem I0 :Fits X X := .inl rfl
section
variable {P:Program} {w0:Wb} {h:AHeap} {t:ATm} {Q:Exit->Act->World->Prop} {ops:Array Oper} {o:Oper} {rest:List Oper}
theorem kW {Φ:Act->World->Prop} (n:Nat) (L:List (Nat × ABlk)) (T:List (Nat × AV)) (H:ETri J w0 (ofL L) (ofT n T) Φ) (hn:t.n=n:=by rfl) (hL:L.map (λp=>(h p.1).map (ABlk.wk (keepL L) h))=L.map (λp=>some p.2):=by kernel_rfl) (hT:T.map (λp=>(t.f p.1).wk3 (keepL L) h)=T.map (·.2):=by kernel_rfl):ETri J w0 h t Φ:=Yp (Zk L T hn hL hT) H
theorem kN (n:Nat) (L:List (Nat × ABlk)) (T:List (Nat × AV)) (H:ETri J w0 (ofL L) (ofT n T) (Q .normal)) (hn:t.n=n:=by rfl) (hL:L.map (λp=>(h p.1).map (ABlk.wk (keepL L) h))=L.map (λp=>some p.2):=by kernel_rfl) (hT:T.map (λp=>(t.f p.1).wk3 (keepL L) h)=T.map (·.2):=by kernel_rfl):ETri J w0 h t (wpList P ops Q []):=ZL (kW n L T H hn hL hT)
variable {p p' p'':Operand × AV} {q:Nat × ABlk} {u:AV}
theorem oA (hs:ASpec P J o [p] [] u .no) (hf:Fits (aev t p.1) p.2) (H:ETri J w0 h (aput t o.dst u) (wpList P ops Q rest)) (hg:o.guard=none:=by rfl):ETri J w0 h t (wpList P ops Q (o::rest)):=YA hg hs ⟨hf,trivial⟩ trivial trivial H
theorem oB (hs:ASpec P J o [p] [q] u .no) (hf:Fits (aev t p.1) p.2) (hr:h q.1=some q.2) (H:ETri J w0 h (aput t o.dst u) (wpList P ops Q rest)) (hg:o.guard=none:=by rfl):ETri J w0 h t (wpList P ops Q (o::rest)):=YA hg hs ⟨hf,trivial⟩ ⟨hr,trivial⟩ trivial H
theorem oC (hs:ASpec P J o [p,p'] [] u .no) (hf:Fits (aev t p.1) p.2) (hf':Fits (aev t p'.1) p'.2) (H:ETri J w0 h (aput t o.dst u) (wpList P ops Q rest)) (hg:o.guard=none:=by rfl):ETri J w0 h t (wpList P ops Q (o::rest)):=YA hg hs ⟨hf,hf',trivial⟩ trivial trivial H
theorem oD (hs:ASpec P J o [p,p',p''] [] u .no) (hf:Fits (aev t p.1) p.2) (hf':Fits (aev t p'.1) p'.2) (hf'':Fits (aev t p''.1) p''.2) (H:ETri J w0 h (aput t o.dst u) (wpList P ops Q rest)) (hg:o.guard=none:=by rfl):ETri J w0 h t (wpList P ops Q (o::rest)):=YA hg hs ⟨hf,hf',hf'',trivial⟩ trivial trivial H
theorem gA (hs:ASpec P J o [p] [] u .no) (hf:Fits (aev t p.1) p.2) (H:ETri J w0 h (aput t o.dst u) (wpList P ops Q rest)) (hg:awanted ops o t=some true:=by rfl):ETri J w0 h t (wpList P ops Q (o::rest)):=KA hg hs ⟨hf,trivial⟩ trivial trivial H
theorem gC (hs:ASpec P J o [p,p'] [] u .no) (hf:Fits (aev t p.1) p.2) (hf':Fits (aev t p'.1) p'.2) (H:ETri J w0 h (aput t o.dst u) (wpList P ops Q rest)) (hg:awanted ops o t=some true:=by rfl):ETri J w0 h t (wpList P ops Q (o::rest)):=KA hg hs ⟨hf,hf',trivial⟩ trivial trivial H
variable {T:TypeId}{k off:Nat}
theorem lB {d:TypeDesc} (Y:ABlk) (X:AV) (x:Operand) (ho:o.op = .load T x) (hu:P.underlying T=some d) (hd:d.isRow=false) (hX:Y.cells[off]? = some X):ASpec P J o [(x,.box k off)] [(k,Y)] X .no:=Kl x ho hu hd hX
end
section
variable {P:Program} {w0:Wb} {h:AHeap} {t:ATm} {Q:Exit->Act->World->Prop} {Ψ:AHeap->ATm->Prop} {ops:Array Oper} {o:Oper} {rest:List Oper} {cs:List Cl}
variable {p p' p'':Operand × AV} {q:Nat × ABlk} {u:AV}
theorem dR {args:List (Operand × AV)} {rd:List (Nat × ABlk)} {e:Ef} (hs:ASpec P J o args rd u e) (hf:FitsL t args) (hr:RdL h rd) (he:EfOk h e) (H:chainC P J ops Ψ rest cs (e.heap h) (aput (e.slots t) o.dst u)) (hg:awanted ops o t=some true:=by rfl):chainC P J ops Ψ (o::rest) (⟨args,rd,u,e⟩::cs) h t:=⟨app_yes hg hs hf hr he,H⟩
theorem dA (hs:ASpec P J o [p] [] u .no) (hf:Fits (aev t p.1) p.2) (H:chainC P J ops Ψ rest cs h (aput t o.dst u)) (hg:awanted ops o t=some true:=by rfl):chainC P J ops Ψ (o::rest) (⟨[p],[],u,.no⟩::cs) h t:=dR hs ⟨hf,trivial⟩ trivial trivial H hg
theorem dB (hs:ASpec P J o [p] [q] u .no) (hf:Fits (aev t p.1) p.2) (hr:h q.1=some q.2) (H:chainC P J ops Ψ rest cs h (aput t o.dst u)) (hg:awanted ops o t=some true:=by rfl):chainC P J ops Ψ (o::rest) (⟨[p],[q],u,.no⟩::cs) h t:=dR hs ⟨hf,trivial⟩ ⟨hr,trivial⟩ trivial H hg
theorem dC (hs:ASpec P J o [p,p'] [] u .no) (hf:Fits (aev t p.1) p.2) (hf':Fits (aev t p'.1) p'.2) (H:chainC P J ops Ψ rest cs h (aput t o.dst u)) (hg:awanted ops o t=some true:=by rfl):chainC P J ops Ψ (o::rest) (⟨[p,p'],[],u,.no⟩::cs) h t:=dR hs ⟨hf,hf',trivial⟩ trivial trivial H hg
theorem dD (hs:ASpec P J o [p,p',p''] [] u .no) (hf:Fits (aev t p.1) p.2) (hf':Fits (aev t p'.1) p'.2) (hf'':Fits (aev t p''.1) p''.2) (H:chainC P J ops Ψ rest cs h (aput t o.dst u)) (hg:awanted ops o t=some true:=by rfl):chainC P J ops Ψ (o::rest) (⟨[p,p',p''],[],u,.no⟩::cs) h t:=dR hs ⟨hf,hf',hf'',trivial⟩ trivial trivial H hg
theorem dK (H:chainC P J ops Ψ rest cs h (aput t o.dst (.v undef))) (hg:awanted ops o t=some false:=by rfl):chainC P J ops Ψ (o::rest) (⟨[],[],.v undef,.no⟩::cs) h t:=⟨app_no hg,H⟩
theorem qK (H:ETri J w0 h (aput t o.dst (.v undef)) (wpList P ops Q rest)) (hg:awanted ops o t=some false:=by rfl):ETri J w0 h t (wpList P ops Q (o::rest)):=t_skip hg H
variable {id:Nat}
theorem tri_drawM {l:List Oper} {cl:List Cl} (H:chainC P J l.toArray (λh t=>ETri J w0 h t (Q .normal)) l cl h t) (hB:fastC l.toArray l cl 0 []=true) (hm:P.follows .mixedOrders=true:=by kernel_rfl):ETri J w0 h t ((Code.region id l.toArray true).wp P Q):=tri_draw cl hm hB H
end
section
variable {P:Program} {o:Oper}
variable {f:FuncId}{Ys:List AV}{u U:AV}
theorem sc {ats:Array TypeId} (xs:Array Operand) (rd:List (Nat × ABlk)) (hC:Ctr P J f Ys u) (Xs:List AV) (ho:o.op = .call { callee := .value (.func f),args:=xs,argTypes:=ats }) (hv:Xs.map (AV.view rd)=Ys) (hU:u.res=U)
 (hf : (P.funcs[f]?).map (λfn => (fn.name == "runtime.NumGoroutine") || fn.body.isNone) = some false := by kernel_rfl) (hl : xs.size = Xs.length := by exact rfl) (hfl : Xs.all AV.flat2 = true := by exact rfl) : ASpec P J o ((.func f, .v (.func (.func f) #[] #[])) :: xs.toList.zip Xs) rd U .no := Ze3 rd hC ho hf hl hv hfl hU
variable {T:TypeId}{k off:Nat}
theorem lS {d:TypeDesc} {Y:ABlk} (ds:List AV) (z i:Nat) (hu:P.underlying T=some d) (ho:o.op = .load T (.tmp i):=by rfl) (hd:d.isRow=true:=by rfl) (hz:(P.info? T).map (·.size)=some z:=by kernel_rfl) (h0:0<z:=by decide) (hX:(Y.cells.drop off).take z=ds:=by kernel_rfl) (hl:ds.length=z:=by kernel_rfl):ASpec P J o [(.tmp i,.box k off)] [(k,Y)] (.agg ds) .no:=Wm _ ho hu hd hz h0 hX hl
variable {cs:List AV}
theorem lE {d:TypeDesc} (X:AV) (i:Nat) (hu:P.underlying T=some d) (hX:cs[off]? = some X:=by rfl) (ho:o.op = .load T (.tmp i):=by rfl) (hd:d.isRow=false:=by rfl):ASpec P J o [(.tmp i,.el cs off)] [] X .no:=WR _ ho hu hd hX
variable {z n:Nat}
theorem xS {t e:TypeId} {ik:IntKind} {i:Int} (off x y:Nat) (hu:P.underlying t=some (.slice e)) (ho:o.op = .indexAddr t (.tmp x) (.tmp y):=by rfl) (hz:(P.info? e).map (·.size)=some z:=by kernel_rfl) (h0:0<=i:=by omega) (h1:i<n:=by omega) (he:i.toNat*z=off:=by rfl):ASpec P J o [(.tmp x,.sl z n cs),(.tmp y,.v (.int ik i))] [] (.el cs off) .no:=ZZ _ _ ho hu hz h0 h1 he
theorem nLs {t e:TypeId} (x:Nat) (hu:P.underlying t=some (.slice e)) (ho:o.op = .call { callee := .builtin .len,args := #[.tmp x],argTypes := #[t] }:=by rfl):ASpec P J o [(.tmp x,.sl z n cs)] [] (.v (.int .i64 n)) .no:=sp_lenSl _ ho hu
theorem sB {T T0:TypeId} (z i:Nat) (y:Operand) (X:AV) (ho:o.op = .store T (.tmp i) y:=by rfl) (hz:(P.info? T).map (·.size)=some z:=by kernel_rfl) (hX:X.cellsOf.all AV.cell=true:=by kernel_rfl) (hl:X.cellsOf.length=z:=by kernel_rfl) (hr:off+z<=cs.length:=by exact of_decide_eq_true (by kernel_rfl)) :
 ASpec P J o [(.tmp i,.box k off),(y,X)] [(k,.box T0 cs)] (.v undef) (.st k (.box T0 (setAll cs off X.cellsOf))):=Yo _ y ho hz hX hl hr rfl
end
def AV.pu1:AV->Bool
 | .box _ _=>false
 | .own _=>false
 | .bsl _ _ _=>false
 | .agg _=>false
 | .tup _=>false
 | .clo _ _=>false
 | _=>true
theorem Rel.pu1 {ρ:Names} {B:Nat} {w:World} {X:AV} {x:Value} (h:Rel ρ B w X x) (hp:X.pu1=true):Pu (B <= ·) w (okOf ρ) X x:=by
 cases h with
 | pu h=>exact h
 | box h=>cases hp
 | own h=>cases hp
 | bsl h=>cases hp
 | agg hl h=>cases hp
 | tup hl h=>cases hp
 | clo hl h=>cases hp
theorem Zez {z:Nat}:∀ (Xs:List AV),(∀ X∈Xs,X.cellsOf.length=z)->∀ k,(Xs.flatMap AV.cellsOf)[k]? = if k<Xs.length*z then (Xs[k / z]?).bind λX=>X.cellsOf[k % z]? else none
 | [],_,k=>by simp
 | X::Xs,h,k=>by
   have hX:=h X (by simp)
   simp only [List.flatMap_cons,List.length_cons,Nat.add_mul,Nat.one_mul]
   by_cases hk:k<z
   ·rw [List.getElem?_append_left (by omega),if_pos (by omega),Nat.div_eq_of_lt hk,Nat.mod_eq_of_lt hk];rfl
   rw [List.getElem?_append_right (by omega),Zez Xs (λX hX=>h X (by simp [hX])),hX]
   by_cases hz:z=0
   ·subst hz;simp
   have e1:k / z=(k-z) / z+1:=by rw [<- Nat.sub_add_cancel (show z<=k by omega),Nat.add_div_right _ (by omega)];simp
   have e2:k % z=(k-z) % z:=by rw [<- Nat.mod_eq_sub_mod (by omega)]
   rw [e1,e2,List.getElem?_cons_succ]
   by_cases hlt:k<Xs.length*z+z
   ·rw [if_pos (by omega),if_pos hlt]
   rw [if_neg (by omega),if_neg hlt]
section
variable {P:Program} {o:Oper}
variable {t e z k:Nat}
theorem Zaw (fr:Bool) (ho:o.op = .buildSlice t 0 #[]) (hu:P.underlying t=some (.slice e)) (hi:(P.info? e).map (·.size)=some z):ASpec P J o [] [] (.own k) (.new k (.row fr e z 0 [])) :=
 We fun ρ B a w _ hB _ _ hk=>by
  obtain ⟨i,hi,hiz⟩:=Option.map_eq_some_iff.1 hi
  refine ⟨_,0,0,#[],e,?_,.own (nm := .at w.heap.size 0 0) (Yc _ _ _),[],⟨by simp,.inr ⟨w.heap.size,0,#[],rfl,Zdd hB,heap_alloc_new w _,Nat.le_refl _,by simp [maxLen],by simp,by simp⟩⟩,rfl,by simp⟩
  have h0:Array.map (λ(_:Nat)=>(default:Value)) (Array.range 0) = #[]:=by apply Array.eq_empty_of_size_eq_zero;simp
  simp only [execOp,ho]
  exact Z7 (by simp [Instr.buildSlice,run_underlying hu,sizeOf,typeInfo,hi,Instr.fill,newRow,Nm.val,h0])
variable {n:Nat}{fr:Bool}
theorem Wn {parts:Array (Nat × Operand)} (xs:List Operand) (Xs:List AV) (ho:o.op = .buildSlice t n parts) (hu:P.underlying t=some (.slice e)) (hi:(P.info? e).map (λi=>(i.size,i.zero.map (·.cells.size)))=some (z,some z)) (h0:0<z) (hn0:0<n)
 (hp:parts.toList=xs.zipIdx.map λp=>(p.2,p.1)) (hl:xs.length=n) (hX:Xs.length=n) (hz:Xs.all (λX=>X.cellsOf.length==z&&X.cellsOf.all (λc=>c.cell&&c.pu1))=true) (hs:n*z<=16777216)
 (hnew:fr=true->∀ d∈Xs.flatMap AV.cellsOf,d.isNew=true) {cs:List AV} (hcs:Z6 fr (Xs.flatMap AV.cellsOf)=cs) :
 ASpec P J o (xs.zip Xs) [] (.own k) (.new k (.row fr e z n cs)) :=
 We fun ρ B a w hwf hB ha _ hk=>by
  subst hcs
  obtain ⟨i,hi,hj⟩:=Option.map_eq_some_iff.1 hi
  simp only [Prod.mk.injEq] at hj
  obtain ⟨j1,j2⟩:=hj
  obtain ⟨zv,hz1,hz2⟩:=Option.map_eq_some_iff.1 j2
  have hzz:∀ X∈Xs,X.cellsOf.length=z/\(∀ c∈X.cellsOf,c.cell=true/\c.pu1=true):=λX hX=>by
   have:=List.all_eq_true.1 hz X hX
   simp only [Bool.and_eq_true,beq_iff_eq,List.all_eq_true] at this
   exact this
  have hrel:∀ j (h1:j<xs.length) (h2:j<Xs.length),Rel ρ B w Xs[j] (a.eval xs[j]):=λj h1 h2=>ha (xs[j],Xs[j]) (by rw [List.mem_iff_getElem];exact ⟨j,by simp;omega,by simp⟩)
  have hcell:∀ j (h1:j<xs.length) (h2:j<Xs.length),(a.eval xs[j]).cells.size=z/\∀ l (hl:l<Xs[j].cellsOf.length),Pu (B <= ·) w (okOf ρ) Xs[j].cellsOf[l] ((a.eval xs[j]).cells.getD l undef):=λj h1 h2=>by
   obtain ⟨q1,q2⟩:=hzz _ (List.getElem_mem h2)
   obtain ⟨r1,r2,r3⟩:=(hrel j h1 h2).cells (List.all_eq_true.2 λc hc=>(q2 c hc).1)
   exact ⟨by omega,λl hl=>(r3 l hl).pu1 (q2 _ (List.getElem_mem hl)).2⟩
  obtain ⟨r,f1,f2,f3⟩:=Great.fill_dense h0 (xs.map a.eval) 0 ((Array.range (n*i.size)).map (zv.cells[· % zv.cells.size]!)) (λv hv=>by
   obtain ⟨x,hx,rfl⟩:=List.mem_map.1 hv
   obtain ⟨j,hj,rfl⟩:=List.getElem_of_mem hx
   exact (hcell j hj (by omega)).1) (by simp [hl,j1])
  have hrun:=run_buildSlice (P:=P) w t e n (parts.map λ(i,x)=>(i,a.eval x)) r i zv hu hi hz1 (by rw [j1];omega) (by rw [j1];have:=Nat.mul_pos hn0 h0;omega) (by
   rw [<- f1,j1]
   congr 1
   rw [Array.toList_map,hp,List.map_map,List.zipIdx_map,List.map_map]
   rfl)
  have hrs:r.size=n*z:=by rw [f2];simp [j1]
  have hfl:(Xs.flatMap AV.cellsOf).length=n*z:=by
   have:∀ (Xs:List AV),(∀ X∈Xs,X.cellsOf.length=z)->(Xs.flatMap AV.cellsOf).length=Xs.length*z:=by
    intro Xs
    induction Xs with
    | nil=>intro _;simp
    | cons X Xs ih=>intro h;simp only [List.flatMap_cons,List.length_append,ih λX hX=>h X (by simp [hX]),h X (by simp),List.length_cons,Nat.add_mul];omega
   rw [this Xs λX hX=>(hzz X hX).1,hX]
  refine ⟨.slice (some ⟨w.heap.size,0,none⟩) n n,n,n,r,e,?_,.own (nm := .at w.heap.size n n) (Yc _ _ _),r.toList,⟨by simpa using hrs,.inr ⟨w.heap.size,n,r,rfl,Zdd hB,heap_alloc_new w _,Nat.le_refl _,?_,hrs,by rw [List.take_of_length_le (by simp [hrs])]⟩⟩,by rw [Yy,hfl];simpa using hrs,λj hj => ?_⟩
  ·simp only [execOp,ho]
   exact Z7 hrun
  ·have:n*1<=n*z:=Nat.mul_le_mul_left n h0
   simp only [maxLen];omega
  have hj':j<n*z:=by rw [Yy,hfl] at hj;exact hj
  have hd:j / z<n:=(Nat.div_lt_iff_lt_mul h0).2 hj'
  have hm:j % z<z:=Nat.mod_lt _ h0
  have hx1:j / z<xs.length:=by omega
  have hX1:j / z<Xs.length:=by omega
  obtain ⟨c1,c2⟩:=hcell _ hx1 hX1
  have hcl:=(hzz _ (List.getElem_mem hX1)).1
  have hjf:j<(Xs.flatMap AV.cellsOf).length:=by omega
  have e1:(Xs.flatMap AV.cellsOf)[j]=Xs[j / z].cellsOf[j % z]'(by omega):=by
   have:=Zez Xs (λX hX=>(hzz X hX).1) j
   rw [List.getElem?_eq_getElem hjf,if_pos (by rw [hX];exact hj'),List.getElem?_eq_getElem hX1,Option.bind_some,List.getElem?_eq_getElem (by omega)] at this
   exact Option.some.inj this
  have e2:r.toList.getD j undef=(a.eval xs[j / z]).cells.getD (j % z) undef:=by
   have:=f3 j
   rw [if_pos ⟨by simp,by simp [hl];exact hj'⟩,Nat.sub_zero,List.getElem?_map,List.getElem?_eq_getElem hx1] at this
   simp only [Option.map_some,Option.bind_some] at this
   rw [List.getD_eq_getElem?_getD,Array.getElem?_toList,this,Array.getD_eq_getD_getElem?]
  have hp:=c2 (j % z) (by omega)
  rw [<- e1,<- e2] at hp
  have hrow:=Pu.row (fr:=fr) hnew hj hjf hp
  rw [e2] at hrow ⊢
  have hok:∀ b,okOf ρ b->b<w.heap.size->okOf (upd ρ k (.at w.heap.size n n)) b/\b<(w.alloc (.cells r e)).heap.size/\(w.alloc (.cells r e)).heap[b]? = w.heap[b]? := λb hb hw=>ok_new hb hw
  exact hrow.mono (λb hb hw=>⟨⟨(hok b hb.1 hw).1,λe=>⟨(hb.2 e).1,ZbE (hok b hb.1 hw).2.2 (hb.2 e).2⟩⟩,(hok b hb.1 hw).2⟩) λ_ _ h=>h
end
section
variable {P:Program} {o:Oper} {t ty:TypeId} {x y:Operand}
theorem sp_beql {b c r:Bool} (ho:o.op = .binOp .eql t x y ty) (ht:P.underlying t=some .bool) (hr:(b==c)=r):ASpec P J o [(x,.v (.bool b)),(y,.v (.bool c))] [] (.v (.bool r)) .no :=
 K0 ho λw=>by subst hr;rw [Sem.run_bind,show (eqGuard .eql t x y (.bool b) (.bool c)).run P w = .ok () w from rfl,Result.andThen_ok,run_eql_bool w t b c ht]
theorem ZaO {b c r:Bool} (ho:o.op = .binOp .neq t x y ty) (ht:P.underlying t=some .bool) (hr:(b != c)=r):ASpec P J o [(x,.v (.bool b)),(y,.v (.bool c))] [] (.v (.bool r)) .no :=
 K0 ho λw=>by subst hr;rw [Sem.run_bind,show (eqGuard .neq t x y (.bool b) (.bool c)).run P w = .ok () w from rfl,Result.andThen_ok,run_neq_bool w t b c ht];rfl
end
variable {k:Nat}
theorem Zr {α:Type} {g:α->AV} (xs:List α) (h:k<xs.length):(xs.map g)[k*1]? = some (g xs[k]):=by rw [Nat.mul_one];simp [h]
theorem Zby (xs:List Int) (fr:Bool):Z6 fr (xs.map iv)=xs.map iv:=by cases fr<;>simp [Z6,AV.unfr]
theorem Zbx (xs:List ByteArray) (fr:Bool):Z6 fr (xs.map sv)=xs.map sv:=by cases fr<;>simp [Z6,AV.unfr]
variable {f:FuncId}{b r:Bool}
theorem Zo {P:Program} {args:List AV} (h:Ctr P J f args (bv b)) (e:b=r):Ctr P J f args (bv r):=e ▸ h
def LnOk (l:Ln):Prop:=I64 l.c/\I64 l.n/\I64 l.t/\I64 l.f
def ThOk (g:Th):Prop:=I64 g.msg/\I64 g.coef/\I64 g.bd.c/\I64 g.bd.n/\I64 g.bd.t/\I64 g.bd.f
def InOk (xs:List Int):Prop:=∀ x∈xs,I64 x
structure RuOk (r:Ru):Prop where
 nm:r.nm.size<=maxLen
 kind:I64 r.kind
 frm:I64 r.frm
 «to»:I64 r.to
 pf:I64 r.pf
 pt:I64 r.pt
 resp:InOk r.resp
 gz:∀ g∈r.gz,ThOk g
 ex:InOk r.ex
 fa:InOk r.fa
 rd:I64 r.rd
 wr:I64 r.wr
 send:InOk r.send
 pos:I64 r.pos
 left:InOk r.left
 right:InOk r.right
 pz:InOk r.pz
 dir:I64 r.dir
 lresp:r.resp.length<=9223372036854775807
 lguards:r.gz.length<=9223372036854775807
structure FmOk (q:Fm):Prop where
 nm:q.nm.size<=maxLen
 top:I64 q.top
 sz:∀ s∈q.sz,s.size<=maxLen
 msgs:∀ s∈q.msgs,s.size<=maxLen
 vals:∀ s∈q.vals,s.size<=maxLen
 fzz:I64 q.fzz
 res:∀ l∈q.res,LnOk l
 init:InOk q.init
 lz:InOk q.lz
 rz:∀ r∈q.rz,RuOk r
 lstates:q.sz.length<=9223372036854775807
 lmsgs:q.msgs.length<=9223372036854775807
 lvals:q.vals.length<=9223372036854775807
 lres:q.res.length<=9223372036854775807
 linit:q.init.length<=9223372036854775807
 lleader:q.lz.length<=9223372036854775807
 lrules:q.rz.length<=9223372036854775807
variable {z lo:Nat}{w:World}{v:Value}
theorem IsSl.all {α:Type} {Q:Nat->World->List Value->α->Prop} {xs:List α} (h:IsSl z Q lo w v xs) {R:α->Prop} (hR:∀ cs x,Q lo w cs x->R x):∀ x∈xs,R x:=by
 intro x hx
 obtain ⟨i,hi,rfl⟩:=List.getElem_of_mem hx
 obtain ⟨a,cap,rfl⟩:=h.shape
 obtain ⟨_,_,cs,_,_,_,_,_,hq⟩:=h.at i hi
 exact hR _ _ hq
variable {xs:List Int}
theorem IsInts.ok (h:IsInts lo w v xs):InOk xs:=by
 obtain ⟨_,_,_,_,_,⟨h1,_⟩,_⟩:=h;exact h1
theorem IsInts.len (h:IsInts lo w v xs):xs.length<=9223372036854775807:=by
 obtain ⟨_,_,_,h1,h2,_⟩:=h;unfold maxLen at h2;omega
theorem RuEl.ok {lo:Nat} {w:World} {cs:List Value} {r:Ru} (h:RuEl lo w cs r):RuOk r:=by
 obtain ⟨v6,v7,v8,v9,v12,v14,v15,v16,rfl,h0,h1,h2,h3,h4,h5,h6,h7,h8,h9,h10,h11,h12,h13,h14,h15,h16,h17⟩:=h
 exact ⟨h0,h1,h2,h3,h4,h5,h6.ok,h7.all λcs g hg=>hg.2,h8.ok,h9.ok,h10,h11,h12.ok,h13,h14.ok,h15.ok,h16.ok,h17,h6.len,h7.bound⟩
theorem IsFam.ok {lo:Nat} {w:World} {v:Value} {q:Fm} (h:IsFam lo w v q):FmOk q:=by
 obtain ⟨v2,v3,v4,v6,v7,v8,v9,e,h0,h1,h2,h3,h4,h5,h6,h7,h8,h9⟩:=h
 exact ⟨h0,h1,h2.all λ_ _ h=>h.2,h3.all λ_ _ h=>h.2,h4.all λ_ _ h=>h.2,h5,h6.all λ_ _ h=>h.2,h7.ok,h8.ok,h9.all λ_ _ h=>h.ok,h2.bound,h3.bound,h4.bound,h6.bound,h7.len,h8.len,h9.bound⟩
variable {cs:List AV}
theorem Yt {F ok:Nat->Prop} (h:Pu F w ok (.agg cs) v):∃ vs:List Value,v = .agg vs.toArray/\vs.length=cs.length/\∀ j (hj:j<cs.length),Pu F w ok cs[j] (vs.getD j undef):=by
 cases h with
 | agg hl h =>
   rename_i vs
   exact ⟨vs.toList,rfl,by simpa using hl,λj hj=>by have:=h j hj;simpa [Array.getD_eq_getD_getElem?,List.getD_eq_getElem?_getD] using this⟩
section
variable {F ok:Nat->Prop} {w:World} {lo:Nat}
variable {vs:List Value}
theorem cells18 (h:vs.length=18):vs=[vs.getD 0 undef,vs.getD 1 undef,vs.getD 2 undef,vs.getD 3 undef,vs.getD 4 undef,vs.getD 5 undef,vs.getD 6 undef,vs.getD 7 undef,vs.getD 8 undef,vs.getD 9 undef,vs.getD 10 undef,vs.getD 11 undef,vs.getD 12 undef,vs.getD 13 undef,vs.getD 14 undef,vs.getD 15 undef,vs.getD 16 undef,vs.getD 17 undef]:=by
 match vs,h with
 | [_,_,_,_,_,_,_,_,_,_,_,_,_,_,_,_,_,_],_=>rfl
theorem cells10 (h:vs.length=10):vs=[vs.getD 0 undef,vs.getD 1 undef,vs.getD 2 undef,vs.getD 3 undef,vs.getD 4 undef,vs.getD 5 undef,vs.getD 6 undef,vs.getD 7 undef,vs.getD 8 undef,vs.getD 9 undef]:=by
 match vs,h with
 | [_,_,_,_,_,_,_,_,_,_],_=>rfl
theorem cells6 (h:vs.length=6):vs=[vs.getD 0 undef,vs.getD 1 undef,vs.getD 2 undef,vs.getD 3 undef,vs.getD 4 undef,vs.getD 5 undef]:=by
 match vs,h with
 | [_,_,_,_,_,_],_=>rfl
theorem cells4 (h:vs.length=4):vs=[vs.getD 0 undef,vs.getD 1 undef,vs.getD 2 undef,vs.getD 3 undef]:=by
 match vs,h with
 | [_,_,_,_],_=>rfl
theorem cells1 (h:vs.length=1):vs=[vs.getD 0 undef]:=by
 match vs,h with
 | [_],_=>rfl
theorem th_of {g:Th} (hg:ThOk g) (hl:vs.length=6) (h:∀ j (hj:j<(cTh g).length),Pu F w ok (cTh g)[j] (vs.getD j undef)):ThEl lo w vs g:=by
 refine ⟨?_,hg⟩
 rw [cells6 hl,(h 0 (by simp [cTh])).v_inv,(h 1 (by simp [cTh])).v_inv,(h 2 (by simp [cTh])).v_inv,(h 3 (by simp [cTh])).v_inv,(h 4 (by simp [cTh])).v_inv,(h 5 (by simp [cTh])).v_inv]
theorem ln_of {g:Ln} (hg:LnOk g) (hl:vs.length=4) (h:∀ j (hj:j<(cLn g).length),Pu F w ok (cLn g)[j] (vs.getD j undef)):LnEl lo w vs g:=by
 refine ⟨?_,hg⟩
 rw [cells4 hl,(h 0 (by simp [cLn])).v_inv,(h 1 (by simp [cLn])).v_inv,(h 2 (by simp [cLn])).v_inv,(h 3 (by simp [cLn])).v_inv]
theorem ZbT {α:Type} {f:α->List AV} {xs:List α} (hz:∀ x,(f x).length=z) {Q:Nat->World->List Value->α->Prop} (hlo:∀ b,ok b->lo<=b) (R:α->Prop) (hR:∀ x∈xs,R x)
 (hQ:∀ (x:α) (vs:List Value),R x->vs.length=z->(∀ j (hj:j<(f x).length),Pu F w ok (f x)[j] (vs.getD j undef))->Q lo w vs x) (h:Pu F w ok (slA z f xs) v):IsSl z Q lo w v xs:=by
 have h1:=pu_sl hz (Q:=λlo w vs x=>R x->Q lo w vs x) hlo (λx vs hl hp hr=>hQ x vs hr hl hp) h
 obtain ⟨a,cap,hv,a1,a2,a3,a4⟩:=h1
 refine ⟨a,cap,hv,a1,a2,a3,?_⟩
 rcases a4 with a4 | ⟨b,off,b1,b2,b3,b4⟩
 ·exact .inl a4
 exact .inr ⟨b,off,b1,b2,b3,λi hi=>by obtain ⟨cs,c1,c2,c3⟩:=b4 i hi;exact ⟨cs,c1,c2,c3 (hR _ (List.getElem_mem hi))⟩⟩
theorem lenTh (g:Th):(cTh g).length=6:=rfl
theorem lenLn (g:Ln):(cLn g).length=4:=rfl
theorem lenRu (g:Ru):(cRu g).length=18:=rfl
theorem lenStr (s:ByteArray):[sv s].length=1:=rfl
theorem Zdh {xs:List ByteArray} (hs:∀ s∈xs,s.size<=maxLen) (hlo:∀ b,ok b->lo<=b) (h:Pu F w ok (ZN xs) v):IsSl 1 StrEl lo w v xs:=by
 have e0:∀ xs:List ByteArray,xs.map sv=xs.flatMap λs=>[sv s]:=λxs=>by
  induction xs with
  | nil=>rfl
  | cons x xs ih=>simp only [List.map_cons,List.flatMap_cons,ih];rfl
 have e:ZN xs=slA 1 (λs=>[sv s]) xs:=by unfold ZN slA;rw [e0]
 rw [e] at h
 exact ZbT (f:=λs=>[sv s]) lenStr hlo (λs:ByteArray=>s.size<=maxLen) hs (λs vs hs hl hp=>⟨by rw [cells1 hl,(hp 0 (by simp)).v_inv],hs⟩) h
theorem ru_of {r:Ru} (hr:RuOk r) (hlo:∀ b,ok b->lo<=b) (hl:vs.length=18) (h:∀ j (hj:j<(cRu r).length),Pu F w ok (cRu r)[j] (vs.getD j undef)):RuEl lo w vs r:=by
 have hz:(cRu r).length=18:=rfl
 refine ⟨vs.getD 6 undef,vs.getD 7 undef,vs.getD 8 undef,vs.getD 9 undef,vs.getD 12 undef,vs.getD 14 undef,vs.getD 15 undef,vs.getD 16 undef,?_,hr.nm,hr.kind,hr.frm,hr.to,hr.pf,hr.pt,Yf hr.resp hlo (h 6 (by omega)),ZbT lenTh hlo ThOk hr.gz (λg vs hg hl hp=>th_of hg hl hp) (h 7 (by omega)),Yf hr.ex hlo (h 8 (by omega)),Yf hr.fa hlo (h 9 (by omega)),hr.rd,hr.wr,Yf hr.send hlo (h 12 (by omega)),hr.pos,Yf hr.left hlo (h 14 (by omega)),Yf hr.right hlo (h 15 (by omega)),Yf hr.pz hlo (h 16 (by omega)),hr.dir⟩
 have e:=cells18 hl
 rw [show vs.getD 0 undef = .string r.nm from (h 0 (by omega)).v_inv,show vs.getD 1 undef = .int .i64 r.kind from (h 1 (by omega)).v_inv,show vs.getD 2 undef = .int .i64 r.frm from (h 2 (by omega)).v_inv,show vs.getD 3 undef = .int .i64 r.to from (h 3 (by omega)).v_inv,show vs.getD 4 undef = .int .i64 r.pf from (h 4 (by omega)).v_inv,show vs.getD 5 undef = .int .i64 r.pt from (h 5 (by omega)).v_inv,show vs.getD 10 undef = .int .i64 r.rd from (h 10 (by omega)).v_inv,show vs.getD 11 undef = .int .i64 r.wr from (h 11 (by omega)).v_inv,show vs.getD 13 undef = .int .i64 r.pos from (h 13 (by omega)).v_inv,show vs.getD 17 undef = .int .i64 r.dir from (h 17 (by omega)).v_inv] at e
 exact e
variable {q:Fm}
theorem fam_of (hq:FmOk q) (hlo:∀ b,ok b->lo<=b) (h:Pu F w ok (.agg (cFm q)) v):IsFam lo w v q:=by
 obtain ⟨vs,rfl,hl,h⟩:=Yt h
 have hz:(cFm q).length=10:=rfl
 refine ⟨vs.getD 2 undef,vs.getD 3 undef,vs.getD 4 undef,vs.getD 6 undef,vs.getD 7 undef,vs.getD 8 undef,vs.getD 9 undef,?_,hq.nm,hq.top,Zdh hq.sz hlo (h 2 (by omega)),Zdh hq.msgs hlo (h 3 (by omega)),Zdh hq.vals hlo (h 4 (by omega)),hq.fzz,ZbT lenLn hlo LnOk hq.res (λg vs hg hl hp=>ln_of hg hl hp) (h 6 (by omega)),Yf hq.init hlo (h 7 (by omega)),Yf hq.lz hlo (h 8 (by omega)),ZbT lenRu hlo RuOk hq.rz (λr vs hr hl hp=>ru_of hr hlo hl hp) (h 9 (by omega))⟩
 have e:=cells10 (hl.trans hz)
 rw [show vs.getD 0 undef = .string q.nm from (h 0 (by omega)).v_inv,show vs.getD 1 undef = .int .i64 q.top from (h 1 (by omega)).v_inv,show vs.getD 5 undef = .int .i64 q.fzz from (h 5 (by omega)).v_inv] at e
 exact congrArg (λl:List Value=>Value.agg l.toArray) e
end
section
variable {P:Program} {f:FuncId}
variable {A u:AV}
theorem ctr1 (H:∀ (w:World) (v:Value),(∀ w',Below w.heap.size w w'->J w')->Pu (λ_=>True) w (λb=>b<w.heap.size) A v->Calls P f #[v] w λe w'=>∃ v,e = .returned v/\Pu (w.heap.size <= ·) w' (nw w' w.heap.size) u v/\Below w.heap.size w w'):Ctr P J f [A] u:=λw vs hJ hl hv=>by
 obtain ⟨v,rfl⟩:∃ v,vs = #[v]:=by
  match vs,hl with
  | ⟨[v]⟩,_=>exact ⟨v,rfl⟩
 exact H w v hJ (hv 0 (by simp))
theorem ctr2 {A B u:AV} (H:∀ (w:World) (v v':Value),(∀ w',Below w.heap.size w w'->J w')->Pu (λ_=>True) w (λb=>b<w.heap.size) A v->Pu (λ_=>True) w (λb=>b<w.heap.size) B v'->Calls P f #[v,v'] w λe w'=>∃ v,e = .returned v/\Pu (w.heap.size <= ·) w' (nw w' w.heap.size) u v/\Below w.heap.size w w'):Ctr P J f [A,B] u:=λw vs hJ hl hv=>by
 obtain ⟨v,v',rfl⟩:∃ v v',vs = #[v,v']:=by
  match vs,hl with
  | ⟨[v,v']⟩,_=>exact ⟨v,v',rfl⟩
 exact H w v v' hJ (hv 0 (by simp)) (hv 1 (by simp))
theorem ctr3 {A B C u:AV} (H:∀ (w:World) (v v' v'':Value),(∀ w',Below w.heap.size w w'->J w')->Pu (λ_=>True) w (λb=>b<w.heap.size) A v->Pu (λ_=>True) w (λb=>b<w.heap.size) B v'->Pu (λ_=>True) w (λb=>b<w.heap.size) C v''->Calls P f #[v,v',v''] w λe w'=>∃ v,e = .returned v/\Pu (w.heap.size <= ·) w' (nw w' w.heap.size) u v/\Below w.heap.size w w'):Ctr P J f [A,B,C] u:=λw vs hJ hl hv=>by
 obtain ⟨v,v',v'',rfl⟩:∃ v v' v'',vs = #[v,v',v'']:=by
  match vs,hl with
  | ⟨[v,v',v'']⟩,_=>exact ⟨v,v',v'',rfl⟩
 exact H w v v' v'' hJ (hv 0 (by simp)) (hv 1 (by simp)) (hv 2 (by simp))
variable {w':World}
theorem ret_sc {r:Value} {e:Ending} (h:e = .returned r/\Below w.heap.size w w'):∃ v,e = .returned v/\Pu (w.heap.size <= ·) w' (nw w' w.heap.size) (.v r) v/\Below w.heap.size w w':=⟨r,h.1,.v r,h.2⟩
theorem Zay {r:Value} {e:Ending} (h:e = .returned r/\w=w'):∃ v,e = .returned v/\Pu (w.heap.size <= ·) w' (nw w' w.heap.size) (.v r) v/\Below w.heap.size w w':=⟨r,h.1,.v r,by rw [<- h.2];exact Below.refl _ _⟩
end
theorem fst1 {xs:List ByteArray}:ZN xs=slA 1 (λs=>[sv s]) xs:=by
 have e0:∀ xs:List ByteArray,xs.map sv=xs.flatMap λs=>[sv s]:=λxs=>by
  induction xs with
  | nil=>rfl
  | cons x xs ih=>simp only [List.map_cons,List.flatMap_cons,ih];rfl
 unfold ZN slA;rw [e0]
def inB (lo hi n:Int):Bool:=decide (lo<=n)&&decide (n<=hi)
theorem Z4 (n lo hi:Int) (w:World) :
 Calls Tryz.prog 88 #[.int .i64 n,.int .i64 lo,.int .i64 hi] w λe w'=>e = .returned (.bool (inB lo hi n))/\w=w':=by
 have e:Hid (inB lo hi n=(decide (lo<=n)&&decide (n<=hi))):=(rfl:inB lo hi n=_)
 by_cases h1:lo<=n
 ·by_cases h2:n<=hi
  ·go_enter func88,ntmps88
   go_wp2
   go_ret
   exact ⟨Zt (by rw [e.out];simp;omega),rfl⟩
  go_enter func88,ntmps88
  go_wp2
  go_ret
  exact ⟨Zt (by rw [e.out];simp;omega),rfl⟩
 go_enter func88,ntmps88
 go_wp2
 go_ret
 exact ⟨Zt (by rw [e.out];simp;omega),rfl⟩
theorem YC (n lo hi:Int) (w:World) :
 Calls Tryz.prog 74 #[.int .i64 n,.int .i64 lo,.int .i64 hi] w λe w'=>e = .returned (.bool (inB lo hi n))/\w=w':=by
 have e:Hid (inB lo hi n=(decide (lo<=n)&&decide (n<=hi))):=(rfl:inB lo hi n=_)
 by_cases h1:lo<=n
 ·by_cases h2:n<=hi
  ·go_enter func74,ntmps74
   go_wp2
   go_ret
   exact ⟨Zt (by rw [e.out];simp;omega),rfl⟩
  go_enter func74,ntmps74
  go_wp2
  go_ret
  exact ⟨Zt (by rw [e.out];simp;omega),rfl⟩
 go_enter func74,ntmps74
 go_wp2
 go_ret
 exact ⟨Zt (by rw [e.out];simp;omega),rfl⟩
def faB (n:Int):Bool:=inB (-100) 100 n
def paB (n:Int):Bool:=inB 0 1048576 n
theorem KV (n:Int) (w:World):Calls Tryz.prog 118 #[.int .i64 n] w λe w'=>e = .returned (.bool (faB n))/\w=w':=by
 go_enter func118,ntmps118
 go_wp2_with (go_at_call 88;refine (Z4 _ _ _ _).mono ?_;rintro e w' ⟨rfl,rfl⟩)
 go_ret
 exact ⟨rfl,rfl⟩
theorem YS (n:Int) (w:World):Calls Tryz.prog 101 #[.int .i64 n] w λe w'=>e = .returned (.bool (paB n))/\w=w':=by
 go_enter func101,ntmps101
 go_wp2_with (go_at_call 88;refine (Z4 _ _ _ _).mono ?_;rintro e w' ⟨rfl,rfl⟩)
 go_ret
 exact ⟨rfl,rfl⟩
theorem Zas (n:Int) (w:World):Calls Tryz.prog 74 #[.int .i64 n,.int .i64 (-100),.int .i64 100] w λe w'=>e = .returned (.bool (faB n))/\w=w':=YC _ _ _ _
theorem WG (n:Int) (w:World):Calls Tryz.prog 74 #[.int .i64 n,.int .i64 0,.int .i64 1048576] w λe w'=>e = .returned (.bool (paB n))/\w=w':=YC _ _ _ _
def smL (c n t f:Int):Bool:=faB c&&faB n&&faB t&&faB f
theorem YE (c n t f:Int) (w:World) :
 Calls Tryz.prog 93 #[.agg #[.int .i64 c,.int .i64 n,.int .i64 t,.int .i64 f]] w λe w'=>e = .returned (.bool (!smL c n t f))/\Below w.heap.size w w':=by
 have e:Hid (smL c n t f=(faB c&&faB n&&faB t&&faB f)):=(rfl:smL c n t f=_)
 cases h1:faB c with
 | false =>
   go_enter func93,ntmps93
   go_wp2_with (go_at_call 118;refine (KV _ _).mono ?_;rintro e w' ⟨rfl,rfl⟩)
   go_ret
   exact ⟨Zt (by rw [e.out,h1];rfl),Zm _ _⟩
 | true =>
   cases h2:faB n with
   | false =>
     go_enter func93,ntmps93
     go_wp2_with (go_at_call 118;refine (KV _ _).mono ?_;rintro e w' ⟨rfl,rfl⟩)
     go_ret
     exact ⟨Zt (by rw [e.out,h1,h2];rfl),Zm _ _⟩
   | true =>
     cases h3:faB t with
     | false =>
       go_enter func93,ntmps93
       go_wp2_with (go_at_call 118;refine (KV _ _).mono ?_;rintro e w' ⟨rfl,rfl⟩)
       go_ret
       exact ⟨Zt (by rw [e.out,h1,h2,h3];rfl),Zm _ _⟩
     | true =>
       go_enter func93,ntmps93
       go_wp2_with (go_at_call 118;refine (KV _ _).mono ?_;rintro e w' ⟨rfl,rfl⟩)
       go_ret
       exact ⟨Zt (by rw [e.out,h1,h2,h3];rfl),Zm _ _⟩
theorem ZaT (c n t f:Int) (w:World) :
 Calls Tryz.prog 108 #[.agg #[.int .i64 c,.int .i64 n,.int .i64 t,.int .i64 f]] w λe w'=>e = .returned (.bool (smL c n t f))/\Below w.heap.size w w':=by
 have e:Hid (smL c n t f=(faB c&&faB n&&faB t&&faB f)):=(rfl:smL c n t f=_)
 cases h1:faB c with
 | false =>
   go_enter func108,ntmps108
   go_wp2_with (go_at_call 74;refine (Zas _ _).mono ?_;rintro e w' ⟨rfl,rfl⟩)
   go_ret
   exact ⟨Zt (by rw [e.out,h1];rfl),Zm _ _⟩
 | true =>
   cases h2:faB n with
   | false =>
     go_enter func108,ntmps108
     go_wp2_with (go_at_call 74;refine (Zas _ _).mono ?_;rintro e w' ⟨rfl,rfl⟩)
     go_ret
     exact ⟨Zt (by rw [e.out,h1,h2];rfl),Zm _ _⟩
   | true =>
     cases h3:faB t with
     | false =>
       go_enter func108,ntmps108
       go_wp2_with (go_at_call 74;refine (Zas _ _).mono ?_;rintro e w' ⟨rfl,rfl⟩)
       go_ret
       exact ⟨Zt (by rw [e.out,h1,h2,h3];rfl),Zm _ _⟩
     | true =>
       go_enter func108,ntmps108
       go_wp2_with (go_at_call 74;refine (Zas _ _).mono ?_;rintro e w' ⟨rfl,rfl⟩)
       go_ret
       exact ⟨Zt (by rw [e.out,h1,h2,h3];rfl),Zm _ _⟩
def ixB (n:Nat) (x:Int):Bool:=inB 0 ((n:Int)-1) x
theorem Zz (x:Int) (n:Nat) (hn:n<=9223372036854775807) (w:World) :
 Calls Tryz.prog 98 #[.int .i64 x,.int .i64 n] w λe w'=>e = .returned (.bool (ixB n x))/\w=w':=by
 have hw:IntKind.i64.wrap ((n:Int)-1)=(n:Int)-1:=IntWalk.i64_in _ (by omega)
 go_enter func98,ntmps98
 go_wp2_with (go_at_call 88;refine (Z4 _ _ _ _).mono ?_;rintro e w' ⟨rfl,rfl⟩)
 go_ret
 exact ⟨rfl,rfl⟩
def allK (n:Nat) (xs:List Int) (k:Nat):Bool:=(xs.take k).all (ixB n)
variable {n:Nat}
theorem ZaL (h:k<xs.length) (hk:allK n xs k=true) (hp:ixB n xs[k]=true):allK n xs (k+1)=true:=by
 unfold allK at *;rw [List.take_succ_eq_append_getElem h,List.all_append,hk];simp [hp]
theorem Zfy (h:k<xs.length) (hp:ixB n xs[k]=false):allK n xs xs.length=false:=by
 unfold allK;rw [List.take_length,List.all_eq_false];exact ⟨xs[k],List.getElem_mem h,by simp [hp]⟩
def ascK (xs:List Int) (k:Nat):Bool:=(List.range k).all λj=>decide (j=0)||decide (xs.getD (j-1) 0<xs.getD j 0)
theorem ascK_one (xs:List Int):ascK xs 1=true:=rfl
theorem ZeT (hk:ascK xs k=true) (hp:xs.getD (k-1) 0<xs.getD k 0):ascK xs (k+1)=true:=by
 unfold ascK at *;rw [List.range_succ,List.all_append,hk];simp only [List.all_cons,List.all_nil,Bool.and_true,decide_eq_true hp,Bool.or_true]
theorem ascK_no (h:k<n) (h0:0<k) (hp:¬ xs.getD (k-1) 0<xs.getD k 0):ascK xs n=false:=by
 unfold ascK;rw [List.all_eq_false];exact ⟨k,List.mem_range.2 h,by rw [decide_eq_false (by omega:¬ k=0),decide_eq_false hp];simp⟩
def setE (n:Nat) (xs:List Int):Int:=if allK n xs xs.length=false then 5 else if ascK xs xs.length=false then 1 else 0
set_option maxHeartbeats 12800000
def tooB (q:Fm):Bool:=decide (6<q.sz.length)||decide (3<q.msgs.length)||decide (3<q.vals.length)||decide (4<q.res.length)||decide (8<q.rz.length)
variable {q:Fm}
theorem Zaa (h:IsFam lo w v q) :
 Calls Tryz.prog 89 #[v] w λe w'=>e = .returned (.bool (tooB q))/\Below w.heap.size w w':=by
 obtain ⟨v2,v3,v4,v6,v7,v8,v9,rfl,h0,h1,h2,h3,h4,h5,h6,h7,h8,h9⟩:=h
 have E:Hid (tooB q=(decide (6<q.sz.length)||decide (3<q.msgs.length)||decide (3<q.vals.length)||decide (4<q.res.length)||decide (8<q.rz.length))):=(rfl:tooB q=_)
 have b2:q.sz.length<=9223372036854775807:=by exact h2.bound
 have b3:q.msgs.length<=9223372036854775807:=by exact h3.bound
 have b4:q.vals.length<=9223372036854775807:=by exact h4.bound
 have b6:q.res.length<=9223372036854775807:=by exact h6.bound
 have b7:q.init.length<=9223372036854775807:=by obtain ⟨_,_,_,hh,hm,_⟩:=h7;unfold maxLen at hm;omega
 have b8:q.lz.length<=9223372036854775807:=by obtain ⟨_,_,_,hh,hm,_⟩:=h8;unfold maxLen at hm;omega
 have b9:q.rz.length<=9223372036854775807:=by exact h9.bound
 obtain ⟨a2,c2,rfl⟩:=h2.shape
 obtain ⟨a3,c3,rfl⟩:=h3.shape
 obtain ⟨a4,c4,rfl⟩:=h4.shape
 obtain ⟨a6,c6,rfl⟩:=h6.shape
 obtain ⟨a7,c7,rfl⟩:=h7.shape
 obtain ⟨a8,c8,rfl⟩:=h8.shape
 obtain ⟨a9,c9,rfl⟩:=h9.shape
 clear h0 h1 h2 h3 h4 h5 h6 h7 h8 h9
 by_cases t0:6<q.sz.length
 ·have i0:(6:Int)<(q.sz.length:Int):=by omega
  go_enter func89,ntmps89
  go_wp2_with fail
  go_ret
  exact ⟨Zt (by rw [E.out,decide_eq_true t0];simp),Zm _ _⟩
 have i0:¬ (6:Int)<(q.sz.length:Int):=by omega
 by_cases t1:3<q.msgs.length
 ·have i1:(3:Int)<(q.msgs.length:Int):=by omega
  go_enter func89,ntmps89
  go_wp2_with fail
  go_ret
  exact ⟨Zt (by rw [E.out,decide_eq_true t1];simp),Zm _ _⟩
 have i1:¬ (3:Int)<(q.msgs.length:Int):=by omega
 by_cases t2:3<q.vals.length
 ·have i2:(3:Int)<(q.vals.length:Int):=by omega
  go_enter func89,ntmps89
  go_wp2_with fail
  go_ret
  exact ⟨Zt (by rw [E.out,decide_eq_true t2];simp),Zm _ _⟩
 have i2:¬ (3:Int)<(q.vals.length:Int):=by omega
 by_cases t3:4<q.res.length
 ·have i3:(4:Int)<(q.res.length:Int):=by omega
  go_enter func89,ntmps89
  go_wp2_with fail
  go_ret
  exact ⟨Zt (by rw [E.out,decide_eq_true t3];simp),Zm _ _⟩
 have i3:¬ (4:Int)<(q.res.length:Int):=by omega
 by_cases t4:8<q.rz.length
 ·have i4:(8:Int)<(q.rz.length:Int):=by omega
  go_enter func89,ntmps89
  go_wp2_with fail
  go_ret
  exact ⟨Zt (by rw [E.out,decide_eq_true t4];simp),Zm _ _⟩
 have i4:¬ (8:Int)<(q.rz.length:Int):=by omega
 go_enter func89,ntmps89
 go_wp2_with fail
 go_ret
 exact ⟨Zt (by rw [E.out,decide_eq_false t0,decide_eq_false t1,decide_eq_false t2,decide_eq_false t3,decide_eq_false t4];rfl),Zm _ _⟩
def fitB (kind top:Int):Bool:=if kind=1\/kind=2\/kind=3 then top==1 else if kind=4\/kind=5 then !(top==1) else false
theorem Zep (kind top:Int) (w:World):Calls Tryz.prog 120 #[.int .i64 kind,.int .i64 top] w λe w'=>e = .returned (.bool (fitB kind top))/\w=w':=by
 by_cases k1:kind=1
 ·subst k1
  go_enter func120,ntmps120
  go_wp2_with fail
  go_ret
  exact ⟨rfl,rfl⟩
 have j1:(kind==1)=false:=by rw [beq_eq_false_iff_ne];exact k1
 by_cases k2:kind=2
 ·subst k2
  go_enter func120,ntmps120
  go_wp2_with fail
  go_ret
  exact ⟨rfl,rfl⟩
 have j2:(kind==2)=false:=by rw [beq_eq_false_iff_ne];exact k2
 by_cases k3:kind=3
 ·subst k3
  go_enter func120,ntmps120
  go_wp2_with fail
  go_ret
  exact ⟨rfl,rfl⟩
 have j3:(kind==3)=false:=by rw [beq_eq_false_iff_ne];exact k3
 by_cases k4:kind=4
 ·subst k4
  go_enter func120,ntmps120
  go_wp2_with fail
  go_ret
  exact ⟨rfl,rfl⟩
 have j4:(kind==4)=false:=by rw [beq_eq_false_iff_ne];exact k4
 by_cases k5:kind=5
 ·subst k5
  go_enter func120,ntmps120
  go_wp2_with fail
  go_ret
  exact ⟨rfl,rfl⟩
 have j5:(kind==5)=false:=by rw [beq_eq_false_iff_ne];exact k5
 have E:=Lib.hid (show fitB kind top=false by unfold fitB;rw [if_neg (by omega),if_neg (by omega)])
 clear k1 k2 k3 k4 k5
 go_enter func120,ntmps120
 go_wp2_with fail
 go_ret
 exact ⟨Zt (by rw [E.out]),rfl⟩
end Go.Proofs.YtmpgnibfhjdfpaaGreat
namespace Go.Proofs.YtmpgnibfhjdfpaaGreat
def resW:List (List UInt8):=[[112,114,111,116,111,99,111,108],[116,111,112,111,108,111,103,121],[115,116,97,116,101,115],[109,101,115,115,97,103,101,115],[118,97,108,117,101,115],[102,97,117,108,116,115],[114,101,115,105,108,105,101,110,99,101],[105,110,105,116,105,97,108],[108,101,97,100,101,114],[114,117,108,101],[108,111,99,97,108],[112,97,105,114],[98,114,111,97,100,99,97,115,116],[110,101,105,103,104,98,111,114],[112,97,115,115],[119,104,101,110],[101,120,105,115,116,115],[102,111,114,97,108,108],[114,101,97,100],[119,114,105,116,101],[115,101,110,100],[97,108,108],[97,116],[102,105,114,115,116],[108,97,115,116],[108,101,102,116],[114,105,103,104,116],[112,97,114,101,110,116],[99,104,105,108,100],[112,114,111,112,101,114,116,121],[110,101,118,101,114],[101,118,101,110,116,117,97,108,108,121],[115,116,97,114,116],[99,111,117,110,116],[97,100,106,97,99,101,110,116],[103,111,97,108],[99,108,105,113,117,101],[108,105,110,101],[114,105,110,103],[116,114,101,101],[99,114,97,115,104],[111,109,105,115,115,105,111,110],[97,114,98,105,116,114,97,114,121]]
def resB (l:List UInt8):Bool:=resW.any (λw=>l==w)
def leB (c:UInt8):Bool:=decide (97<=(c.toNat:Int))&&decide ((c.toNat:Int)<=122)
def diB (c:UInt8):Bool:=decide (48<=(c.toNat:Int))&&decide ((c.toNat:Int)<=57)||((c.toNat:Int)==95)
def atB (l:List UInt8) (i:Nat):Bool:=leB (l.getD i 0)||(decide (i≠0)&&diB (l.getD i 0))
def upB (l:List UInt8) (n:Nat):Bool:=(List.range n).all (atB l)
theorem upB_zero (l:List UInt8):upB l 0=true:=rfl
variable {n:Nat}
theorem upB_succ {l:List UInt8} (h:upB l n=true) (h':atB l n=true):upB l (n+1)=true:=by
 unfold upB at *;rw [List.range_succ,List.all_append,h];simp [h']
variable {k:Nat}
theorem ZdK {l:List UInt8} (hk:k<n) (h':atB l k=false):upB l n=false:=by
 unfold upB;rw [List.all_eq_false];exact ⟨k,List.mem_range.2 hk,by simp [h']⟩
def nameB (l:List UInt8):Bool:=decide (1<=l.length)&&decide (l.length<=12) && !resB l&&upB l l.length
def reB (l:List UInt8) (n:Nat):Bool:=(l.take n).all λc=>leB c||diB c
theorem reB_succ {l:List UInt8} (hn:n<l.length) (h:reB l n=true) (h':(leB l[n]||diB l[n])=true):reB l (n+1)=true:=by
 unfold reB at *;rw [List.take_succ_eq_append_getElem hn,List.all_append,h];simpa using h'
theorem reB_no {l:List UInt8} (hk:k<l.length) (h':(leB l[k]||diB l[k])=false):reB l l.length=false:=by
 unfold reB;rw [List.all_eq_false];exact ⟨l[k],by rw [List.take_length];exact List.getElem_mem hk,by simp [h']⟩
theorem Zbw {l:List UInt8} (h0:0<l.length):upB l l.length=(leB l[0]&&reB l l.length):=by
 rw [Bool.eq_iff_iff]
 unfold upB reB
 rw [List.take_length,List.all_eq_true,Bool.and_eq_true,List.all_eq_true]
 constructor
 ·intro h
  refine ⟨?_,λc hc => ?_⟩
  ·have:=h 0 (List.mem_range.2 h0);simpa [atB,h0] using this
  obtain ⟨i,hi,rfl⟩:=List.getElem_of_mem hc
  have:=h i (List.mem_range.2 hi)
  unfold atB at this
  simp only [List.getD_eq_getElem?_getD,List.getElem?_eq_getElem hi,Option.getD_some] at this
  revert this
  cases leB l[i]<;>cases diB l[i]<;>simp
 rintro ⟨h1,h2⟩ i hi
 have hi':=List.mem_range.1 hi
 have h3:=h2 l[i] (List.getElem_mem hi')
 unfold atB
 simp only [List.getD_eq_getElem?_getD,List.getElem?_eq_getElem hi',Option.getD_some]
 by_cases e:i=0
 ·subst e;simp [h1]
 simp only [ne_eq,e,not_false_eq_true,decide_true,Bool.true_and];exact h3
theorem ZdL {l:List UInt8} (h0:0<l.length) (h:leB l[0]=false):upB l l.length=false:=by rw [Zbw h0,h];rfl
end Go.Proofs.YtmpgnibfhjdfpaaGreat
namespace Go.Proofs.YtmpgnibfhjdfpaaGreat
open Go.RowKit Go.Deep Tryz
def orE (a b:Int):Int:=if a=0 then b else a
theorem ZD (b:Int):orE 0 b=b:=if_pos rfl
theorem K6 (a:Int):orE a 0=a:=by unfold orE;split<;>omega
theorem Ki {a:Int} (b:Int) (h:a≠0):orE a b=a:=if_neg h
theorem KC (n:Nat):setE n []=0:=by unfold setE allK ascK;simp
def hasN (xs:List ByteArray) (s:ByteArray):Bool:=xs.any λx=>x.toList==s.toList
def nmOk (xs:List ByteArray) (k:Nat):Bool:=(List.range k).all λi=>nameB (xs.getD i default).toList && !hasN (xs.take i) (xs.getD i default)
variable {k:Nat}
theorem Zel {xs:List ByteArray} (hk:k<xs.length) (h:nmOk xs k=true) (h1:nameB (xs[k].toList)=true) (h2:hasN (xs.take k) xs[k]=false):nmOk xs (k+1)=true:=by
 have e:xs.getD k default=xs[k]:=by simp [List.getD,List.getElem?_eq_getElem hk]
 unfold nmOk at *;rw [List.range_succ,List.all_append,h];simp only [List.all_cons,List.all_nil,Bool.and_true,e,h1,h2,Bool.not_false]
variable {n:Nat}
theorem Zfi {xs:List ByteArray} (hk:k<xs.length) (hn:k<n) (h:nameB (xs[k].toList)=false\/hasN (xs.take k) xs[k]=true):nmOk xs n=false:=by
 have e:xs.getD k default=xs[k]:=by simp [List.getD,List.getElem?_eq_getElem hk]
 unfold nmOk;rw [List.all_eq_false]
 refine ⟨k,List.mem_range.2 hn,?_⟩
 rw [e]
 rcases h with h | h<;>rw [h]<;>simp
def guE (msgs:Nat) (g:Th):Int:=if ixB msgs g.msg=false then 5 else if inB 1 100 g.coef=false then 1 else if smL g.bd.c g.bd.n g.bd.t g.bd.f=false then 4 else 0
def gusE (msgs:Nat):List Th->Int
 | []=>0
 | g::gs=>if guE msgs g=0 then gusE msgs gs else guE msgs g
def guardE (msgs:Nat) (gs:List Th):Int:=if gusE msgs gs=0 then (if 2<gs.length then 4 else 0) else gusE msgs gs
theorem WW (m:Nat):guardE m []=0:=rfl
def shE (vals:Nat) (rd wr:Int):Int:=if (rd ≠ -1/\ixB vals rd=false)\/(wr ≠ -1/\ixB vals wr=false) then 5 else 0
theorem shE_none (v:Nat):shE v (-1) (-1)=0:=by unfold shE;simp
def reE (n:Nat) (xs:List Int):Int:=if xs.length≠n then 1 else if allK n xs xs.length=false then 5 else 0
def posE (pos top:Int):Int:=if inB 0 2 pos=false\/(pos≠0/\top=3) then 1 else 0
def dirE (dir top:Int):Int:=if top=4 then (if dir=3\/dir=4 then 0 else 1) else (if dir=1\/dir=2 then 0 else 1)
def bare (r:Ru) (top:Int):Ru :=
 let r:={ r with frm:=0,«to»:=0 }
 if r.kind=1 then { r with gz:=[],ex:=[],fa:=[],send:=[],rd := -1,wr := -1 }
 else if r.kind=2 then { r with pf:=0,pt:=0,rd := -1,wr := -1 }
 else if r.kind=3 then { r with resp:=[],rd := -1,wr := -1 }
 else if r.kind=4 then (if top=4 then { r with pos:=0,left:=[],right:=[],pz:=[] } else { r with pos:=0,left:=[],right:=[] })
 else if r.kind=5 then { r with pf:=0,pt:=0,dir:=0 }
 else r
def samP (a b:Ru):Bool :=
 decide (a.kind=b.kind)&&decide (a.frm=b.frm)&&decide (a.to=b.to)&&decide (a.pf=b.pf)&&decide (a.pt=b.pt)&&decide (a.resp=b.resp)&&decide (a.gz=b.gz)&&decide (a.ex=b.ex)&&decide (a.fa=b.fa) &&
 decide (a.rd=b.rd)&&decide (a.wr=b.wr)&&decide (a.send=b.send)&&decide (a.pos=b.pos)&&decide (a.left=b.left)&&decide (a.right=b.right)&&decide (a.pz=b.pz)&&decide (a.dir=b.dir)
def plainR (kind:Int):Ru:=⟨⟨#[]⟩,kind,0,0,0,0,[],[],[],[],-1,-1,[],0,[],[],[],0⟩
def othB (r:Ru) (top:Int):Bool:=samP (bare r top) (plainR r.kind)
def stB (r:Ru) (n:Nat):Bool:=ixB n r.frm&&ixB n r.to&&ixB n r.pf&&ixB n r.pt
def partE (q:Fm) (r:Ru):Int :=
 if r.kind=3 then orE (reE q.sz.length r.resp) (shE q.vals.length r.rd r.wr)
 else if r.kind=2 then shE q.vals.length r.rd r.wr
 else if r.kind=1 then orE (guardE q.msgs.length r.gz) (orE (setE q.sz.length r.ex) (orE (setE q.sz.length r.fa) (orE (shE q.vals.length r.rd r.wr) (setE q.msgs.length r.send))))
 else if r.kind=4 then orE (setE q.sz.length r.left) (orE (setE q.sz.length r.right) (orE (setE q.sz.length r.pz) (posE r.pos q.top)))
 else dirE r.dir q.top
def hasR (rs:List Ru) (s:ByteArray):Bool:=rs.any λr=>r.nm.toList==s.toList
def ruleE (q:Fm) (i:Nat) (r:Ru):Int :=
 if nameB r.nm.toList=false\/hasR (q.rz.take i) r.nm=true then 2
 else if fitB r.kind q.top=false\/othB r q.top=false then 6
 else if stB r q.sz.length=false then 5
 else partE q r
def KL (r:Ru) (top:Int):Bool :=
 if r.kind≠1/\(r.gz≠[]\/r.ex≠[]\/r.fa≠[]\/r.send≠[]) then true
 else if r.kind≠1/\r.kind≠2/\r.kind≠3/\(r.rd ≠ -1\/r.wr ≠ -1) then true
 else if r.kind≠2/\r.kind≠5/\(r.pf≠0\/r.pt≠0) then true
 else if (r.kind≠3/\r.resp≠[])\/(r.kind≠5/\r.dir≠0) then true
 else if r.kind≠4/\(r.pos≠0\/r.left≠[]\/r.right≠[]) then true
 else decide (r.pz≠[]/\¬ (r.kind=4/\top=4))
def rkindB (r:Ru) (top:Int):Bool:=inB 1 5 r.kind&&(decide (r.kind<=3)==decide (top=1)) && !KL r top
def rstB (r:Ru) (n:Nat):Bool:=ixB n r.frm&&ixB n r.to&&(!(decide (r.kind=2)||decide (r.kind=5))||(ixB n r.pf&&ixB n r.pt))
def rpartE (q:Fm) (r:Ru):Int :=
 orE (if r.kind=3 then reE q.sz.length r.resp else 0) <| orE (guardE q.msgs.length r.gz) <| orE (setE q.sz.length r.ex) <| orE (setE q.sz.length r.fa) <| orE (shE q.vals.length r.rd r.wr) <| orE (setE q.msgs.length r.send) <|
 orE (setE q.sz.length r.left) <| orE (setE q.sz.length r.right) <| orE (setE q.sz.length r.pz) <| orE (if r.kind=4 then posE r.pos q.top else 0) (if r.kind=5 then dirE r.dir q.top else 0)
def rruleE (q:Fm) (i:Nat) (r:Ru):Int :=
 if nameB r.nm.toList=false\/hasR (q.rz.take i) r.nm=true then 2
 else if rkindB r q.top=false then 6
 else if rstB r q.sz.length=false then 5
 else rpartE q r
theorem samP_iff (a b:Ru):samP a b=true↔a.kind=b.kind/\a.frm=b.frm/\a.to=b.to/\a.pf=b.pf/\a.pt=b.pt/\a.resp=b.resp/\a.gz=b.gz/\a.ex=b.ex/\a.fa=b.fa/\a.rd=b.rd/\a.wr=b.wr/\a.send=b.send/\a.pos=b.pos/\a.left=b.left/\a.right=b.right/\a.pz=b.pz/\a.dir=b.dir:=by
 unfold samP;simp only [Bool.and_eq_true,decide_eq_true_iff,and_assoc]
structure Emp (r:Ru) (top:Int):Prop where
 g:r.kind≠1->r.gz=[]/\r.ex=[]/\r.fa=[]/\r.send=[]
 s:r.kind≠1->r.kind≠2->r.kind≠3->r.rd = -1/\r.wr = -1
 p:r.kind≠2->r.kind≠5->r.pf=0/\r.pt=0
 b:r.kind≠3->r.resp=[]
 d:r.kind≠5->r.dir=0
 n:r.kind≠4->r.pos=0/\r.left=[]/\r.right=[]
 t:¬ (r.kind=4/\top=4)->r.pz=[]
theorem Zcp (r:Ru) (top:Int):KL r top=false↔Emp r top:=by
 unfold KL
 constructor
 ·intro h
  split at h
  ·cases h
  rename_i h1
  split at h
  ·cases h
  rename_i h2
  split at h
  ·cases h
  rename_i h3
  split at h
  ·cases h
  rename_i h4
  split at h
  ·cases h
  rename_i h5
  rw [decide_eq_false_iff_not] at h
  simp only [not_and,not_or,Decidable.not_not] at h1 h2 h3 h4 h5 h
  exact ⟨h1,h2,h3,h4.1,h4.2,h5,λhk=>Decidable.byContradiction λhn=>by simp_all⟩
 rintro ⟨g,s,p,b,d,n,t⟩
 rw [if_neg (by rintro ⟨hk,h⟩;have:=g hk;simp_all),if_neg (by rintro ⟨h1,h2,h3,h⟩;have:=s h1 h2 h3;simp_all),if_neg (by rintro ⟨h1,h2,h⟩;have:=p h1 h2;simp_all),
  if_neg (by rintro (⟨h1,h⟩ | ⟨h1,h⟩)<;>simp_all),if_neg (by rintro ⟨h1,h⟩;have:=n h1;simp_all),decide_eq_false_iff_not]
 rintro ⟨h1,h2⟩
 exact h1 (t h2)
theorem Zfh (r:Ru) (top:Int) (hk:r.kind=1\/r.kind=2\/r.kind=3\/r.kind=4\/r.kind=5):othB r top=true↔Emp r top:=by
 unfold othB
 rw [samP_iff]
 obtain ⟨nm,kind,frm,tt,pf,pt,resp,gz,ex,fa,rd,wr,send,pos,left,right,pz,dir⟩:=r
 unfold bare plainR
 dsimp only at hk ⊢
 rcases hk with rfl | rfl | rfl | rfl | rfl
 ·simp only [if_pos]
  constructor
  ·rintro ⟨-,-,-,h1,h2,h3,-,-,-,-,-,-,h4,h5,h6,h7,h8⟩
   exact ⟨by simp,by simp,λ_ _=>⟨h1,h2⟩,λ_=>h3,λ_=>h8,λ_=>⟨h4,h5,h6⟩,λ_=>h7⟩
  rintro ⟨g,s,p,b,d,n,t⟩
  have:=p (by simp) (by simp);have:=n (by simp);have:=b (by simp);have:=d (by simp);have:=t (by simp)
  simp_all
 ·simp only [show ¬ ((2:Int)=1) by omega,if_pos,if_neg,not_false_eq_true]
  constructor
  ·rintro ⟨-,-,-,-,-,h3,h9,h10,h11,-,-,h12,h4,h5,h6,h7,h8⟩
   exact ⟨λ_=>⟨h9,h10,h11,h12⟩,by simp,by simp,λ_=>h3,λ_=>h8,λ_=>⟨h4,h5,h6⟩,λ_=>h7⟩
  rintro ⟨g,s,p,b,d,n,t⟩
  have:=g (by simp);have:=n (by simp);have:=b (by simp);have:=d (by simp);have:=t (by simp)
  simp_all
 ·simp only [show ¬ ((3:Int)=1) by omega,show ¬ ((3:Int)=2) by omega,if_pos,if_neg,not_false_eq_true]
  constructor
  ·rintro ⟨-,-,-,h1,h2,-,h9,h10,h11,-,-,h12,h4,h5,h6,h7,h8⟩
   exact ⟨λ_=>⟨h9,h10,h11,h12⟩,by simp,λ_ _=>⟨h1,h2⟩,by simp,λ_=>h8,λ_=>⟨h4,h5,h6⟩,λ_=>h7⟩
  rintro ⟨g,s,p,b,d,n,t⟩
  have:=g (by simp);have:=n (by simp);have:=p (by simp) (by simp);have:=d (by simp);have:=t (by simp)
  simp_all
 ·simp only [show ¬ ((4:Int)=1) by omega,show ¬ ((4:Int)=2) by omega,show ¬ ((4:Int)=3) by omega,if_pos,if_neg,not_false_eq_true]
  by_cases ht:top=4
  ·simp only [if_pos ht]
   constructor
   ·rintro ⟨-,-,-,h1,h2,h3,h9,h10,h11,h13,h14,h12,-,-,-,-,h8⟩
    exact ⟨λ_=>⟨h9,h10,h11,h12⟩,λ_ _ _=>⟨h13,h14⟩,λ_ _=>⟨h1,h2⟩,λ_=>h3,λ_=>h8,by simp,by simp [ht]⟩
   rintro ⟨g,s,p,b,d,n,t⟩
   have:=g (by simp);have:=s (by simp) (by simp) (by simp);have:=p (by simp) (by simp);have:=b (by simp);have:=d (by simp)
   simp_all
  simp only [if_neg ht]
  constructor
  ·rintro ⟨-,-,-,h1,h2,h3,h9,h10,h11,h13,h14,h12,-,-,-,h7,h8⟩
   exact ⟨λ_=>⟨h9,h10,h11,h12⟩,λ_ _ _=>⟨h13,h14⟩,λ_ _=>⟨h1,h2⟩,λ_=>h3,λ_=>h8,by simp,λ_=>h7⟩
  rintro ⟨g,s,p,b,d,n,t⟩
  have:=g (by simp);have:=s (by simp) (by simp) (by simp);have:=p (by simp) (by simp);have:=b (by simp);have:=d (by simp);have:=t (by simp [ht])
  simp_all
 simp only [show ¬ ((5:Int)=1) by omega,show ¬ ((5:Int)=2) by omega,show ¬ ((5:Int)=3) by omega,show ¬ ((5:Int)=4) by omega,if_pos,if_neg,not_false_eq_true]
 constructor
 ·rintro ⟨-,-,-,-,-,h3,h9,h10,h11,h13,h14,h12,h4,h5,h6,h7,-⟩
  exact ⟨λ_=>⟨h9,h10,h11,h12⟩,λ_ _ _=>⟨h13,h14⟩,by simp,λ_=>h3,by simp,λ_=>⟨h4,h5,h6⟩,λ_=>h7⟩
 rintro ⟨g,s,p,b,d,n,t⟩
 have:=g (by simp);have:=s (by simp) (by simp) (by simp);have:=b (by simp);have:=n (by simp);have:=t (by simp)
 simp_all
theorem Wu {kind top:Int} (h:fitB kind top=true):kind=1\/kind=2\/kind=3\/kind=4\/kind=5:=by
 unfold fitB at h;split at h
 ·omega
 split at h
 ·omega
 cases h
theorem fit_eq (r:Ru) (top:Int):(fitB r.kind top&&othB r top)=rkindB r top:=by
 unfold rkindB
 by_cases hk:r.kind=1\/r.kind=2\/r.kind=3\/r.kind=4\/r.kind=5
 ·have e:othB r top = !KL r top:=by
   rw [Bool.eq_iff_iff,Zfh r top hk,<- Zcp];simp
  have e2:inB 1 5 r.kind=true:=by unfold inB;simp;omega
  rw [e,e2,Bool.true_and]
  congr 1
  unfold fitB
  by_cases h3:r.kind<=3
  ·rw [if_pos (by omega),decide_eq_true h3];by_cases ht:top=1<;>simp [ht]
  rw [if_neg (by omega),if_pos (by omega),decide_eq_false h3];by_cases ht:top=1<;>simp [ht]
 have e2:inB 1 5 r.kind=false:=by unfold inB;simp;omega
 have e3:fitB r.kind top=false:=by unfold fitB;rw [if_neg (by omega),if_neg (by omega)]
 rw [e2,e3];simp
theorem rule_eq (q:Fm) (i:Nat) (r:Ru) (hs:q.sz≠[]):ruleE q i r=rruleE q i r:=by
 unfold ruleE rruleE
 have hn:0<q.sz.length:=List.length_pos_iff.2 hs
 by_cases h1:nameB r.nm.toList=false\/hasR (q.rz.take i) r.nm=true
 ·rw [if_pos h1,if_pos h1]
 rw [if_neg h1,if_neg h1]
 have hf:=fit_eq r q.top
 cases hr:rkindB r q.top with
 | false =>
   rw [hr] at hf
   rw [if_pos (by cases hA:fitB r.kind q.top<;>cases hB:othB r q.top<;>simp_all),if_pos rfl]
 | true =>
   rw [hr,Bool.and_eq_true] at hf
   obtain ⟨hf,ho⟩:=hf
   have hk:=Wu hf
   have he:=(Zfh r q.top hk).1 ho
   rw [if_neg (by rw [hf,ho];simp),if_neg (by simp:¬ (true=false))]
   obtain ⟨g,s,p,b,d,n,t⟩:=he
   have z0:ixB q.sz.length 0=true:=by unfold ixB inB;simp;omega
   have hst:stB r q.sz.length=rstB r q.sz.length:=by
    unfold stB rstB
    by_cases hk2:r.kind=2\/r.kind=5
    ·have:(decide (r.kind=2)||decide (r.kind=5))=true:=by simpa using hk2
     rw [this];simp [Bool.and_assoc]
    have e:=p (by omega) (by omega)
    have:(decide (r.kind=2)||decide (r.kind=5))=false:=by simpa using hk2
    rw [this,e.1,e.2,z0];simp
   rw [hst]
   by_cases hb:rstB r q.sz.length=false
   ·rw [if_pos hb,if_pos hb]
   rw [if_neg hb,if_neg hb]
   unfold partE rpartE
   rcases hk with hk | hk | hk | hk | hk
   ·have e1:=n (by omega);have e2:=t (by omega)
    rw [hk,e1.2.1,e1.2.2,e2]
    simp [KC,ZD,K6]
   ·have e0:=g (by omega);have e1:=n (by omega);have e2:=t (by omega)
    rw [hk,e0.1,e0.2.1,e0.2.2.1,e0.2.2.2,e1.2.1,e1.2.2,e2]
    simp [KC,ZD,K6,WW]
   ·have e0:=g (by omega);have e1:=n (by omega);have e2:=t (by omega)
    rw [hk,e0.1,e0.2.1,e0.2.2.1,e0.2.2.2,e1.2.1,e1.2.2,e2]
    simp [KC,ZD,K6,WW]
   ·have e0:=g (by omega);have e1:=s (by omega) (by omega) (by omega)
    rw [hk,e0.1,e0.2.1,e0.2.2.1,e0.2.2.2,e1.1,e1.2]
    simp [KC,ZD,K6,WW,shE_none]
   have e0:=g (by omega);have e1:=s (by omega) (by omega) (by omega);have e2:=n (by omega);have e3:=t (by omega)
   rw [hk,e0.1,e0.2.1,e0.2.2.1,e0.2.2.2,e1.1,e1.2,e2.2.1,e2.2.2,e3]
   simp [KC,ZD,WW,shE_none]
def addT (l:List Th) (g:Th):List Th:=if g∈l then l else l++[g]
def diffG (rs:List Ru):List Th:=rs.foldl (λl r=>r.gz.foldl addT l) []
def rulesE (q:Fm):Nat->Nat->Int
 | _,0=>0
 | i,f+1=>if ruleE q i (q.rz.getD i default)=0 then rulesE q (i+1) f else ruleE q i (q.rz.getD i default)
def cliB (q:Fm):Bool:=decide (0<q.msgs.length)||decide (0<q.vals.length)||decide (0<q.res.length)||decide (q.fzz≠0)
def valE (q:Fm):Int :=
 if nameB q.nm.toList=false then 2
 else if inB 1 4 q.top=false\/inB 0 3 q.fzz=false then 1
 else if q.sz.length=0 then 1
 else if tooB q=true then 4
 else if nmOk (q.sz++(q.msgs++q.vals)) (q.sz++(q.msgs++q.vals)).length=false then 2
 else if (q.top≠1/\cliB q=true)\/(q.top=1/\0<q.lz.length) then 1
 else if (q.res.any λl => !smL l.c l.n l.t l.f)=true then 4
 else orE (if q.init.length=0 then 1 else setE q.sz.length q.init) (orE (setE q.sz.length q.lz) (orE (rulesE q 0 q.rz.length) (if 3<(diffG q.rz).length then 4 else 0)))
set_option maxHeartbeats 12800000
variable {xs:List Int}
theorem setE_bad (h:k<xs.length) (hp:ixB n xs[k]=false):setE n xs=5:=by unfold setE;rw [if_pos (Zfy h hp)]
theorem setE_asc (ha:allK n xs xs.length=true) (h:k<xs.length) (h0:0<k) (hp:¬ xs.getD (k-1) 0<xs.getD k 0):setE n xs=1:=by
 unfold setE;rw [if_neg (by rw [ha];simp),if_pos (ascK_no h h0 hp)]
theorem setE_ok (ha:allK n xs xs.length=true) (hb:ascK xs xs.length=true):setE n xs=0:=by
 unfold setE;rw [if_neg (by rw [ha];simp),if_neg (by rw [hb];simp)]
theorem ascK_le (h:ascK xs k=true) (hn:n<=k):ascK xs n=true:=by
 unfold ascK at *
 rw [List.all_eq_true] at *
 exact λj hj=>h j (List.mem_range.2 (by have:=List.mem_range.1 hj;omega))
theorem Zdc (b off m cap n:Nat) (w:World) (xs:List Int) (hx:xs.length=m) (hm:m<=9223372036854775807) (hn:n<=9223372036854775807)
 (hc:∀ i,i<m->w.cell? ⟨b,off+i,none⟩=some (.int .i64 (xs.getD i 0))) :
 Calls Tryz.prog 51 #[.slice (some ⟨b,off,none⟩) m cap,.int .i64 n] w λe w'=>e = .returned (.int .i64 (setE n xs))/\∃ q,w'=w.drewN q:=by
 have HC:=Lib.hid hc
 have HX:=Lib.hid hx
 clear hc hx
 go_enter func51,ntmps51
 go_wp2_with fail
 go_loop [10] (λu=>∃ k:Nat,k<=m/\u = .int .i64 k/\allK n xs k=true) (λu=>m-(intOf u).toNat)
 case atStart=>exact ⟨0,Nat.zero_le _,rfl,rfl⟩
 case round =>
  obtain ⟨k,hk,rfl,hs⟩:=hrel
  have HS:=Lib.hid hs
  clear hs
  by_cases hlt:k<m
  ·have g1:=HC.out k hlt
   have hkx:k<xs.length:=by rw [HX.out];exact hlt
   have ex:xs.getD k 0=xs[k]:=by simp [List.getD,List.getElem?_eq_getElem hkx]
   have HE:=Lib.hid ex
   generalize hX:xs.getD k 0=x at g1 HE
   clear ex hX
   cases hp:ixB n x with
   | true =>
     have HP:=Lib.hid hp
     clear hp
     go_wp2_with (go_at_call 98;refine (Zz x n hn _).mono ?_;rintro e w1 ⟨rfl,rfl⟩;rw [HP.out])
     go_round
     case rel=>exact ⟨k+1,by omega,by go_num,ZaL hkx HS.out (by rw [<- HE.out];exact HP.out)⟩
     case measure=>simp [intOf];omega
   | false =>
     have HP:=Lib.hid hp
     clear hp
     go_wp2_with (go_at_call 98;refine (Zz x n hn _).mono ?_;rintro e w1 ⟨rfl,rfl⟩;rw [HP.out])
     go_ret
     exact ⟨ZA (by rw [setE_bad hkx (by rw [<- HE.out];exact HP.out)]),0,rfl⟩
  have HA:Hid (allK n xs xs.length=true):=by show _=_;rw [HX.out];have:k=m:=by omega
                                             rw [<- this];exact HS.out
  go_wp2_with fail
  go_loopw [7] (λu wr=>∃ (k q:Nat),1<=k/\u = .int .i64 k/\(k<=m\/k=1)/\ascK xs k=true/\wr=w.drewN q) (λu _=>m-(intOf u).toNat)
  case atStart=>exact ⟨1,0,Nat.le_refl _,rfl,.inr rfl,ascK_one xs,rfl⟩
  case round =>
   obtain ⟨k,q,hk1,rfl,hk2,hs,rfl⟩:=hrel
   have HS:=Lib.hid hs
   have HK:=Lib.hid hk2
   clear hs hk2
   by_cases hlt:k<m
   ·have g1:=HC.out k hlt
    have g2:=HC.out (k-1) (by omega)
    have e1:off+(k-1)=off+k-1:=by omega
    have ei:((k:Int)-1).toNat=k-1:=by omega
    have p1:(0:Int)<=(k:Int)-1:=by omega
    have p2:(k:Int)-1<(m:Int):=by omega
    have p3:(k:Int)<(m:Int):=by omega
    have wn:IntKind.i64.wrap ((k:Int)-1)=(k:Int)-1:=IntWalk.i64_in _ (by omega)
    generalize hX:xs.getD k 0=x at g1
    generalize hY:xs.getD (k-1) 0=y at g2
    have HX':=Lib.hid hX
    have HY':=Lib.hid hY
    clear hX hY e1
    by_cases hp:y<x
    ·have b1:decide (x<=y)=false:=by simpa using hp
     have HP:=Lib.hid hp
     clear hp
     go_wp2_with fail
     go_quiet (fail)
     go_wp2_with fail
     go_roundw
     case rel=>exact ⟨k+1,q+nq,by omega,by go_num,.inl (by omega),ZeT HS.out (by rw [HX'.out,HY'.out];exact HP.out),by first | rfl | rw [World.drewN_drewN]⟩
     case measure=>simp [intOf];omega
    have b1:decide (x<=y)=true:=by simp;omega
    have HP:=Lib.hid hp
    clear hp
    go_wp2_with fail
    go_quiet (fail)
    go_wp2_with fail
    go_ret
    exact ⟨ZA (by rw [setE_asc HA.out (k:=k) (by rw [HX.out];exact hlt) hk1 (by rw [HX'.out,HY'.out];have:=HP.out;omega)]),q+nq,by first | rfl | rw [World.drewN_drewN]⟩
   have HE:=Lib.hid (setE_ok HA.out (ascK_le HS.out (by rw [HX.out];have:=HK.out;omega)))
   go_wp2_with fail
   go_ret
   exact ⟨ZA (by rw [HE.out]),q,rfl⟩
theorem Zcg (a:Option Addr) (cap n:Nat) (w:World) :
 Calls Tryz.prog 51 #[.slice a 0 cap,.int .i64 n] w λe w'=>e = .returned (.int .i64 (setE n []))/\∃ q,w'=w.drewN q:=by
 rw [KC]
 go_enter func51,ntmps51
 go_wp2_with fail
 refine wp_loop_rounds 1 ?_
 rw [rounds_succ]
 go_wp2_with fail
 refine wp_loop_rounds 1 ?_
 rw [rounds_succ]
 go_wp2_with fail
 go_ret
 exact ⟨rfl,0,rfl⟩
variable {lo:Nat}{w:World}{v:Value}
theorem setError_q (n:Nat) (hn:n<=9223372036854775807) (h:IsInts lo w v xs) :
 Calls Tryz.prog 51 #[v,.int .i64 n] w λe w'=>e = .returned (.int .i64 (setE n xs))/\∃ q,w'=w.drewN q:=by
 obtain ⟨a,cap,rfl,hl,hm,hi,hc⟩:=h
 unfold maxLen at hm
 rcases hc with rfl | ⟨b,off,rfl,_,_,hc⟩
 ·exact Zcg _ _ _ _
 exact Zdc _ _ _ _ _ _ _ rfl (by omega) hn hc
theorem Ks (n:Nat) (hn:n<=9223372036854775807) (h:IsInts lo w v xs) :
 Calls Tryz.prog 51 #[v,.int .i64 n] w λe w'=>e = .returned (.int .i64 (setE n xs))/\Below w.heap.size w w' :=
 (setError_q n hn h).mono λ_ _ ⟨h1,q,h2⟩=>⟨h1,by rw [h2];exact quietBelow (Below.refl _ _) q⟩
def someE (n:Nat) (xs:List Int):Int:=if xs.length=0 then 1 else setE n xs
theorem Kv (n:Nat) (hn:n<=9223372036854775807) (h:IsInts lo w v xs) :
 Calls Tryz.prog 52 #[v,.int .i64 n] w λe w'=>e = .returned (.int .i64 (someE n xs))/\Below w.heap.size w w':=by
 have H:=Lib.hid h
 have hbd:xs.length<=9223372036854775807:=by obtain ⟨_,_,_,hh,hm,_⟩:=h;unfold maxLen at hm;omega
 obtain ⟨a,cap,rfl⟩:=h.shape
 clear h
 by_cases h0:xs.length=0
 ·have E:=Lib.hid (show someE n xs=1 from if_pos h0)
  have b0:((xs.length:Int)==0)=true:=by rw [h0];rfl
  clear h0
  go_enter func52,ntmps52
  go_wp2_with fail
  go_ret
  exact ⟨ZA (by rw [E.out]),Below.refl _ _⟩
 have E:=Lib.hid (show someE n xs=setE n xs from if_neg h0)
 have b0:((xs.length:Int)==0)=false:=by rw [beq_eq_false_iff_ne];omega
 clear h0
 go_enter func52,ntmps52
 go_wp2_with (go_at_call 51;refine (Ks n hn H.out).mono ?_;rintro e w1 ⟨rfl,hb1⟩)
 go_ret
 exact ⟨ZA (by rw [E.out]),hb1⟩
theorem rSet_full (b off m cap n:Nat) (w:World) (xs:List Int) (hx:xs.length=m) (hm:m<=9223372036854775807) (hn:n<=9223372036854775807)
 (hc:∀ i,i<m->w.cell? ⟨b,off+i,none⟩=some (.int .i64 (xs.getD i 0))) :
 Calls Tryz.prog 73 #[.slice (some ⟨b,off,none⟩) m cap,.int .i64 n] w λe w'=>e = .returned (.int .i64 (setE n xs))/\∃ q,w'=w.drewN q:=by
 have HC:=Lib.hid hc
 have HX:=Lib.hid hx
 clear hc hx
 go_enter func73,ntmps73
 go_wp2_with fail
 go_loop [5] (λu=>∃ k:Nat,k<=m/\u = .int .i64 k/\allK n xs k=true) (λu=>m-(intOf u).toNat)
 case atStart=>exact ⟨0,Nat.zero_le _,rfl,rfl⟩
 case round =>
  obtain ⟨k,hk,rfl,hs⟩:=hrel
  have HS:=Lib.hid hs
  clear hs
  by_cases hlt:k<m
  ·have g1:=HC.out k hlt
   have hkx:k<xs.length:=by rw [HX.out];exact hlt
   have ex:xs.getD k 0=xs[k]:=by simp [List.getD,List.getElem?_eq_getElem hkx]
   have HE:=Lib.hid ex
   generalize hX:xs.getD k 0=x at g1 HE
   clear ex hX
   cases hp:ixB n x with
   | true =>
     have HP:=Lib.hid hp
     clear hp
     go_wp2_with (go_at_call 74;refine (YC x 0 ((n:Int)-1) _).mono ?_;rintro e w1 ⟨rfl,rfl⟩;rw [show inB 0 ((n:Int)-1) x=_ from HP.out])
     go_round
     case rel=>exact ⟨k+1,by omega,by go_num,ZaL hkx HS.out (by rw [<- HE.out];exact HP.out)⟩
     case measure=>simp [intOf];omega
   | false =>
     have HP:=Lib.hid hp
     clear hp
     go_wp2_with (go_at_call 74;refine (YC x 0 ((n:Int)-1) _).mono ?_;rintro e w1 ⟨rfl,rfl⟩;rw [show inB 0 ((n:Int)-1) x=_ from HP.out])
     go_ret
     exact ⟨ZA (by rw [setE_bad hkx (by rw [<- HE.out];exact HP.out)]),0,rfl⟩
  have HA:Hid (allK n xs xs.length=true):=by show _=_;rw [HX.out];have:k=m:=by omega
                                             rw [<- this];exact HS.out
  go_wp2_with fail
  go_loopw [6] (λu wr=>∃ (k q:Nat),1<=k/\u = .int .i64 k/\(k<=m\/k=1)/\ascK xs k=true/\wr=w.drewN q) (λu _=>m-(intOf u).toNat)
  case atStart=>exact ⟨1,0,Nat.le_refl _,rfl,.inr rfl,ascK_one xs,rfl⟩
  case round =>
   obtain ⟨k,q,hk1,rfl,hk2,hs,rfl⟩:=hrel
   have HS:=Lib.hid hs
   have HK:=Lib.hid hk2
   clear hs hk2
   by_cases hlt:k<m
   ·have g1:=HC.out k hlt
    have g2:=HC.out (k-1) (by omega)
    have e1:off+(k-1)=off+k-1:=by omega
    have ei:((k:Int)-1).toNat=k-1:=by omega
    have p1:(0:Int)<=(k:Int)-1:=by omega
    have p2:(k:Int)-1<(m:Int):=by omega
    have p3:(k:Int)<(m:Int):=by omega
    have wn:IntKind.i64.wrap ((k:Int)-1)=(k:Int)-1:=IntWalk.i64_in _ (by omega)
    generalize hX:xs.getD k 0=x at g1
    generalize hY:xs.getD (k-1) 0=y at g2
    have HX':=Lib.hid hX
    have HY':=Lib.hid hY
    clear hX hY e1
    by_cases hp:y<x
    ·have b1:decide (x<=y)=false:=by simpa using hp
     have HP:=Lib.hid hp
     clear hp
     go_wp2_with fail
     go_quiet (fail)
     go_wp2_with fail
     go_roundw
     case rel=>exact ⟨k+1,q+nq,by omega,by go_num,.inl (by omega),ZeT HS.out (by rw [HX'.out,HY'.out];exact HP.out),by first | rfl | rw [World.drewN_drewN]⟩
     case measure=>simp [intOf];omega
    have b1:decide (x<=y)=true:=by simp;omega
    have HP:=Lib.hid hp
    clear hp
    go_wp2_with fail
    go_quiet (fail)
    go_wp2_with fail
    go_ret
    exact ⟨ZA (by rw [setE_asc HA.out (k:=k) (by rw [HX.out];exact hlt) hk1 (by rw [HX'.out,HY'.out];have:=HP.out;omega)]),q+nq,by first | rfl | rw [World.drewN_drewN]⟩
   have HE:=Lib.hid (setE_ok HA.out (ascK_le HS.out (by rw [HX.out];have:=HK.out;omega)))
   go_wp2_with fail
   go_ret
   exact ⟨ZA (by rw [HE.out]),q,rfl⟩
theorem rSet_empty (a:Option Addr) (cap n:Nat) (w:World) :
 Calls Tryz.prog 73 #[.slice a 0 cap,.int .i64 n] w λe w'=>e = .returned (.int .i64 (setE n []))/\∃ q,w'=w.drewN q:=by
 rw [KC]
 go_enter func73,ntmps73
 go_wp2_with fail
 refine wp_loop_rounds 1 ?_
 rw [rounds_succ]
 go_wp2_with fail
 refine wp_loop_rounds 1 ?_
 rw [rounds_succ]
 go_wp2_with fail
 go_ret
 exact ⟨rfl,0,rfl⟩
theorem rSet_q (n:Nat) (hn:n<=9223372036854775807) (h:IsInts lo w v xs) :
 Calls Tryz.prog 73 #[v,.int .i64 n] w λe w'=>e = .returned (.int .i64 (setE n xs))/\∃ q,w'=w.drewN q:=by
 obtain ⟨a,cap,rfl,hl,hm,hi,hc⟩:=h
 unfold maxLen at hm
 rcases hc with rfl | ⟨b,off,rfl,_,_,hc⟩
 ·exact rSet_empty _ _ _ _
 exact rSet_full _ _ _ _ _ _ _ rfl (by omega) hn hc
theorem rSet_any (n:Nat) (hn:n<=9223372036854775807) (h:IsInts lo w v xs) :
 Calls Tryz.prog 73 #[v,.int .i64 n] w λe w'=>e = .returned (.int .i64 (setE n xs))/\Below w.heap.size w w' :=
 (rSet_q n hn h).mono λ_ _ ⟨h1,q,h2⟩=>⟨h1,by rw [h2];exact quietBelow (Below.refl _ _) q⟩
section
variable {P:Program} {J:World->Prop} {o:Oper}
variable {ρ:Names}{B:Nat}{x:Value}
theorem ZaM {xs:List Value} (h:Rel ρ B w (.agg (xs.map AV.v)) x):x = .agg xs.toArray:=by
 obtain ⟨vs,rfl,hl,hc⟩:=h.agg_inv
 have e:vs.toList=xs:=by
  refine List.ext_getElem (by simpa using hl) λi h1 h2 => ?_
  have h3:=hc i (by simpa using h2)
  simp only [List.getElem_map] at h3
  have h4:=h3.v_inv
  have h5:i<vs.size:=by simpa using h1
  simpa [Array.getD,h5] using h4
 rw [<- e]
variable {T:TypeId}{cs:List AV}
theorem YQ {parts:Array (Nat × Operand)} (args:List (Operand × Value)) (cells:Array Value) (ho:o.op = .build T parts) (hp:parts.toList.map (·.2)=args.map (·.1))
 (hb:P.built T ((parts.toList.zip args).map λp=>(p.1.1,p.2.2))=some cells) (hc:cells.toList.map AV.v=cs):ASpec P J o (args.map λp=>(p.1,.v p.2)) [] (.agg cs) .no :=
 ZF fun ρ B a w _ ha _=>by
  subst hc
  have hl:parts.toList.length=args.length:=by simpa using congrArg List.length hp
  have e:(parts.map λ(i,x)=>(i,a.eval x)).toList=(parts.toList.zip args).map λp=>(p.1.1,p.2.2):=by
   rw [Array.toList_map]
   refine List.ext_getElem (by simp at hl ⊢;omega) λi h1 h2 => ?_
   have h3:i<parts.toList.length:=by simpa using h1
   have h4:i<args.length:=by omega
   have h5:parts.toList[i].2=args[i].1:=by
    have h7:(parts.toList.map (·.2))[i]'(by simpa using h3)=(args.map (·.1))[i]'(by simpa using h4):=by simp only [hp]
    simpa only [List.getElem_map] using h7
   have h6:=(ha (args[i].1,.v args[i].2) (List.mem_map_of_mem (f:=λp:Operand × Value=>(p.1,AV.v p.2)) (List.getElem_mem h4))).v_inv
   simp only [List.getElem_map,List.getElem_zip]
   rw [<- h6,<- h5]
  refine ⟨.agg cells,?_,.pu (.agg (by simp) λj hj => ?_)⟩
  ·simp only [execOp,ho]
   refine Z7 (run_build w T _ cells ?_)
   rw [e];exact hb
  simp only [List.getElem_map,Array.getElem_toList]
  have:j<cells.size:=by simpa using hj
  simp only [Array.getD,this,dif_pos]
  exact .v _
end
variable {T:TypeId}{cs ds:List AV}
theorem Yw {h:AHeap} {t:ATm} (k0 i k:Nat) (fr:Bool) (e z:Nat) (hk:h k=none) (hb:h k0=some (.box T cs)) (hi:cs[i]? = some (.v (.slice none 0 0))) (hd:cs.set i (.own k)=ds) (hs:k<hand:=by decide) :
 Wk h t (λj=>if j=k then some (.row fr e z 0 []) else if j=k0 then some (.box T ds) else h j) t:=by
 subst hd
 intro J w0 ρ a w s
 have hρ:=s.dom k hs hk
 have hkk:k0≠k:=by rintro rfl;rw [hb] at hk;cases hk
 refine ⟨upd ρ k .nil,?_⟩
 have hok:∀ b,okOf ρ b->okOf (upd ρ k .nil) b:=λb hb j c n hj=>by
  by_cases e:j=k
  ·subst e;rw [Yc] at hj;cases hj
  rw [Ya e] at hj;exact hb _ _ _ hj
 have hn:∀ j nm,ρ j=some nm->upd ρ k .nil j=some nm:=λj nm hj=>by rw [Ya (by rintro rfl;rw [hρ] at hj;cases hj)];exact hj
 have hp:∀ X x,Pu (w0.heap.size <= ·) w (okOf ρ) X x->Pu (w0.heap.size <= ·) w (okOf (upd ρ k .nil)) X x:=λX x hx=>hx.weak hok
 have hat:∀ j b c n,upd ρ k .nil j=some (.at b c n)->ρ j=some (.at b c n):=λj b c n hj=>by
  by_cases e:j=k
  ·subst e;rw [Yc] at hj;cases hj
  rw [Ya e] at hj;exact hj
 refine ⟨⟨λj k b c d m n hj hk=>s.wf.inj _ _ _ _ _ _ _ (hat _ _ _ _ hj) (hat _ _ _ _ hk),λk b c n hk=>s.wf.lo _ _ _ _ (hat _ _ _ _ hk)⟩,s.hH,s.bel,s.inv,λj X hj => ?_,λj hl hj => ?_,λj hj=>(Ya (λe=>by omega)).trans (s.pin j hj),s.tl,λj hj=>(s.tm j hj).keep hp hn,s.df,λj hj=>by show (if j=k then _ else if j=k0 then _ else _)=none;rw [if_neg (by have:=WV;omega),if_neg (λe=>by rw [e] at hj;rw [s.gh k0 hj] at hb;cases hb)];exact s.gh j hj⟩
 ·by_cases e:j=k
  ·subst e
   rw [if_pos rfl] at hj
   cases hj
   exact ⟨.nil,Yc _ _ _,blk_nil _ _ _ _ _ _⟩
  rw [if_neg e] at hj
  by_cases e0:j=k0
  ·subst e0
   rw [if_pos rfl] at hj
   cases hj
   obtain ⟨nm,g1,g2⟩:=s.hp j _ hb
   obtain ⟨b,c,n,vs,q0,q1,q2,q3⟩:=g2
   refine ⟨nm,hn _ _ g1,b,c,n,vs,q0,q1,by simpa using q2,λl hl => ?_⟩
   have hl':l<cs.length:=by simpa using hl
   rw [List.getElem_set]
   split
   ·rename_i e1
    subst e1
    have h1:=q3 i hl'
    have h2:cs[i] = .v (.slice none 0 0):=by
     rw [List.getElem?_eq_getElem hl'] at hi
     exact Option.some.inj hi
    rw [h2] at h1
    rw [h1.v_inv]
    exact .own (nm := .nil) (Yc _ _ _)
   exact (q3 l hl').keep hp hn
  rw [if_neg e0] at hj
  obtain ⟨nm,g1,g2⟩:=s.hp j X hj
  exact ⟨nm,hn _ _ g1,g2.keep (λfr X x hx=>hx.weak λb hb=>⟨hok _ hb.1,hb.2⟩) hp hn λ_ _ _ _=>rfl⟩
 by_cases e:j=k
 ·rw [if_pos e] at hj;cases hj
 rw [if_neg e] at hj
 rw [Ya e]
 by_cases e0:j=k0
 ·rw [if_pos e0] at hj;cases hj
 rw [if_neg e0] at hj;exact s.dom j hl hj
section
variable {P:Program} {J:World->Prop} {o:Oper}
def AV.isSl:AV->Bool
 | .sl _ _ _=>true
 | .fr (.sl _ _ _)=>true
 | _=>false
variable {z:Nat}
theorem pu_slice {F ok:Nat->Prop} (h:Pu F w ok (.sl z n cs) v):∃ a m c,v = .slice a m c:=by
 cases h with
 | sl0 _ _=>exact ⟨_,_,_,rfl⟩
 | sl _ _ _ _ _ _ _=>exact ⟨_,_,_,rfl⟩
variable {ρ:Names}{B:Nat}{X:AV}
theorem Zeb (h:Rel ρ B w X v) (hX:X.isSl=true):∃ a m c,v = .slice a m c:=by
 cases h with
 | pu h =>
   cases h with
   | any _=>cases hX
   | v _=>cases hX
   | agg _ _=>cases hX
   | tup _ _=>cases hX
   | fr h =>
     rename_i X
     cases X with
     | sl z n cs=>exact pu_slice h
     | _=>cases hX
   | sl0 h1 h2=>exact ⟨_,_,_,rfl⟩
   | sl _ _ _ _ _ _ _=>exact ⟨_,_,_,rfl⟩
   | el _ _ _ _=>cases hX
   | clo _ _=>cases hX
   | old _=>cases hX
 | _=>cases hX
end
variable {J:World->Prop}
section
variable {P:Program} {o:Oper}
variable {f:FuncId}{Xs:List AV}
theorem Zag {xs:Array Operand} (ho:o.op = .makeFunc (.func f) #[] xs) (hl:xs.size=Xs.length):ASpec P J o (xs.toList.zip Xs) [] (.clo f Xs) .no :=
 ZF fun ρ B a w _ ha _=>by
  refine ⟨.func (.func f) #[] (xs.map a.eval),?_,.clo (by simpa using hl) λj hj => ?_⟩
  ·simp only [execOp,ho]
   exact Z7 (w':=w) (by simp [Instr.makeFunc])
  have hj2:j<xs.size:=by omega
  have hm:(xs[j],Xs[j])∈xs.toList.zip Xs:=by
   rw [List.mem_iff_getElem]
   exact ⟨j,by simp;omega,by simp⟩
  have:=ha _ hm
  simpa [Array.getD,hj2] using this
variable {c:Operand}{u U:AV}
theorem WS {xs:Array Operand} {ats:Array TypeId} {Xs Ys Cs:List AV} (rd:List (Nat × ABlk)) (hC:Ctr P J f (Ys++Cs) u) (ho:o.op = .call { callee := .value c,args:=xs,argTypes:=ats })
 (hf : (P.funcs[f]?).map (λfn => (fn.name == "runtime.NumGoroutine") || fn.body.isNone) = some false) (hl : xs.size = Xs.length) (hv : Xs.map (AV.view rd) = Ys) (hfl : Xs.all AV.flat2 = true) (hcl : (AV.clo f Cs).flat2 = true) (hcv : Cs.map (AV.viewC rd) = Cs) (hU : u.res = U) :
 ASpec P J o ((c,.clo f Cs)::xs.toList.zip Xs) rd U .no:=by
 subst hv hU
 intro ρ B a w K Q hwf hB hJ ha hr _ hk
 have hcc:=(ha (c,.clo f Cs) (by simp)).view hwf hr hcl
 simp only [AV.view,hcv] at hcc
 generalize hx:a.eval c=x at hcc
 cases hcc with
 | clo hcl' hcp =>
 rename_i caps
 refine KK ho hx hf ?_
 have hsz:(xs.map a.eval).size=Xs.length:=by simpa using hl
 refine (hC w (xs.map a.eval++caps) (λw' h=>hJ w' (Y8 h)) (by simp [hl,hcl']) λj hj => ?_).mono λe w' ⟨v,he,hp,hb⟩=>⟨v,he,hk ρ w' v ⟨rfl,hb.os,hb.tape,hb.output,hb.size,λb hb' _=>hb.block b hb',λ_ _ _=>rfl,(λ_ _ h=>by cases h),(λ_ _ h=>by cases h),.pu (hp.mono (λb hb' hw=>⟨⟨λk c n hk => ?_,Nat.le_trans hB hb'.1,hb'.2⟩,hw,rfl⟩) λb _ h=>Nat.le_trans hB h).res,λ_ _ h=>nomatch h⟩⟩
 ·have hj0:j<Xs.length+Cs.length:=by simpa using hj
  by_cases hjx:j<Xs.length
  ·have hj2:j<xs.size:=by omega
   rw [List.getElem_append_left (by simpa using hjx),List.getElem_map]
   have hm:(xs[j],Xs[j])∈(c,AV.clo f Cs)::xs.toList.zip Xs:=by
    refine List.mem_cons_of_mem _ ?_
    rw [List.mem_iff_getElem]
    exact ⟨j,by simp;omega,by simp⟩
   have:=(ha _ hm).view hwf hr (List.all_eq_true.1 hfl _ (List.getElem_mem hjx))
   have e:(xs.map a.eval++caps).getD j undef=a.eval xs[j]:=by
    simp [Array.getD,hj2];omega
   rw [e];exact this
  rw [List.getElem_append_right (by simp;omega)]
  have hjc:j-Xs.length<Cs.length:=by omega
  have:=hcp (j-Xs.length) hjc
  have e:(xs.map a.eval++caps).getD j undef=caps.getD (j-Xs.length) undef:=by
   have h1:¬ j<xs.size:=by omega
   have h2:j-xs.size<caps.size:=by omega
   have h3:j<xs.size+caps.size:=by omega
   have h4:j-Xs.length=j-xs.size:=by omega
   simp [Array.getD,Array.getElem_append,h1,h2,h3,h4]
  rw [e]
  simpa using this
 have:=(hwf.lo _ _ _ _ hk).2;have:=hb'.1;omega
variable {fr:Bool}{X:AV}
theorem Z8 {T e':TypeId} {z zz n k off:Nat} (x y:Operand) (ho:o.op = .store T x y) (hz:(P.info? T).map (·.size)=some zz) (hX:X.cellsOf.all (λc=>c.cell&&c.pu1)=true) (hn:fr=true->∀ d∈X.cellsOf,d.isNew=true) (hl:X.cellsOf.length=zz) (hr:off+zz<=cs.length) (hd:setAll cs off (Z6 fr X.cellsOf)=ds) :
 ASpec P J o [(x,.box k off),(y,X)] [(k,.row fr e' z n cs)] (.v undef) (.st k (.row fr e' z n ds)):=by
 intro ρ B a w K Q hwf hB _ ha hr' _ hk
 obtain ⟨b,c,m,h1,h2⟩:=(ha (x,.box k off) (by simp)).box_inv
 have hy:=ha (y,X) (by simp)
 have hX1:X.cellsOf.all AV.cell=true:=List.all_eq_true.2 λd hd=>by have:=List.all_eq_true.1 hX d hd;simp only [Bool.and_eq_true] at this;exact this.1
 have hX2:∀ d∈X.cellsOf,d.pu1=true:=λd hd=>by have:=List.all_eq_true.1 hX d hd;simp only [Bool.and_eq_true] at this;exact this.2
 obtain ⟨h3,h4,h5⟩:=hy.cells hX1
 obtain ⟨nm,h1',xs,⟨h6,h7⟩,hxl,hrel⟩:=hr' (k,.row fr e' z n cs) (by simp)
 rw [h1] at h1';cases h1'
 rcases h7 with ⟨hv,_⟩ | ⟨g,cap,cur,hv,hBg,hg,hnc,hm,hs,ht⟩
 ·cases hv
 simp only [Nm.val,Value.slice.injEq,Option.some.injEq,Addr.mk.injEq,and_true] at hv
 obtain ⟨rfl,rfl,rfl⟩:=hv
 have hsz:(a.eval y).cells.size=zz:=h3.trans hl
 have hncur:m*z<=cur.size:=by rw [hs];exact Nat.mul_le_mul_right _ hnc
 have hth:w.there b off zz:=λj hj=>⟨by simp only [World.cell?,hg];simp;omega,frozenB hg _⟩
 obtain ⟨cur',hg',hs',hget⟩:=Y1 (a.eval y).cells.toList off w cur hg (by simp;omega)
 have hrun:=Zcx (P:=P) hz (a.eval y) hsz h4 hth
 unfold Oper.wp
 simp only [execOp,ho,h2,Sem.run_bind,hrun,Result.andThen_ok,Sem.run_pure]
 obtain ⟨q1,q2,q3⟩:=Wp b (a.eval y).cells.toList off w
 have hlo:=hwf.lo _ _ _ _ h1
 have hkeepP:∀ {fr:Bool} {X:AV} {x:Value},Pu (B <= ·) w (okR ρ fr B w) X x->Pu (B <= ·) (w.setCells b off (a.eval y).cells.toList) (okR ρ fr B (w.setCells b off (a.eval y).cells.toList)) X x:=λh=>h.mono (λ_ hb hw=>have:=Ws (off:=off) (vs:=(a.eval y).cells.toList) h1 hb.1 hw;⟨⟨this.1,λe=>⟨(hb.2 e).1,ZbE this.2.2 (hb.2 e).2⟩⟩,this.2⟩) λ_ _ h=>h
 refine hk ρ _ undef ⟨rfl,q1,q2,q3,by rw [Yi];exact Nat.le_refl _,λb' _ hne=>YL (λe=>by subst e;exact hne k c m rfl h1) _ _ _,λ_ _ _=>rfl,λ_ _ _=>rfl,λk' X' he => ?_,.pu (.v _),λ_ _ h=>nomatch h⟩
 cases he
 refine ⟨_,h1,λb' c' n' e=>by cases e;exact ⟨by rw [Yi];exact hlo.2,hlo.1,.inr ⟨_,_,h1⟩⟩,cur'.toList.take (m*z),⟨?_,.inr ⟨b,c,cur',rfl,hBg,hg',hnc,hm,by rw [hs',hs],rfl⟩⟩,?_,λj hj => ?_⟩
 ·simp;omega
 ·subst hd;rw [KD];simp;omega
 subst hd
 have hjc:j<cs.length:=by rw [KD] at hj;exact hj
 have hjm:j<m*z:=by omega
 have hcur:=hget j
 have hval:(cur'.toList.take (m*z)).getD j undef=(cur'[j]?).getD undef:=by
  rw [List.getD_eq_getElem?_getD,List.getElem?_take,if_pos hjm,Array.getElem?_toList]
 rw [hval]
 have hlen:(Z6 fr X.cellsOf).length=X.cellsOf.length:=Yy _ _
 rcases Zcw (Z6 fr X.cellsOf) cs off (by omega) j hj with ⟨e1,e2,e3⟩ | ⟨e1,e2,e3⟩
 ·rw [e3,hcur,if_pos ⟨e1,by simp;omega⟩]
  have hj':j-off<X.cellsOf.length:=by omega
  have hp:=(h5 (j-off) hj').pu1 (hX2 _ (List.getElem_mem _))
  have:=hkeepP (Pu.row hn e2 hj' hp)
  rw [Array.getD_eq_getD_getElem?] at this
  simpa using this
 rw [e3,hcur,if_neg (by simp;omega)]
 have:=hkeepP (hrel j e2)
 have hx:xs.getD j undef=(cur[j]?).getD undef:=by
  rw [List.getD_eq_getElem?_getD,<- ht,List.getElem?_take,if_pos hjm,Array.getElem?_toList]
 rw [hx] at this
 exact this
theorem sp_make {t e k bytes:Nat} {zv:Value} (fr:Bool) {kl kc:IntKind} {x y:Operand} (ho:o.op = .makeSlice t x y) (hu:P.underlying t=some (.slice e)) (hi:(P.info? e).map (λi=>(i.size,i.bytes,i.zero))=some (1,bytes,some zv)) (h1:zv.cells = #[zv])
 (hb:bytes*n<=281474976710656) (h63:n<=16777216) {cs:List AV} (hcs:List.replicate n (AV.v zv)=cs) :
 ASpec P J o [(x,.v (.int kl (n:Int))),(y,.v (.int kc (n:Int)))] [] (.own k) (.new k (.row fr e 1 n cs)) :=
 We fun ρ B a w _ hB ha _ hk=>by
  subst hcs
  obtain ⟨i,hi1,hi2⟩:=Option.map_eq_some_iff.1 hi
  simp only [Prod.mk.injEq] at hi2
  obtain ⟨e1,e2,e3⟩:=hi2
  have hx:=(ha (x,.v (.int kl (n:Int))) (by simp)).v_inv
  have hy:=(ha (y,.v (.int kc (n:Int))) (by simp)).v_inv
  have hsz:(madeCells #[zv] n).size=n:=by simp [madeCells]
  have hget:∀ j,j<n->(madeCells #[zv] n)[j]? = some zv:=λj hj=>by simp [madeCells,hj,Nat.mod_one]
  refine ⟨_,n,n,madeCells #[zv] n,e,?_,.own (nm := .at w.heap.size n n) (Yc _ _ _),(madeCells #[zv] n).toList,⟨by simp [hsz],.inr ⟨w.heap.size,n,madeCells #[zv] n,rfl,Zdd hB,heap_alloc_new w _,Nat.le_refl _,by simp only [maxLen];omega,by rw [hsz];omega,by rw [List.take_of_length_le];simp [hsz]⟩⟩,by simp [hsz],λj hj => ?_⟩
  ·simp only [execOp,ho,hx,hy]
   exact Z7 (run_make_row t e i zv hu hi1 e3 e1 h1 kl kc n (by rw [e2];exact hb) (by omega) w)
  have hj':j<n:=by simpa using hj
  have:(madeCells #[zv] n).toList.getD j undef=zv:=by
   rw [List.getD_eq_getElem?_getD,Array.getElem?_toList,hget j hj'];rfl
  rw [this]
  simp only [List.getElem_replicate]
  exact .v _
def AV.asVal (α:Nat->Option Addr × Nat × Nat) (k:Nat):AV->Value
 | .v x=>x
 | _ => .slice (α k).1 (α k).2.1 (α k).2.2
def AV.solid:AV->Bool
 | .v _=>true
 | .own _=>true
 | X=>X.isSl
def pickV (α:Nat->Option Addr × Nat × Nat) (Xs:List AV):Value ⊕ Nat->Value
 | .inl z=>z
 | .inr k=>(Xs.getD k .any).asVal α k
def pickA (Xs:List AV):Value ⊕ Nat->AV
 | .inl z => .v z
 | .inr k=>Xs.getD k .any
variable {ρ:Names}{B:Nat}
theorem ZbR (h:Rel ρ B w X v) (hX:X.solid=true):∃ a:Option Addr × Nat × Nat,v=X.asVal (λ_=>a) 0:=by
 cases X with
 | v x=>exact ⟨(none,0,0),h.v_inv⟩
 | sl z n cs=>obtain ⟨a,m,c,e⟩:=Zeb h hX;exact ⟨(a,m,c),e⟩
 | fr X=>obtain ⟨a,m,c,e⟩:=Zeb h hX;exact ⟨(a,m,c),e⟩
 | own k =>
   obtain ⟨nm,_,e⟩:=h.own_inv
   cases nm with
   | nil=>exact ⟨(none,0,0),e⟩
   | «at» b c n=>exact ⟨(some ⟨b,0,none⟩,n,c),e⟩
 | _=>cases hX
theorem Zdw {α:Nat->Option Addr × Nat × Nat}  :X.asVal (λ_=>α k) 0=X.asVal α k:=by cases X<;>rfl
theorem Ze4 {parts:Array (Nat × Operand)} (idx:List Nat) (ops:List Operand) (Xs:List AV) (R:List (Value ⊕ Nat)) (ho:o.op = .build T parts) (hp:parts.toList=idx.zip ops) (h1:idx.length=Xs.length) (h2:ops.length=Xs.length) (hX:Xs.all AV.solid=true)
 (H:∀ α,P.built T (idx.zip ((List.range Xs.length).map λk=>(Xs.getD k .any).asVal α k))=some (R.map (pickV α Xs)).toArray) (hR:R.all (λr=>match r with | .inl _=>true | .inr k=>decide (k<Xs.length))=true) {ds:List AV} (hd:R.map (pickA Xs)=ds) :
 ASpec P J o (ops.zip Xs) [] (.agg ds) .no :=
 ZF fun ρ B a w _ ha _=>by
  subst hd
  have hop:∀ k,k<Xs.length->Rel ρ B w (Xs.getD k .any) (a.eval (ops.getD k (.const undef))):=λk hk=>by
   have hk2:k<ops.length:=by omega
   have hm:(ops[k],Xs[k])∈ops.zip Xs:=by
    rw [List.mem_iff_getElem]
    exact ⟨k,by simp;omega,by simp⟩
   have:=ha _ hm
   simpa [List.getD_eq_getElem?_getD,hk,hk2] using this
  have hso:∀ k,k<Xs.length->(Xs.getD k .any).solid=true:=λk hk=>by
   have:=List.all_eq_true.1 hX _ (List.getElem_mem hk)
   simpa [List.getD_eq_getElem?_getD,hk] using this
  obtain ⟨α,hα⟩:=choose_lt (n:=Xs.length) (p:=λk (r:Option Addr × Nat × Nat)=>a.eval (ops.getD k (.const undef))=(Xs.getD k .any).asVal (λ_=>r) 0) λk hk=>ZbR (hop k hk) (hso k hk)
  refine ⟨.agg (R.map (pickV α Xs)).toArray,?_,.agg (by simp) λj hj => ?_⟩
  ·simp only [execOp,ho]
   refine Z7 (run_build w T _ _ ?_)
   rw [<- H α]
   congr 1
   rw [Array.toList_map,hp]
   apply List.ext_getElem
   ·simp;omega
   intro k g1 g2
   have hk:k<Xs.length:=by simp at g2;omega
   have hk2:k<ops.length:=by omega
   have:=hα k hk
   rw [Zdw] at this
   simp only [List.getElem_map,List.getElem_zip,List.getElem_range,Prod.mk.injEq,true_and]
   rw [<- this]
   simp [List.getD_eq_getElem?_getD,hk2]
  have hj':j<R.length:=by simpa using hj
  simp only [List.getElem_map]
  have e:(R.map (pickV α Xs)).toArray.getD j undef=pickV α Xs R[j]:=by simp [Array.getD,hj']
  rw [e]
  have hr:=List.all_eq_true.1 hR _ (List.getElem_mem hj')
  generalize R[j]=r at hr
  cases r with
  | inl z=>exact .pu (.v z)
  | inr k =>
    have hk:k<Xs.length:=by simpa using hr
    have h3:=hα k hk
    rw [Zdw] at h3
    simp only [pickA,pickV]
    rw [<- h3]
    exact hop k hk
end
section
variable {P:Program} {w0:Wb} {h:AHeap} {t:ATm}
end
section
variable {P:Program} {o:Oper}
end
section
variable {P:Program} {w0:Wb} {ops:Array Oper} {o:Oper} {rest:List Oper} {Q:Exit->Act->World->Prop}
end
end Go.Proofs.YtmpgnibfhjdfpaaGreat
