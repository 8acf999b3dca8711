import Derived.Great.BuildSlice
import Derived.Laws.Small
import Derived.Laws.StructEq
import Derived.Test.YtengacodacejiaaProg
import Derived.WalkSpells
import Derived.WalkLawsBesides
import Derived.Deep.QuietTactic
import Derived.BigQuiet
import Derived.Lib.Hide
import Derived.LoopTactic
import Derived.WalkKit
import Derived.Test.YtengacodacejiaaGrpdbhjpfkk
import Derived.Test.YtengacodacejiaaGrpnckbmimh
set_option linter.all false
namespace Go.Proofs.Ytengacodacejiaa
open Go.RowKit Go.Deep
variable {J:World→Prop}
def FitsL (t:ATm):List (Operand × AV)→Prop
  | []=>True
  | p::ps=>Fits (aev t p.1) p.2∧FitsL t ps
theorem FitsL.all {t:ATm}:∀ {l:List (Operand × AV)},FitsL t l→∀ p∈l,Fits (aev t p.1) p.2
  | [],_,p,hp=>by cases hp
  | q::l,h,p,hp=>by
    rcases List.mem_cons.1 hp with rfl | hp
    · exact h.1
    exact FitsL.all h.2 p hp
def RdL (h:AHeap):List (Nat × ABlk)→Prop
  | []=>True
  | p::ps=>h p.1=some p.2∧RdL h ps
theorem RdL.all {h:AHeap}:∀ {l:List (Nat × ABlk)},RdL h l→∀ p∈l,h p.1=some p.2
  | [],_,p,hp=>by cases hp
  | q::l,hh,p,hp=>by
    rcases List.mem_cons.1 hp with rfl | hp
    · exact hh.1
    exact RdL.all hh.2 p hp
def EfOk (h:AHeap):Ef→Prop
  | .no=>True
  | .new k _=>((h k).isNone&&Nat.blt k hand)=true
  | .st k _=>(h k).isSome=true
  | .ap k _=>((h k).isSome&&Nat.blt k hand)=true
theorem EfOk.fresh {h:AHeap} {e:Ef} (H:EfOk h e):∀ k X,e = .new k X→h k=none:=by
  rintro k X rfl
  have:((h k).isNone&&Nat.blt k hand)=true:=H
  rw [Bool.and_eq_true,Option.isNone_iff_eq_none] at this
  exact this.1
theorem EfOk.low {h:AHeap} {e:Ef} (H:EfOk h e):e.low=true:=by
  cases e with
  | no=>rfl
  | st k X=>rfl
  | new k X=>exact (Bool.and_eq_true _ _ ▸ (show ((h k).isNone&&Nat.blt k hand)=true from H)).2
  | ap k X=>exact (Bool.and_eq_true _ _ ▸ (show ((h k).isSome&&Nat.blt k hand)=true from H)).2
theorem EfOk.there {h:AHeap} {e:Ef} (H:EfOk h e):∀ k,e.old=some k→(h k).isSome=true:=by
  intro k hk
  cases e with
  | no=>cases hk
  | new _ _=>cases hk
  | st j X=>cases hk;exact H
  | ap j X=>cases hk;exact (Bool.and_eq_true _ _ ▸ (show ((h k).isSome&&Nat.blt k hand)=true from H)).1
section
variable {P:Program} {w0:Wb} {h:AHeap} {t:ATm} {Q:Exit→Act→World→Prop} {ops:Array Oper} {o:Oper} {rest:List Oper}
theorem ZQ {args:List (Operand × AV)} {rd:List (Nat × ABlk)} {u:AV} {e:Ef} (hg:o.guard=none) (hs:ASpec P J o args rd u e) (hf:FitsL t args) (hr:RdL h rd) (he:EfOk h e)
    (H:ETri J w0 (e.heap h) (aput (e.slots t) o.dst u) (wpList P ops Q rest)):ETri J w0 h t (wpList P ops Q (o::rest)) :=
  tri_op hg ⟨args,rd,hs,hf.all,hr.all,he.fresh,he.there,he.low⟩ H
theorem Y0 {args:List (Operand × AV)} {rd:List (Nat × ABlk)} {u:AV} {e:Ef} (hg:awanted ops o t=some true) (hs:ASpec P J o args rd u e) (hf:FitsL t args) (hr:RdL h rd) (he:EfOk h e)
    (H:ETri J w0 (e.heap h) (aput (e.slots t) o.dst u) (wpList P ops Q rest)):ETri J w0 h t (wpList P ops Q (o::rest)):=fun ρ a w s=>by
  unfold wpList
  rw [awanted_sat s hg,if_pos rfl]
  exact .inl (s.step ⟨args,rd,hs,hf.all,hr.all,he.fresh,he.there,he.low⟩ fun ρ' a' w' s'=>H ρ' a' w' s')
theorem t_skip (hg:awanted ops o t=some false) (H:ETri J w0 h (aput t o.dst (.v undef)) (wpList P ops Q rest)):ETri J w0 h t (wpList P ops Q (o::rest)):=fun ρ a w s=>by
  unfold wpList
  rw [awanted_sat s hg,if_neg (by simp)]
  exact H ρ _ w ⟨s.wf,s.hH,s.bel,s.inv,s.hp,s.dom,s.pin,by rw [put_size,aput_n];exact s.tl,rel_put _ s.tl s.tm (.pu (.v _)),by rw [Ku];exact s.df,s.gh⟩
theorem app_yes {c:Cl} (hg:awanted ops o t=some true) (hs:ASpec P J o c.args c.rd c.u c.e) (hf:FitsL t c.args) (hr:RdL h c.rd) (he:EfOk h c.e):App P J ops o c h t := .inl ⟨hg,hs,hf.all,hr.all,he.fresh,he.there,he.low⟩
theorem app_no (hg:awanted ops o t=some false):App P J ops o ⟨[],[],.v undef,.no⟩ h t := .inr ⟨hg,rfl⟩
theorem Zc {K:Act→World→Prop} (H:ETri J w0 h t K):ETri J w0 h t (Exit.then K Q .normal):=H
theorem Zy {K:Act→World→Prop} {id:Nat} (H:ETri J w0 h t (Q (.exit id))):ETri J w0 h t (Exit.then K Q (.exit id)):=H
theorem Zh {K:Act→World→Prop} (H:ETri J w0 h t (Q .ret)):ETri J w0 h t (Exit.then K Q .ret):=H
theorem ZX {id:Nat} (H:ETri J w0 h t (Q .normal)):ETri J w0 h t (Exit.inBlock id Q .normal):=H
theorem Zv {id:Nat} (H:ETri J w0 h t (Q .ret)):ETri J w0 h t (Exit.inBlock id Q .ret):=H
theorem t_hit {id:Nat} (H:ETri J w0 h t (Q .normal)):ETri J w0 h t (Exit.inBlock id Q (.exit id)):=fun ρ a w s=>by
  simp only [Exit.inBlock,if_true];exact H ρ a w s
theorem Zm {c:Operand} {x y:Code} (hc:aev t c = .v (.bool true)) (H:ETri J w0 h t (x.wp P Q)):ETri J w0 h t ((Code.cond c x y).wp P Q):=tri_cond hc H
theorem Zo {c:Operand} {x y:Code} (hc:aev t c = .v (.bool false)) (H:ETri J w0 h t (y.wp P Q)):ETri J w0 h t ((Code.cond c x y).wp P Q):=tri_cond hc H
end
def CutQ (J:World→Prop) (w0:Wb) (p:Prop) (h:AHeap) (t:ATm) (Q:Exit→Act→World→Prop):Exit→Act→World→Prop
  | .normal,a,w=>p∧∃ ρ,Sat J w0 ρ h t a w
  | e,a,w=>Q e a w
section
variable {P:Program} {w0:Wb} {h h':AHeap} {t t':ATm} {Q:Exit→Act→World→Prop} {p:Prop}
theorem Y6 {x:Code} (p:Prop) (h':AHeap) (t':ATm) (H1:ETri J w0 h t (x.wp P (CutQ J w0 p h' t' Q))) (H2:p→ETri J w0 h' t' (Q .normal)):ETri J w0 h t (x.wp P Q):=fun ρ a w s =>
  wp_mono (H1 ρ a w s) fun e a w hq=>by
    cases e with
    | normal=>obtain ⟨hp,ρ',s'⟩:=hq;exact H2 hp ρ' a w s'
    | exit id=>exact hq
    | goto l=>exact hq
    | ret=>exact hq
    | panic ch=>exact hq
    | outgrown=>exact hq
theorem Zr (hp:p) (k:Wk h t h' t'):ETri J w0 h t (CutQ J w0 p h' t' Q .normal):=fun ρ a w s=>⟨hp,k J w0 ρ a w s⟩
theorem Y1 (H:ETri J w0 h t (Q .ret)):ETri J w0 h t (CutQ J w0 p h' t' Q .ret):=H
end
theorem dT {p:Prop} [Decidable p] (h:p):decide p=true:=decide_eq_true h
theorem dF {p:Prop} [Decidable p] (h:¬ p):decide p=false:=decide_eq_false h
theorem dF' {p:Prop} [Decidable p] (h:¬ p):decide p = !true:=decide_eq_false h
theorem dT' {p:Prop} [Decidable p] (h:p):decide p = !false:=decide_eq_true h
theorem T0:True:=trivial
theorem I0 {X:AV}:Fits X X := .inl rfl
section
variable {P:Program} {w0:Wb} {h:AHeap} {t:ATm} {Q:Exit→Act→World→Prop} {ops:Array Oper} {o:Oper} {rest:List Oper}
theorem kW {Φ:Act→World→Prop} (n:Nat) (L:List (Nat × ABlk)) (T:List (Nat × AV)) (H:ETri J w0 (ofL L) (ofT n T) Φ) (hn:t.n=n:=by rfl) (hL:L.map (fun p=>(h p.1).map (ABlk.wk (keepL L) h))=L.map (fun p=>some p.2):=by kernel_rfl) (hT:T.map (fun p=>(t.f p.1).wk3 (keepL L) h)=T.map (·.2):=by kernel_rfl):ETri J w0 h t Φ:=tri_wk (Zj L T hn hL hT) H
theorem kN (n:Nat) (L:List (Nat × ABlk)) (T:List (Nat × AV)) (H:ETri J w0 (ofL L) (ofT n T) (Q .normal)) (hn:t.n=n:=by rfl) (hL:L.map (fun p=>(h p.1).map (ABlk.wk (keepL L) h))=L.map (fun p=>some p.2):=by kernel_rfl) (hT:T.map (fun p=>(t.f p.1).wk3 (keepL L) h)=T.map (·.2):=by kernel_rfl):ETri J w0 h t (wpList P ops Q []):=Ze (kW n L T H hn hL hT)
variable {p p' p'':Operand × AV} {q:Nat × ABlk} {u:AV}
theorem oA (hs:ASpec P J o [p] [] u .no) (hf:Fits (aev t p.1) p.2) (H:ETri J w0 h (aput t o.dst u) (wpList P ops Q rest)) (hg:o.guard=none:=by rfl):ETri J w0 h t (wpList P ops Q (o::rest)):=ZQ hg hs ⟨hf,trivial⟩ trivial trivial H
theorem oB (hs:ASpec P J o [p] [q] u .no) (hf:Fits (aev t p.1) p.2) (hr:h q.1=some q.2) (H:ETri J w0 h (aput t o.dst u) (wpList P ops Q rest)) (hg:o.guard=none:=by rfl):ETri J w0 h t (wpList P ops Q (o::rest)):=ZQ hg hs ⟨hf,trivial⟩ ⟨hr,trivial⟩ trivial H
theorem oC (hs:ASpec P J o [p,p'] [] u .no) (hf:Fits (aev t p.1) p.2) (hf':Fits (aev t p'.1) p'.2) (H:ETri J w0 h (aput t o.dst u) (wpList P ops Q rest)) (hg:o.guard=none:=by rfl):ETri J w0 h t (wpList P ops Q (o::rest)):=ZQ hg hs ⟨hf,hf',trivial⟩ trivial trivial H
theorem oD (hs:ASpec P J o [p,p',p''] [] u .no) (hf:Fits (aev t p.1) p.2) (hf':Fits (aev t p'.1) p'.2) (hf'':Fits (aev t p''.1) p''.2) (H:ETri J w0 h (aput t o.dst u) (wpList P ops Q rest)) (hg:o.guard=none:=by rfl):ETri J w0 h t (wpList P ops Q (o::rest)):=ZQ hg hs ⟨hf,hf',hf'',trivial⟩ trivial trivial H
theorem gA (hs:ASpec P J o [p] [] u .no) (hf:Fits (aev t p.1) p.2) (H:ETri J w0 h (aput t o.dst u) (wpList P ops Q rest)) (hg:awanted ops o t=some true:=by rfl):ETri J w0 h t (wpList P ops Q (o::rest)):=Y0 hg hs ⟨hf,trivial⟩ trivial trivial H
theorem gB (hs:ASpec P J o [p] [q] u .no) (hf:Fits (aev t p.1) p.2) (hr:h q.1=some q.2) (H:ETri J w0 h (aput t o.dst u) (wpList P ops Q rest)) (hg:awanted ops o t=some true:=by rfl):ETri J w0 h t (wpList P ops Q (o::rest)):=Y0 hg hs ⟨hf,trivial⟩ ⟨hr,trivial⟩ trivial H
theorem gC (hs:ASpec P J o [p,p'] [] u .no) (hf:Fits (aev t p.1) p.2) (hf':Fits (aev t p'.1) p'.2) (H:ETri J w0 h (aput t o.dst u) (wpList P ops Q rest)) (hg:awanted ops o t=some true:=by rfl):ETri J w0 h t (wpList P ops Q (o::rest)):=Y0 hg hs ⟨hf,hf',trivial⟩ trivial trivial H
theorem gD (hs:ASpec P J o [p,p',p''] [] u .no) (hf:Fits (aev t p.1) p.2) (hf':Fits (aev t p'.1) p'.2) (hf'':Fits (aev t p''.1) p''.2) (H:ETri J w0 h (aput t o.dst u) (wpList P ops Q rest)) (hg:awanted ops o t=some true:=by rfl):ETri J w0 h t (wpList P ops Q (o::rest)):=Y0 hg hs ⟨hf,hf',hf'',trivial⟩ trivial trivial H
theorem fB {S:TypeId} {fs:Array Field} {f k off:Nat} {fl:Field} (off':Nat) (x:Operand) (ho:o.op = .fieldAddr S x f) (hu:P.underlying S=some (.struct fs)) (hf:fs[f]? = some fl) (z:Nat) (e:off+fl.offset=off') (hz:(P.info? fl.type).map (·.size)=some z:=by kernel_rfl) (h0:0<z:=by decide):ASpec P J o [(x,.box k off)] [] (.box k off') .no:=sp_fieldBox x ho hu hf hz h0 e
theorem lB {T:TypeId} {d:TypeDesc} {k off:Nat} (Y:ABlk) (X:AV) (x:Operand) (ho:o.op = .load T x) (hu:P.underlying T=some d) (hd:d.isRow=false) (hX:Y.cells[off]? = some X):ASpec P J o [(x,.box k off)] [(k,Y)] X .no:=sp_loadBox1 x ho hu hd hX
end
section
variable {P:Program} {w0:Wb} {h:AHeap} {t:ATm} {Q:Exit→Act→World→Prop} {Ψ:AHeap→ATm→Prop} {ops:Array Oper} {o:Oper} {rest:List Oper} {cs:List Cl}
variable {p p' p'':Operand × AV} {q:Nat × ABlk} {u:AV}
theorem pM (hs:ASpec P J o [p] [] u .no) (H:ETri J w0 h (aput t o.dst u) (wpList P ops Q rest)) (hf:Fits (aev t p.1) p.2:=by exact I0) (hg:o.guard=none:=by rfl):ETri J w0 h t (wpList P ops Q (o::rest)):=oA hs hf H hg
theorem pP (hs:ASpec P J o [p,p',p''] [] u .no) (H:ETri J w0 h (aput t o.dst u) (wpList P ops Q rest)) (hf:Fits (aev t p.1) p.2:=by exact I0) (hf':Fits (aev t p'.1) p'.2:=by exact I0) (hf'':Fits (aev t p''.1) p''.2:=by exact I0) (hg:o.guard=none:=by rfl):ETri J w0 h t (wpList P ops Q (o::rest)):=oD hs hf hf' hf'' H hg
theorem qM (hs:ASpec P J o [p] [] u .no) (H:ETri J w0 h (aput t o.dst u) (wpList P ops Q rest)) (hf:Fits (aev t p.1) p.2:=by exact I0) (hg:awanted ops o t=some true:=by rfl):ETri J w0 h t (wpList P ops Q (o::rest)):=gA hs hf H hg
theorem qP (hs:ASpec P J o [p,p',p''] [] u .no) (H:ETri J w0 h (aput t o.dst u) (wpList P ops Q rest)) (hf:Fits (aev t p.1) p.2:=by exact I0) (hf':Fits (aev t p'.1) p'.2:=by exact I0) (hf'':Fits (aev t p''.1) p''.2:=by exact I0) (hg:awanted ops o t=some true:=by rfl):ETri J w0 h t (wpList P ops Q (o::rest)):=gD hs hf hf' hf'' H hg
theorem dR {args:List (Operand × AV)} {rd:List (Nat × ABlk)} {e:Ef} (hs:ASpec P J o args rd u e) (hf:FitsL t args) (hr:RdL h rd) (he:EfOk h e) (H:chainC P J ops Ψ rest cs (e.heap h) (aput (e.slots t) o.dst u)) (hg:awanted ops o t=some true:=by rfl):chainC P J ops Ψ (o::rest) (⟨args,rd,u,e⟩::cs) h t:=⟨app_yes hg hs hf hr he,H⟩
theorem dA (hs:ASpec P J o [p] [] u .no) (hf:Fits (aev t p.1) p.2) (H:chainC P J ops Ψ rest cs h (aput t o.dst u)) (hg:awanted ops o t=some true:=by rfl):chainC P J ops Ψ (o::rest) (⟨[p],[],u,.no⟩::cs) h t:=dR hs ⟨hf,trivial⟩ trivial trivial H hg
theorem dB (hs:ASpec P J o [p] [q] u .no) (hf:Fits (aev t p.1) p.2) (hr:h q.1=some q.2) (H:chainC P J ops Ψ rest cs h (aput t o.dst u)) (hg:awanted ops o t=some true:=by rfl):chainC P J ops Ψ (o::rest) (⟨[p],[q],u,.no⟩::cs) h t:=dR hs ⟨hf,trivial⟩ ⟨hr,trivial⟩ trivial H hg
theorem dC (hs:ASpec P J o [p,p'] [] u .no) (hf:Fits (aev t p.1) p.2) (hf':Fits (aev t p'.1) p'.2) (H:chainC P J ops Ψ rest cs h (aput t o.dst u)) (hg:awanted ops o t=some true:=by rfl):chainC P J ops Ψ (o::rest) (⟨[p,p'],[],u,.no⟩::cs) h t:=dR hs ⟨hf,hf',trivial⟩ trivial trivial H hg
theorem dD (hs:ASpec P J o [p,p',p''] [] u .no) (hf:Fits (aev t p.1) p.2) (hf':Fits (aev t p'.1) p'.2) (hf'':Fits (aev t p''.1) p''.2) (H:chainC P J ops Ψ rest cs h (aput t o.dst u)) (hg:awanted ops o t=some true:=by rfl):chainC P J ops Ψ (o::rest) (⟨[p,p',p''],[],u,.no⟩::cs) h t:=dR hs ⟨hf,hf',hf'',trivial⟩ trivial trivial H hg
theorem dM (hs:ASpec P J o [p] [] u .no) (H:chainC P J ops Ψ rest cs h (aput t o.dst u)) (hf:Fits (aev t p.1) p.2:=by exact I0) (hg:awanted ops o t=some true:=by rfl):chainC P J ops Ψ (o::rest) (⟨[p],[],u,.no⟩::cs) h t:=dA hs hf H hg
theorem dP (hs:ASpec P J o [p,p',p''] [] u .no) (H:chainC P J ops Ψ rest cs h (aput t o.dst u)) (hf:Fits (aev t p.1) p.2:=by exact I0) (hf':Fits (aev t p'.1) p'.2:=by exact I0) (hf'':Fits (aev t p''.1) p''.2:=by exact I0) (hg:awanted ops o t=some true:=by rfl):chainC P J ops Ψ (o::rest) (⟨[p,p',p''],[],u,.no⟩::cs) h t:=dD hs hf hf' hf'' H hg
theorem dK (H:chainC P J ops Ψ rest cs h (aput t o.dst (.v undef))) (hg:awanted ops o t=some false:=by rfl):chainC P J ops Ψ (o::rest) (⟨[],[],.v undef,.no⟩::cs) h t:=⟨app_no hg,H⟩
theorem dE (H:Ψ h t):chainC P J ops Ψ [] [] h t:=H
theorem qK (H:ETri J w0 h (aput t o.dst (.v undef)) (wpList P ops Q rest)) (hg:awanted ops o t=some false:=by rfl):ETri J w0 h t (wpList P ops Q (o::rest)):=t_skip hg H
theorem Zu {id:Nat} {l:List Oper} {cl:List Cl} (H:chainC P J l.toArray (fun h t=>ETri J w0 h t (Q .normal)) l cl h t) (hB:fastC l.toArray l cl 0 []=true) (hm:P.follows .mixedOrders=true:=by kernel_rfl):ETri J w0 h t ((Code.region id l.toArray true).wp P Q):=tri_draw cl hm hB H
end
section
variable {P:Program} {o:Oper}
theorem mT (i:Nat) (X:AV) (ho:o.op = .move (.tmp i):=by rfl):ASpec P J o [(.tmp i,X)] [] X .no:=Ki _ X ho
theorem aT (i:Nat) (X:AV) (ho:o.op = .assign (.tmp i):=by rfl):ASpec P J o [(.tmp i,X)] [] X .no:=Ym _ X ho
theorem aC (x:Value) (ho:o.op = .assign (.const x):=by rfl):ASpec P J o [(.const x,.v x)] [] (.v x) .no:=Ym _ (.v x) ho
theorem fb {S:TypeId} {fs:Array Field} {f k off:Nat} {fl:Field} (off':Nat) (i:Nat) (hu:P.underlying S=some (.struct fs)) (z:Nat) (ho:o.op = .fieldAddr S (.tmp i) f:=by rfl) (hf:fs[f]? = some fl:=by rfl) (e:off+fl.offset=off':=by rfl) (hz:(P.info? fl.type).map (·.size)=some z:=by kernel_rfl) (h0:0<z:=by decide):ASpec P J o [(.tmp i,.box k off)] [] (.box k off') .no:=fB off' _ ho hu hf z e hz h0
theorem lb {T:TypeId} {d:TypeDesc} {k off:Nat} {Y:ABlk} (X:AV) (i:Nat) (hu:P.underlying T=some d) (ho:o.op = .load T (.tmp i):=by rfl) (hd:d.isRow=false:=by rfl) (hX:Y.cells[off]? = some X:=by rfl):ASpec P J o [(.tmp i,.box k off)] [(k,Y)] X .no:=lB Y X _ ho hu hd hX
theorem sc {ats:Array TypeId} {f:FuncId} {Ys:List AV} {u U:AV} (xs:Array Operand) (rd:List (Nat × ABlk)) (hC:Ctr P J f Ys u) (Xs:List AV) (ho:o.op = .call { callee := .value (.func f),args:=xs,argTypes:=ats }) (hv:Xs.map (AV.view rd)=Ys) (hU:u.res=U)
    (hf : (P.funcs[f]?).map (fun fn => (fn.name == "runtime.NumGoroutine") || fn.body.isNone) = some false := by kernel_rfl) (hl : xs.size = Xs.length := by exact rfl) (hfl : Xs.all AV.flat2 = true := by exact rfl) : ASpec P J o ((.func f, .v (.func (.func f) #[] #[])) :: xs.toList.zip Xs) rd U .no := sp_call rd hC ho hf hl hv hfl hU
theorem pk {c x y:Operand} (b:Bool) (X Y:AV) (ho:o.op = .pick c x y):ASpec P J o [(c,.v (.bool b)),(x,X),(y,Y)] [] (if b then X else Y) .no:=sp_pick c x y b X Y ho
theorem lS {T:TypeId} {d:TypeDesc} {k off:Nat} {Y:ABlk} (ds:List AV) (z i:Nat) (hu:P.underlying T=some d) (ho:o.op = .load T (.tmp i):=by rfl) (hd:d.isRow=true:=by rfl) (hz:(P.info? T).map (·.size)=some z:=by kernel_rfl) (h0:0<z:=by decide) (hX:(Y.cells.drop off).take z=ds:=by kernel_rfl) (hl:ds.length=z:=by kernel_rfl):ASpec P J o [(.tmp i,.box k off)] [(k,Y)] (.agg ds) .no:=sp_loadBoxS _ ho hu hd hz h0 hX hl
theorem lE {T:TypeId} {d:TypeDesc} {off:Nat} {cs:List AV} (X:AV) (i:Nat) (hu:P.underlying T=some d) (hX:cs[off]? = some X:=by rfl) (ho:o.op = .load T (.tmp i):=by rfl) (hd:d.isRow=false:=by rfl):ASpec P J o [(.tmp i,.el cs off)] [] X .no:=sp_loadEl1 _ ho hu hd hX
theorem fe {S:TypeId} {fs:Array Field} {f off:Nat} {cs:List AV} {fl:Field} (off' i:Nat) (hu:P.underlying S=some (.struct fs)) (z:Nat) (ho:o.op = .fieldAddr S (.tmp i) f:=by rfl) (hf:fs[f]? = some fl:=by rfl) (e:off+fl.offset=off':=by rfl) (hz:(P.info? fl.type).map (·.size)=some z:=by kernel_rfl) (h0:0<z:=by decide):ASpec P J o [(.tmp i,.el cs off)] [] (.el cs off') .no:=sp_fieldEl _ ho hu hf hz h0 e
theorem xS {t e:TypeId} {z n:Nat} {cs:List AV} {ik:IntKind} {i:Int} (off x y:Nat) (hu:P.underlying t=some (.slice e)) (ho:o.op = .indexAddr t (.tmp x) (.tmp y):=by rfl) (hz:(P.info? e).map (·.size)=some z:=by kernel_rfl) (h0:0≤i:=by omega) (h1:i<n:=by omega) (he:i.toNat*z=off:=by rfl):ASpec P J o [(.tmp x,.sl z n cs),(.tmp y,.v (.int ik i))] [] (.el cs off) .no:=sp_indexSl _ _ ho hu hz h0 h1 he
theorem nS {t e:TypeId} {z n:Nat} {cs:List AV} (x:Nat) (hu:P.underlying t=some (.slice e)) (ho:o.op = .call { callee := .builtin .len,args := #[.tmp x],argTypes := #[t] }:=by rfl):ASpec P J o [(.tmp x,.sl z n cs)] [] (.v (.int .i64 n)) .no:=sp_lenSl _ ho hu
theorem sB {T T0:TypeId} {k off:Nat} {cs:List AV} (z i:Nat) (y:Operand) (X:AV) (ho:o.op = .store T (.tmp i) y:=by rfl) (hz:(P.info? T).map (·.size)=some z:=by kernel_rfl) (hX:X.cellsOf.all AV.cell=true:=by kernel_rfl) (hl:X.cellsOf.length=z:=by kernel_rfl) (hr:off+z≤cs.length:=by exact of_decide_eq_true (by kernel_rfl)) :
    ASpec P J o [(.tmp i,.box k off),(y,X)] [(k,.box T0 cs)] (.v undef) (.st k (.box T0 (setAll cs off X.cellsOf))):=ZD _ y ho hz hX hl hr rfl
end
def AV.pu1:AV→Bool
  | .box _ _=>false
  | .own _=>false
  | .bsl _ _ _=>false
  | .agg _=>false
  | .tup _=>false
  | .clo _ _=>false
  | _=>true
theorem Rel.pu1 {ρ:Names} {B:Nat} {w:World} {X:AV} {x:Value} (h:Rel ρ B w X x) (hp:X.pu1=true):Pu (B ≤ ·) w (okOf ρ) X x:=by
  cases h with
  | pu h=>exact h
  | box h=>cases hp
  | own h=>cases hp
  | bsl h=>cases hp
  | agg hl h=>cases hp
  | tup hl h=>cases hp
  | clo hl h=>cases hp
theorem flatC_get {z:Nat}:∀ (Xs:List AV),(∀ X∈Xs,X.cellsOf.length=z)→∀ k,(Xs.flatMap AV.cellsOf)[k]? = if k<Xs.length*z then (Xs[k / z]?).bind fun X=>X.cellsOf[k % z]? else none
  | [],_,k=>by simp
  | X::Xs,h,k=>by
    have hX:=h X (by simp)
    simp only [List.flatMap_cons,List.length_cons,Nat.add_mul,Nat.one_mul]
    by_cases hk:k<z
    · rw [List.getElem?_append_left (by omega),if_pos (by omega),Nat.div_eq_of_lt hk,Nat.mod_eq_of_lt hk];rfl
    rw [List.getElem?_append_right (by omega),flatC_get Xs (fun X hX=>h X (by simp [hX])),hX]
    by_cases hz:z=0
    · subst hz;simp
    have e1:k / z=(k-z) / z+1:=by rw [← Nat.sub_add_cancel (show z≤k by omega),Nat.add_div_right _ (by omega)];simp
    have e2:k % z=(k-z) % z:=by rw [← Nat.mod_eq_sub_mod (by omega)]
    rw [e1,e2,List.getElem?_cons_succ]
    by_cases hlt:k<Xs.length*z+z
    · rw [if_pos (by omega),if_pos hlt]
    rw [if_neg (by omega),if_neg hlt]
section
variable {P:Program} {o:Oper}
theorem sp_build0 {t e z k:Nat} (fr:Bool) (ho:o.op = .buildSlice t 0 #[]) (hu:P.underlying t=some (.slice e)) (hi:(P.info? e).map (·.size)=some z):ASpec P J o [] [] (.own k) (.new k (.row fr e z 0 [])) :=
  aspec_new fun ρ B a w _ hB _ _ hk=>by
    obtain ⟨i,hi,hiz⟩:=Option.map_eq_some_iff.1 hi
    refine ⟨_,0,0,#[],e,?_,.own (nm := .at w.heap.size 0 0) (Yq _ _ _),[],⟨by simp,.inr ⟨w.heap.size,0,#[],rfl,rowB_le hB,heap_alloc_new w _,Nat.le_refl _,by simp [maxLen],by simp,by simp⟩⟩,rfl,by simp⟩
    have h0:Array.map (fun (_:Nat)=>(default:Value)) (Array.range 0) = #[]:=by apply Array.eq_empty_of_size_eq_zero;simp
    simp only [execOp,ho]
    exact Yh (by simp [Instr.buildSlice,run_underlying hu,sizeOf,typeInfo,hi,Instr.fill,newRow,Nm.val,h0])
theorem sp_build {t e z n k:Nat} {fr:Bool} {parts:Array (Nat × Operand)} (xs:List Operand) (Xs:List AV) (ho:o.op = .buildSlice t n parts) (hu:P.underlying t=some (.slice e)) (hi:(P.info? e).map (fun i=>(i.size,i.zero.map (·.cells.size)))=some (z,some z)) (h0:0<z) (hn0:0<n)
    (hp:parts.toList=xs.zipIdx.map fun p=>(p.2,p.1)) (hl:xs.length=n) (hX:Xs.length=n) (hz:Xs.all (fun X=>X.cellsOf.length==z&&X.cellsOf.all (fun c=>c.cell&&c.pu1))=true) (hs:n*z≤16777216)
    (hnew:fr=true→∀ d∈Xs.flatMap AV.cellsOf,d.isNew=true) {cs:List AV} (hcs:Ye fr (Xs.flatMap AV.cellsOf)=cs) :
    ASpec P J o (xs.zip Xs) [] (.own k) (.new k (.row fr e z n cs)) :=
  aspec_new fun ρ B a w hwf hB ha _ hk=>by
    subst hcs
    obtain ⟨i,hi,hj⟩:=Option.map_eq_some_iff.1 hi
    simp only [Prod.mk.injEq] at hj
    obtain ⟨j1,j2⟩:=hj
    obtain ⟨zv,hz1,hz2⟩:=Option.map_eq_some_iff.1 j2
    have hzz:∀ X∈Xs,X.cellsOf.length=z∧(∀ c∈X.cellsOf,c.cell=true∧c.pu1=true):=fun X hX=>by
      have:=List.all_eq_true.1 hz X hX
      simp only [Bool.and_eq_true,beq_iff_eq,List.all_eq_true] at this
      exact this
    have hrel:∀ j (h1:j<xs.length) (h2:j<Xs.length),Rel ρ B w Xs[j] (a.eval xs[j]):=fun j h1 h2=>ha (xs[j],Xs[j]) (by rw [List.mem_iff_getElem];exact ⟨j,by simp;omega,by simp⟩)
    have hcell:∀ j (h1:j<xs.length) (h2:j<Xs.length),(a.eval xs[j]).cells.size=z∧∀ l (hl:l<Xs[j].cellsOf.length),Pu (B ≤ ·) w (okOf ρ) Xs[j].cellsOf[l] ((a.eval xs[j]).cells.getD l undef):=fun j h1 h2=>by
      obtain ⟨q1,q2⟩:=hzz _ (List.getElem_mem h2)
      obtain ⟨r1,r2,r3⟩:=(hrel j h1 h2).cells (List.all_eq_true.2 fun c hc=>(q2 c hc).1)
      exact ⟨by omega,fun l hl=>(r3 l hl).pu1 (q2 _ (List.getElem_mem hl)).2⟩
    obtain ⟨r,f1,f2,f3⟩:=Great.fill_dense h0 (xs.map a.eval) 0 ((Array.range (n*i.size)).map (zv.cells[· % zv.cells.size]!)) (fun v hv=>by
      obtain ⟨x,hx,rfl⟩:=List.mem_map.1 hv
      obtain ⟨j,hj,rfl⟩:=List.getElem_of_mem hx
      exact (hcell j hj (by omega)).1) (by simp [hl,j1])
    have hrun:=run_buildSlice (P:=P) w t e n (parts.map fun (i,x)=>(i,a.eval x)) r i zv hu hi hz1 (by rw [j1];omega) (by rw [j1];have:=Nat.mul_pos hn0 h0;omega) (by
      rw [← f1,j1]
      congr 1
      rw [Array.toList_map,hp,List.map_map,List.zipIdx_map,List.map_map]
      rfl)
    have hrs:r.size=n*z:=by rw [f2];simp [j1]
    have hfl:(Xs.flatMap AV.cellsOf).length=n*z:=by
      have:∀ (Xs:List AV),(∀ X∈Xs,X.cellsOf.length=z)→(Xs.flatMap AV.cellsOf).length=Xs.length*z:=by
        intro Xs
        induction Xs with
        | nil=>intro _;simp
        | cons X Xs ih=>intro h;simp only [List.flatMap_cons,List.length_append,ih fun X hX=>h X (by simp [hX]),h X (by simp),List.length_cons,Nat.add_mul];omega
      rw [this Xs fun X hX=>(hzz X hX).1,hX]
    refine ⟨.slice (some ⟨w.heap.size,0,none⟩) n n,n,n,r,e,?_,.own (nm := .at w.heap.size n n) (Yq _ _ _),r.toList,⟨by simpa using hrs,.inr ⟨w.heap.size,n,r,rfl,rowB_le hB,heap_alloc_new w _,Nat.le_refl _,?_,hrs,by rw [List.take_of_length_le (by simp [hrs])]⟩⟩,by rw [Yy,hfl];simpa using hrs,fun j hj => ?_⟩
    · simp only [execOp,ho]
      exact Yh hrun
    · have:n*1≤n*z:=Nat.mul_le_mul_left n h0
      simp only [maxLen];omega
    have hj':j<n*z:=by rw [Yy,hfl] at hj;exact hj
    have hd:j / z<n:=(Nat.div_lt_iff_lt_mul h0).2 hj'
    have hm:j % z<z:=Nat.mod_lt _ h0
    have hx1:j / z<xs.length:=by omega
    have hX1:j / z<Xs.length:=by omega
    obtain ⟨c1,c2⟩:=hcell _ hx1 hX1
    have hcl:=(hzz _ (List.getElem_mem hX1)).1
    have hjf:j<(Xs.flatMap AV.cellsOf).length:=by omega
    have e1:(Xs.flatMap AV.cellsOf)[j]=Xs[j / z].cellsOf[j % z]'(by omega):=by
      have:=flatC_get Xs (fun X hX=>(hzz X hX).1) j
      rw [List.getElem?_eq_getElem hjf,if_pos (by rw [hX];exact hj'),List.getElem?_eq_getElem hX1,Option.bind_some,List.getElem?_eq_getElem (by omega)] at this
      exact Option.some.inj this
    have e2:r.toList.getD j undef=(a.eval xs[j / z]).cells.getD (j % z) undef:=by
      have:=f3 j
      rw [if_pos ⟨by simp,by simp [hl];exact hj'⟩,Nat.sub_zero,List.getElem?_map,List.getElem?_eq_getElem hx1] at this
      simp only [Option.map_some,Option.bind_some] at this
      rw [List.getD_eq_getElem?_getD,Array.getElem?_toList,this,Array.getD_eq_getD_getElem?]
    have hp:=c2 (j % z) (by omega)
    rw [← e1,← e2] at hp
    have hrow:=Pu.row (fr:=fr) hnew hj hjf hp
    rw [e2] at hrow ⊢
    have hok:∀ b,okOf ρ b→b<w.heap.size→okOf (upd ρ k (.at w.heap.size n n)) b∧b<(w.alloc (.cells r e)).heap.size∧(w.alloc (.cells r e)).heap[b]? = w.heap[b]? := fun b hb hw=>ok_new hb hw
    exact hrow.mono (fun b hb hw=>⟨⟨(hok b hb.1 hw).1,fun e=>⟨(hb.2 e).1,soft_eq (hok b hb.1 hw).2.2 (hb.2 e).2⟩⟩,(hok b hb.1 hw).2⟩) fun _ _ h=>h
end
section
variable {P:Program} {o:Oper} {t ty:TypeId} {x y:Operand}
theorem sp_bneq {b c r:Bool} (ho:o.op = .binOp .neq t x y ty) (ht:P.underlying t=some .bool) (hr:(b != c)=r):ASpec P J o [(x,.v (.bool b)),(y,.v (.bool c))] [] (.v (.bool r)) .no :=
  sp_bin ho fun w=>by subst hr;rw [Sem.run_bind,show (eqGuard .neq t x y (.bool b) (.bool c)).run P w = .ok () w from rfl,Result.andThen_ok,run_neq_bool w t b c ht];rfl
end
theorem Kk {α:Type} {g:α→AV} (xs:List α) {k:Nat} (h:k<xs.length):(xs.map g)[k*1]? = some (g xs[k]):=by rw [Nat.mul_one];simp [h]
theorem unfr_ints (xs:List Int) (fr:Bool):Ye fr (xs.map iv)=xs.map iv:=by cases fr<;>simp [Ye,AV.unfr]
theorem unfr_strs (xs:List ByteArray) (fr:Bool):Ye fr (xs.map sv)=xs.map sv:=by cases fr<;>simp [Ye,AV.unfr]
theorem ZS {P:Program} {f:FuncId} {args:List AV} {b r:Bool} (h:Ctr P J f args (bv b)) (e:b=r):Ctr P J f args (bv r):=e ▸ h
def LnOk (l:Ln):Prop:=I64 l.c∧I64 l.n∧I64 l.t∧I64 l.f
def ThOk (g:Th):Prop:=I64 g.msg∧I64 g.coef∧I64 g.bd.c∧I64 g.bd.n∧I64 g.bd.t∧I64 g.bd.f
def InOk (xs:List Int):Prop:=∀ x∈xs,I64 x
structure RuOk (r:Ru):Prop where
  nm:r.nm.size≤maxLen
  kind:I64 r.kind
  frm:I64 r.frm
  to:I64 r.to
  pf:I64 r.pf
  pt:I64 r.pt
  resp:InOk r.resp
  guards:∀ g∈r.guards,ThOk g
  ex:InOk r.ex
  fa:InOk r.fa
  rd:I64 r.rd
  wr:I64 r.wr
  send:InOk r.send
  pos:I64 r.pos
  left:InOk r.left
  right:InOk r.right
  parent:InOk r.parent
  dir:I64 r.dir
  lresp:r.resp.length≤9223372036854775807
  lguards:r.guards.length≤9223372036854775807
structure FmOk (q:Fm):Prop where
  nm:q.nm.size≤maxLen
  top:I64 q.top
  states:∀ s∈q.states,s.size≤maxLen
  msgs:∀ s∈q.msgs,s.size≤maxLen
  vals:∀ s∈q.vals,s.size≤maxLen
  fault:I64 q.fault
  res:∀ l∈q.res,LnOk l
  init:InOk q.init
  leader:InOk q.leader
  rules:∀ r∈q.rules,RuOk r
  lstates:q.states.length≤9223372036854775807
  lmsgs:q.msgs.length≤9223372036854775807
  lvals:q.vals.length≤9223372036854775807
  lres:q.res.length≤9223372036854775807
  linit:q.init.length≤9223372036854775807
  lleader:q.leader.length≤9223372036854775807
  lrules:q.rules.length≤9223372036854775807
theorem IsSl.all {α:Type} {z:Nat} {Q:Nat→World→List Value→α→Prop} {lo:Nat} {w:World} {v:Value} {xs:List α} (h:IsSl z Q lo w v xs) {R:α→Prop} (hR:∀ cs x,Q lo w cs x→R x):∀ x∈xs,R x:=by
  intro x hx
  obtain ⟨i,hi,rfl⟩:=List.getElem_of_mem hx
  obtain ⟨a,cap,rfl⟩:=h.shape
  obtain ⟨_,_,cs,_,_,_,_,_,hq⟩:=h.at i hi
  exact hR _ _ hq
theorem IsInts.ok {lo:Nat} {w:World} {v:Value} {xs:List Int} (h:IsInts lo w v xs):InOk xs:=by
  obtain ⟨_,_,_,_,_,⟨h1,_⟩,_⟩:=h;exact h1
theorem IsInts.len {lo:Nat} {w:World} {v:Value} {xs:List Int} (h:IsInts lo w v xs):xs.length≤9223372036854775807:=by
  obtain ⟨_,_,_,h1,h2,_⟩:=h;unfold maxLen at h2;omega
theorem RuEl.ok {lo:Nat} {w:World} {cs:List Value} {r:Ru} (h:RuEl lo w cs r):RuOk r:=by
  obtain ⟨v6,v7,v8,v9,v12,v14,v15,v16,rfl,h0,h1,h2,h3,h4,h5,h6,h7,h8,h9,h10,h11,h12,h13,h14,h15,h16,h17⟩:=h
  exact ⟨h0,h1,h2,h3,h4,h5,h6.ok,h7.all fun cs g hg=>hg.2,h8.ok,h9.ok,h10,h11,h12.ok,h13,h14.ok,h15.ok,h16.ok,h17,h6.len,h7.bound⟩
theorem IsFam.ok {lo:Nat} {w:World} {v:Value} {q:Fm} (h:IsFam lo w v q):FmOk q:=by
  obtain ⟨v2,v3,v4,v6,v7,v8,v9,e,h0,h1,h2,h3,h4,h5,h6,h7,h8,h9⟩:=h
  exact ⟨h0,h1,h2.all fun _ _ h=>h.2,h3.all fun _ _ h=>h.2,h4.all fun _ _ h=>h.2,h5,h6.all fun _ _ h=>h.2,h7.ok,h8.ok,h9.all fun _ _ h=>h.ok,h2.bound,h3.bound,h4.bound,h6.bound,h7.len,h8.len,h9.bound⟩
theorem Ka {F ok:Nat→Prop} {w:World} {cs:List AV} {v:Value} (h:Pu F w ok (.agg cs) v):∃ vs:List Value,v = .agg vs.toArray∧vs.length=cs.length∧∀ j (hj:j<cs.length),Pu F w ok cs[j] (vs.getD j undef):=by
  cases h with
  | agg hl h =>
    rename_i vs
    exact ⟨vs.toList,rfl,by simpa using hl,fun j hj=>by have:=h j hj;simpa [Array.getD_eq_getD_getElem?,List.getD_eq_getElem?_getD] using this⟩
section
variable {F ok:Nat→Prop} {w:World} {lo:Nat}
theorem cells18 {vs:List Value} (h:vs.length=18):vs=[vs.getD 0 undef,vs.getD 1 undef,vs.getD 2 undef,vs.getD 3 undef,vs.getD 4 undef,vs.getD 5 undef,vs.getD 6 undef,vs.getD 7 undef,vs.getD 8 undef,vs.getD 9 undef,vs.getD 10 undef,vs.getD 11 undef,vs.getD 12 undef,vs.getD 13 undef,vs.getD 14 undef,vs.getD 15 undef,vs.getD 16 undef,vs.getD 17 undef]:=by
  match vs,h with
  | [_,_,_,_,_,_,_,_,_,_,_,_,_,_,_,_,_,_],_=>rfl
theorem cells10 {vs:List Value} (h:vs.length=10):vs=[vs.getD 0 undef,vs.getD 1 undef,vs.getD 2 undef,vs.getD 3 undef,vs.getD 4 undef,vs.getD 5 undef,vs.getD 6 undef,vs.getD 7 undef,vs.getD 8 undef,vs.getD 9 undef]:=by
  match vs,h with
  | [_,_,_,_,_,_,_,_,_,_],_=>rfl
theorem cells6 {vs:List Value} (h:vs.length=6):vs=[vs.getD 0 undef,vs.getD 1 undef,vs.getD 2 undef,vs.getD 3 undef,vs.getD 4 undef,vs.getD 5 undef]:=by
  match vs,h with
  | [_,_,_,_,_,_],_=>rfl
theorem cells4 {vs:List Value} (h:vs.length=4):vs=[vs.getD 0 undef,vs.getD 1 undef,vs.getD 2 undef,vs.getD 3 undef]:=by
  match vs,h with
  | [_,_,_,_],_=>rfl
theorem cells1 {vs:List Value} (h:vs.length=1):vs=[vs.getD 0 undef]:=by
  match vs,h with
  | [_],_=>rfl
theorem th_of {g:Th} {vs:List Value} (hg:ThOk g) (hl:vs.length=6) (h:∀ j (hj:j<(cTh g).length),Pu F w ok (cTh g)[j] (vs.getD j undef)):ThEl lo w vs g:=by
  refine ⟨?_,hg⟩
  rw [cells6 hl,(h 0 (by simp [cTh])).v_inv,(h 1 (by simp [cTh])).v_inv,(h 2 (by simp [cTh])).v_inv,(h 3 (by simp [cTh])).v_inv,(h 4 (by simp [cTh])).v_inv,(h 5 (by simp [cTh])).v_inv]
theorem ln_of {g:Ln} {vs:List Value} (hg:LnOk g) (hl:vs.length=4) (h:∀ j (hj:j<(cLn g).length),Pu F w ok (cLn g)[j] (vs.getD j undef)):LnEl lo w vs g:=by
  refine ⟨?_,hg⟩
  rw [cells4 hl,(h 0 (by simp [cLn])).v_inv,(h 1 (by simp [cLn])).v_inv,(h 2 (by simp [cLn])).v_inv,(h 3 (by simp [cLn])).v_inv]
theorem pu_slm {v:Value} {α:Type} {z:Nat} {f:α→List AV} {xs:List α} (hz:∀ x,(f x).length=z) {Q:Nat→World→List Value→α→Prop} (hlo:∀ b,ok b→lo≤b) (R:α→Prop) (hR:∀ x∈xs,R x)
    (hQ:∀ (x:α) (vs:List Value),R x→vs.length=z→(∀ j (hj:j<(f x).length),Pu F w ok (f x)[j] (vs.getD j undef))→Q lo w vs x) (h:Pu F w ok (slA z f xs) v):IsSl z Q lo w v xs:=by
  have h1:=pu_sl hz (Q:=fun lo w vs x=>R x→Q lo w vs x) hlo (fun x vs hl hp hr=>hQ x vs hr hl hp) h
  obtain ⟨a,cap,hv,a1,a2,a3,a4⟩:=h1
  refine ⟨a,cap,hv,a1,a2,a3,?_⟩
  rcases a4 with a4 | ⟨b,off,b1,b2,b3,b4⟩
  · exact .inl a4
  exact .inr ⟨b,off,b1,b2,b3,fun i hi=>by obtain ⟨cs,c1,c2,c3⟩:=b4 i hi;exact ⟨cs,c1,c2,c3 (hR _ (List.getElem_mem hi))⟩⟩
theorem lenTh (g:Th):(cTh g).length=6:=rfl
theorem lenLn (g:Ln):(cLn g).length=4:=rfl
theorem lenRu (g:Ru):(cRu g).length=18:=rfl
theorem lenStr (s:ByteArray):[sv s].length=1:=rfl
theorem pu_strs {v:Value} {xs:List ByteArray} (hs:∀ s∈xs,s.size≤maxLen) (hlo:∀ b,ok b→lo≤b) (h:Pu F w ok (Zw xs) v):IsSl 1 StrEl lo w v xs:=by
  have e0:∀ xs:List ByteArray,xs.map sv=xs.flatMap fun s=>[sv s]:=fun xs=>by
    induction xs with
    | nil=>rfl
    | cons x xs ih=>simp only [List.map_cons,List.flatMap_cons,ih];rfl
  have e:Zw xs=slA 1 (fun s=>[sv s]) xs:=by unfold Zw slA;rw [e0]
  rw [e] at h
  exact pu_slm (f:=fun s=>[sv s]) lenStr hlo (fun s:ByteArray=>s.size≤maxLen) hs (fun s vs hs hl hp=>⟨by rw [cells1 hl,(hp 0 (by simp)).v_inv],hs⟩) h
theorem ru_of {r:Ru} {vs:List Value} (hr:RuOk r) (hlo:∀ b,ok b→lo≤b) (hl:vs.length=18) (h:∀ j (hj:j<(cRu r).length),Pu F w ok (cRu r)[j] (vs.getD j undef)):RuEl lo w vs r:=by
  have hz:(cRu r).length=18:=rfl
  refine ⟨vs.getD 6 undef,vs.getD 7 undef,vs.getD 8 undef,vs.getD 9 undef,vs.getD 12 undef,vs.getD 14 undef,vs.getD 15 undef,vs.getD 16 undef,?_,hr.nm,hr.kind,hr.frm,hr.to,hr.pf,hr.pt,YW hr.resp hlo (h 6 (by omega)),pu_slm lenTh hlo ThOk hr.guards (fun g vs hg hl hp=>th_of hg hl hp) (h 7 (by omega)),YW hr.ex hlo (h 8 (by omega)),YW hr.fa hlo (h 9 (by omega)),hr.rd,hr.wr,YW hr.send hlo (h 12 (by omega)),hr.pos,YW hr.left hlo (h 14 (by omega)),YW hr.right hlo (h 15 (by omega)),YW hr.parent hlo (h 16 (by omega)),hr.dir⟩
  have e:=cells18 hl
  rw [show vs.getD 0 undef = .string r.nm from (h 0 (by omega)).v_inv,show vs.getD 1 undef = .int .i64 r.kind from (h 1 (by omega)).v_inv,show vs.getD 2 undef = .int .i64 r.frm from (h 2 (by omega)).v_inv,show vs.getD 3 undef = .int .i64 r.to from (h 3 (by omega)).v_inv,show vs.getD 4 undef = .int .i64 r.pf from (h 4 (by omega)).v_inv,show vs.getD 5 undef = .int .i64 r.pt from (h 5 (by omega)).v_inv,show vs.getD 10 undef = .int .i64 r.rd from (h 10 (by omega)).v_inv,show vs.getD 11 undef = .int .i64 r.wr from (h 11 (by omega)).v_inv,show vs.getD 13 undef = .int .i64 r.pos from (h 13 (by omega)).v_inv,show vs.getD 17 undef = .int .i64 r.dir from (h 17 (by omega)).v_inv] at e
  exact e
theorem fam_of {q:Fm} {v:Value} (hq:FmOk q) (hlo:∀ b,ok b→lo≤b) (h:Pu F w ok (.agg (cFm q)) v):IsFam lo w v q:=by
  obtain ⟨vs,rfl,hl,h⟩:=Ka h
  have hz:(cFm q).length=10:=rfl
  refine ⟨vs.getD 2 undef,vs.getD 3 undef,vs.getD 4 undef,vs.getD 6 undef,vs.getD 7 undef,vs.getD 8 undef,vs.getD 9 undef,?_,hq.nm,hq.top,pu_strs hq.states hlo (h 2 (by omega)),pu_strs hq.msgs hlo (h 3 (by omega)),pu_strs hq.vals hlo (h 4 (by omega)),hq.fault,pu_slm lenLn hlo LnOk hq.res (fun g vs hg hl hp=>ln_of hg hl hp) (h 6 (by omega)),YW hq.init hlo (h 7 (by omega)),YW hq.leader hlo (h 8 (by omega)),pu_slm lenRu hlo RuOk hq.rules (fun r vs hr hl hp=>ru_of hr hlo hl hp) (h 9 (by omega))⟩
  have e:=cells10 (hl.trans hz)
  rw [show vs.getD 0 undef = .string q.nm from (h 0 (by omega)).v_inv,show vs.getD 1 undef = .int .i64 q.top from (h 1 (by omega)).v_inv,show vs.getD 5 undef = .int .i64 q.fault from (h 5 (by omega)).v_inv] at e
  exact congrArg (fun l:List Value=>Value.agg l.toArray) e
end
section
variable {P:Program} {f:FuncId}
theorem ctr1 {A u:AV} (H:∀ (w:World) (v:Value),(∀ w',Below w.heap.size w w'→J w')→Pu (fun _=>True) w (fun b=>b<w.heap.size) A v→Calls P f #[v] w fun e w'=>∃ v,e = .returned v∧Pu (w.heap.size ≤ ·) w' (nw w' w.heap.size) u v∧Below w.heap.size w w'):Ctr P J f [A] u:=fun w vs hJ hl hv=>by
  obtain ⟨v,rfl⟩:∃ v,vs = #[v]:=by
    match vs,hl with
    | ⟨[v]⟩,_=>exact ⟨v,rfl⟩
  exact H w v hJ (hv 0 (by simp))
theorem ctr2 {A B u:AV} (H:∀ (w:World) (v v':Value),(∀ w',Below w.heap.size w w'→J w')→Pu (fun _=>True) w (fun b=>b<w.heap.size) A v→Pu (fun _=>True) w (fun b=>b<w.heap.size) B v'→Calls P f #[v,v'] w fun e w'=>∃ v,e = .returned v∧Pu (w.heap.size ≤ ·) w' (nw w' w.heap.size) u v∧Below w.heap.size w w'):Ctr P J f [A,B] u:=fun w vs hJ hl hv=>by
  obtain ⟨v,v',rfl⟩:∃ v v',vs = #[v,v']:=by
    match vs,hl with
    | ⟨[v,v']⟩,_=>exact ⟨v,v',rfl⟩
  exact H w v v' hJ (hv 0 (by simp)) (hv 1 (by simp))
theorem ctr3 {A B C u:AV} (H:∀ (w:World) (v v' v'':Value),(∀ w',Below w.heap.size w w'→J w')→Pu (fun _=>True) w (fun b=>b<w.heap.size) A v→Pu (fun _=>True) w (fun b=>b<w.heap.size) B v'→Pu (fun _=>True) w (fun b=>b<w.heap.size) C v''→Calls P f #[v,v',v''] w fun e w'=>∃ v,e = .returned v∧Pu (w.heap.size ≤ ·) w' (nw w' w.heap.size) u v∧Below w.heap.size w w'):Ctr P J f [A,B,C] u:=fun w vs hJ hl hv=>by
  obtain ⟨v,v',v'',rfl⟩:∃ v v' v'',vs = #[v,v',v'']:=by
    match vs,hl with
    | ⟨[v,v',v'']⟩,_=>exact ⟨v,v',v'',rfl⟩
  exact H w v v' v'' hJ (hv 0 (by simp)) (hv 1 (by simp)) (hv 2 (by simp))
theorem ret_sc {w:World} {r:Value} {e:Ending} {w':World} (h:e = .returned r∧Below w.heap.size w w'):∃ v,e = .returned v∧Pu (w.heap.size ≤ ·) w' (nw w' w.heap.size) (.v r) v∧Below w.heap.size w w':=⟨r,h.1,.v r,h.2⟩
theorem ret_eq {w:World} {r:Value} {e:Ending} {w':World} (h:e = .returned r∧w=w'):∃ v,e = .returned v∧Pu (w.heap.size ≤ ·) w' (nw w' w.heap.size) (.v r) v∧Below w.heap.size w w':=⟨r,h.1,.v r,by rw [← h.2];exact Below.refl _ _⟩
end
def inB (lo hi n:Int):Bool:=decide (lo≤n)&&decide (n≤hi)
theorem Ya (n lo hi:Int) (w:World) :
    Calls Try.prog 73 #[.int .i64 n,.int .i64 lo,.int .i64 hi] w fun e w'=>e = .returned (.bool (inB lo hi n))∧w=w':=by
  have e:Hid (inB lo hi n=(decide (lo≤n)&&decide (n≤hi))):=(rfl:inB lo hi n=_)
  by_cases h1:lo≤n
  · by_cases h2:n≤hi
    · go_enter Try.func73,Try.ntmps73
      go_wp2
      go_ret
      exact ⟨Zi (by rw [e.out];simp;omega),rfl⟩
    go_enter Try.func73,Try.ntmps73
    go_wp2
    go_ret
    exact ⟨Zi (by rw [e.out];simp;omega),rfl⟩
  go_enter Try.func73,Try.ntmps73
  go_wp2
  go_ret
  exact ⟨Zi (by rw [e.out];simp;omega),rfl⟩
theorem YS (n lo hi:Int) (w:World) :
    Calls Try.prog 53 #[.int .i64 n,.int .i64 lo,.int .i64 hi] w fun e w'=>e = .returned (.bool (inB lo hi n))∧w=w':=by
  have e:Hid (inB lo hi n=(decide (lo≤n)&&decide (n≤hi))):=(rfl:inB lo hi n=_)
  by_cases h1:lo≤n
  · by_cases h2:n≤hi
    · go_enter Try.func53,Try.ntmps53
      go_wp2
      go_ret
      exact ⟨Zi (by rw [e.out];simp;omega),rfl⟩
    go_enter Try.func53,Try.ntmps53
    go_wp2
    go_ret
    exact ⟨Zi (by rw [e.out];simp;omega),rfl⟩
  go_enter Try.func53,Try.ntmps53
  go_wp2
  go_ret
  exact ⟨Zi (by rw [e.out];simp;omega),rfl⟩
def faB (n:Int):Bool:=inB (-100) 100 n
def paB (n:Int):Bool:=inB 0 1048576 n
theorem KI (n:Int) (w:World):Calls Try.prog 98 #[.int .i64 n] w fun e w'=>e = .returned (.bool (faB n))∧w=w':=by
  go_enter Try.func98,Try.ntmps98
  go_wp2_with (go_at_call 73;refine (Ya _ _ _ _).mono ?_;rintro e w' ⟨rfl,rfl⟩)
  go_ret
  exact ⟨rfl,rfl⟩
theorem YX (n:Int) (w:World):Calls Try.prog 85 #[.int .i64 n] w fun e w'=>e = .returned (.bool (paB n))∧w=w':=by
  go_enter Try.func85,Try.ntmps85
  go_wp2_with (go_at_call 73;refine (Ya _ _ _ _).mono ?_;rintro e w' ⟨rfl,rfl⟩)
  go_ret
  exact ⟨rfl,rfl⟩
theorem within_fa (n:Int) (w:World):Calls Try.prog 53 #[.int .i64 n,.int .i64 (-100),.int .i64 100] w fun e w'=>e = .returned (.bool (faB n))∧w=w':=YS _ _ _ _
def smL (c n t f:Int):Bool:=faB c&&faB n&&faB t&&faB f
theorem YD (c n t f:Int) (w:World) :
    Calls Try.prog 78 #[.agg #[.int .i64 c,.int .i64 n,.int .i64 t,.int .i64 f]] w fun e w'=>e = .returned (.bool (!smL c n t f))∧Below w.heap.size w w':=by
  have e:Hid (smL c n t f=(faB c&&faB n&&faB t&&faB f)):=(rfl:smL c n t f=_)
  cases h1:faB c with
  | false =>
    go_enter Try.func78,Try.ntmps78
    go_wp2_with (go_at_call 98;refine (KI _ _).mono ?_;rintro e w' ⟨rfl,rfl⟩)
    go_ret
    exact ⟨Zi (by rw [e.out,h1];rfl),Zf _ _⟩
  | true =>
    cases h2:faB n with
    | false =>
      go_enter Try.func78,Try.ntmps78
      go_wp2_with (go_at_call 98;refine (KI _ _).mono ?_;rintro e w' ⟨rfl,rfl⟩)
      go_ret
      exact ⟨Zi (by rw [e.out,h1,h2];rfl),Zf _ _⟩
    | true =>
      cases h3:faB t with
      | false =>
        go_enter Try.func78,Try.ntmps78
        go_wp2_with (go_at_call 98;refine (KI _ _).mono ?_;rintro e w' ⟨rfl,rfl⟩)
        go_ret
        exact ⟨Zi (by rw [e.out,h1,h2,h3];rfl),Zf _ _⟩
      | true =>
        go_enter Try.func78,Try.ntmps78
        go_wp2_with (go_at_call 98;refine (KI _ _).mono ?_;rintro e w' ⟨rfl,rfl⟩)
        go_ret
        exact ⟨Zi (by rw [e.out,h1,h2,h3];rfl),Zf _ _⟩
theorem few_any (c n t f:Int) (w:World) :
    Calls Try.prog 55 #[.agg #[.int .i64 c,.int .i64 n,.int .i64 t,.int .i64 f]] w fun e w'=>e = .returned (.bool (smL c n t f))∧Below w.heap.size w w':=by
  have e:Hid (smL c n t f=(faB c&&faB n&&faB t&&faB f)):=(rfl:smL c n t f=_)
  cases h1:faB c with
  | false =>
    go_enter Try.func55,Try.ntmps55
    go_wp2_with (go_at_call 53;refine (within_fa _ _).mono ?_;rintro e w' ⟨rfl,rfl⟩)
    go_ret
    exact ⟨Zi (by rw [e.out,h1];rfl),Zf _ _⟩
  | true =>
    cases h2:faB n with
    | false =>
      go_enter Try.func55,Try.ntmps55
      go_wp2_with (go_at_call 53;refine (within_fa _ _).mono ?_;rintro e w' ⟨rfl,rfl⟩)
      go_ret
      exact ⟨Zi (by rw [e.out,h1,h2];rfl),Zf _ _⟩
    | true =>
      cases h3:faB t with
      | false =>
        go_enter Try.func55,Try.ntmps55
        go_wp2_with (go_at_call 53;refine (within_fa _ _).mono ?_;rintro e w' ⟨rfl,rfl⟩)
        go_ret
        exact ⟨Zi (by rw [e.out,h1,h2,h3];rfl),Zf _ _⟩
      | true =>
        go_enter Try.func55,Try.ntmps55
        go_wp2_with (go_at_call 53;refine (within_fa _ _).mono ?_;rintro e w' ⟨rfl,rfl⟩)
        go_ret
        exact ⟨Zi (by rw [e.out,h1,h2,h3];rfl),Zf _ _⟩
def ixB (n:Nat) (x:Int):Bool:=inB 0 ((n:Int)-1) x
theorem ZI (x:Int) (n:Nat) (hn:n≤9223372036854775807) (w:World) :
    Calls Try.prog 99 #[.int .i64 x,.int .i64 n] w fun e w'=>e = .returned (.bool (ixB n x))∧w=w':=by
  have hw:IntKind.i64.wrap ((n:Int)-1)=(n:Int)-1:=IntWalk.i64_in _ (by omega)
  go_enter Try.func99,Try.ntmps99
  go_wp2_with (go_at_call 73;refine (Ya _ _ _ _).mono ?_;rintro e w' ⟨rfl,rfl⟩)
  go_ret
  exact ⟨rfl,rfl⟩
def allK (n:Nat) (xs:List Int) (k:Nat):Bool:=(xs.take k).all (ixB n)
theorem allK_succ {n:Nat} {xs:List Int} {k:Nat} (h:k<xs.length) (hk:allK n xs k=true) (hp:ixB n xs[k]=true):allK n xs (k+1)=true:=by
  unfold allK at *;rw [List.take_succ_eq_append_getElem h,List.all_append,hk];simp [hp]
theorem allK_no {n:Nat} {xs:List Int} {k:Nat} (h:k<xs.length) (hp:ixB n xs[k]=false):allK n xs xs.length=false:=by
  unfold allK;rw [List.take_length,List.all_eq_false];exact ⟨xs[k],List.getElem_mem h,by simp [hp]⟩
def ascK (xs:List Int) (k:Nat):Bool:=(List.range k).all fun j=>decide (j=0)||decide (xs.getD (j-1) 0<xs.getD j 0)
theorem ascK_one (xs:List Int):ascK xs 1=true:=rfl
theorem ascK_succ {xs:List Int} {k:Nat} (hk:ascK xs k=true) (hp:xs.getD (k-1) 0<xs.getD k 0):ascK xs (k+1)=true:=by
  unfold ascK at *;rw [List.range_succ,List.all_append,hk];simp only [List.all_cons,List.all_nil,Bool.and_true,decide_eq_true hp,Bool.or_true]
theorem ascK_no {xs:List Int} {k n:Nat} (h:k<n) (h0:0<k) (hp:¬ xs.getD (k-1) 0<xs.getD k 0):ascK xs n=false:=by
  unfold ascK;rw [List.all_eq_false];exact ⟨k,List.mem_range.2 h,by rw [decide_eq_false (by omega:¬ k=0),decide_eq_false hp];simp⟩
def setE (n:Nat) (xs:List Int):Int:=if allK n xs xs.length=false then 5 else if ascK xs xs.length=false then 1 else 0
set_option maxHeartbeats 12800000
def tooB (q:Fm):Bool:=decide (6<q.states.length)||decide (3<q.msgs.length)||decide (3<q.vals.length)||decide (4<q.res.length)||decide (8<q.rules.length)
theorem hasTooMany_any {lo:Nat} {w:World} {v:Value} {q:Fm} (h:IsFam lo w v q) :
    Calls Try.prog 74 #[v] w fun e w'=>e = .returned (.bool (tooB q))∧Below w.heap.size w w':=by
  obtain ⟨v2,v3,v4,v6,v7,v8,v9,rfl,h0,h1,h2,h3,h4,h5,h6,h7,h8,h9⟩:=h
  have E:Hid (tooB q=(decide (6<q.states.length)||decide (3<q.msgs.length)||decide (3<q.vals.length)||decide (4<q.res.length)||decide (8<q.rules.length))):=(rfl:tooB q=_)
  have b2:q.states.length≤9223372036854775807:=by exact h2.bound
  have b3:q.msgs.length≤9223372036854775807:=by exact h3.bound
  have b4:q.vals.length≤9223372036854775807:=by exact h4.bound
  have b6:q.res.length≤9223372036854775807:=by exact h6.bound
  have b7:q.init.length≤9223372036854775807:=by obtain ⟨_,_,_,hh,hm,_⟩:=h7;unfold maxLen at hm;omega
  have b8:q.leader.length≤9223372036854775807:=by obtain ⟨_,_,_,hh,hm,_⟩:=h8;unfold maxLen at hm;omega
  have b9:q.rules.length≤9223372036854775807:=by exact h9.bound
  obtain ⟨a2,c2,rfl⟩:=h2.shape
  obtain ⟨a3,c3,rfl⟩:=h3.shape
  obtain ⟨a4,c4,rfl⟩:=h4.shape
  obtain ⟨a6,c6,rfl⟩:=h6.shape
  obtain ⟨a7,c7,rfl⟩:=h7.shape
  obtain ⟨a8,c8,rfl⟩:=h8.shape
  obtain ⟨a9,c9,rfl⟩:=h9.shape
  clear h0 h1 h2 h3 h4 h5 h6 h7 h8 h9
  by_cases t0:6<q.states.length
  · have i0:(6:Int)<((q.states.length:Nat):Int):=by omega
    go_enter Try.func74,Try.ntmps74
    go_wp2_with fail
    go_ret
    exact ⟨Zi (by rw [E.out,decide_eq_true t0];simp),Zf _ _⟩
  have i0:¬ (6:Int)<((q.states.length:Nat):Int):=by omega
  by_cases t1:3<q.msgs.length
  · have i1:(3:Int)<((q.msgs.length:Nat):Int):=by omega
    go_enter Try.func74,Try.ntmps74
    go_wp2_with fail
    go_ret
    exact ⟨Zi (by rw [E.out,decide_eq_true t1];simp),Zf _ _⟩
  have i1:¬ (3:Int)<((q.msgs.length:Nat):Int):=by omega
  by_cases t2:3<q.vals.length
  · have i2:(3:Int)<((q.vals.length:Nat):Int):=by omega
    go_enter Try.func74,Try.ntmps74
    go_wp2_with fail
    go_ret
    exact ⟨Zi (by rw [E.out,decide_eq_true t2];simp),Zf _ _⟩
  have i2:¬ (3:Int)<((q.vals.length:Nat):Int):=by omega
  by_cases t3:4<q.res.length
  · have i3:(4:Int)<((q.res.length:Nat):Int):=by omega
    go_enter Try.func74,Try.ntmps74
    go_wp2_with fail
    go_ret
    exact ⟨Zi (by rw [E.out,decide_eq_true t3];simp),Zf _ _⟩
  have i3:¬ (4:Int)<((q.res.length:Nat):Int):=by omega
  by_cases t4:8<q.rules.length
  · have i4:(8:Int)<((q.rules.length:Nat):Int):=by omega
    go_enter Try.func74,Try.ntmps74
    go_wp2_with fail
    go_ret
    exact ⟨Zi (by rw [E.out,decide_eq_true t4];simp),Zf _ _⟩
  have i4:¬ (8:Int)<((q.rules.length:Nat):Int):=by omega
  go_enter Try.func74,Try.ntmps74
  go_wp2_with fail
  go_ret
  exact ⟨Zi (by rw [E.out,decide_eq_false t0,decide_eq_false t1,decide_eq_false t2,decide_eq_false t3,decide_eq_false t4];rfl),Zf _ _⟩
def fitB (kind top:Int):Bool:=if kind=1∨kind=2∨kind=3 then top==1 else if kind=4∨kind=5 then !(top==1) else false
theorem kindFits_any (kind top:Int) (w:World):Calls Try.prog 101 #[.int .i64 kind,.int .i64 top] w fun e w'=>e = .returned (.bool (fitB kind top))∧w=w':=by
  by_cases k1:kind=1
  · subst k1
    go_enter Try.func101,Try.ntmps101
    go_wp2_with fail
    go_ret
    exact ⟨rfl,rfl⟩
  have j1:(kind==1)=false:=by rw [beq_eq_false_iff_ne];exact k1
  by_cases k2:kind=2
  · subst k2
    go_enter Try.func101,Try.ntmps101
    go_wp2_with fail
    go_ret
    exact ⟨rfl,rfl⟩
  have j2:(kind==2)=false:=by rw [beq_eq_false_iff_ne];exact k2
  by_cases k3:kind=3
  · subst k3
    go_enter Try.func101,Try.ntmps101
    go_wp2_with fail
    go_ret
    exact ⟨rfl,rfl⟩
  have j3:(kind==3)=false:=by rw [beq_eq_false_iff_ne];exact k3
  by_cases k4:kind=4
  · subst k4
    go_enter Try.func101,Try.ntmps101
    go_wp2_with fail
    go_ret
    exact ⟨rfl,rfl⟩
  have j4:(kind==4)=false:=by rw [beq_eq_false_iff_ne];exact k4
  by_cases k5:kind=5
  · subst k5
    go_enter Try.func101,Try.ntmps101
    go_wp2_with fail
    go_ret
    exact ⟨rfl,rfl⟩
  have j5:(kind==5)=false:=by rw [beq_eq_false_iff_ne];exact k5
  have E:=Lib.hid (show fitB kind top=false by unfold fitB;rw [if_neg (by omega),if_neg (by omega)])
  clear k1 k2 k3 k4 k5
  go_enter Try.func101,Try.ntmps101
  go_wp2_with fail
  go_ret
  exact ⟨Zi (by rw [E.out]),rfl⟩
end Go.Proofs.Ytengacodacejiaa
namespace Go.Proofs.Ytengacodacejiaa
def resW:List (List UInt8):=[[112,114,111,116,111,99,111,108],[116,111,112,111,108,111,103,121],[115,116,97,116,101,115],[109,101,115,115,97,103,101,115],[118,97,108,117,101,115],[102,97,117,108,116,115],[114,101,115,105,108,105,101,110,99,101],[105,110,105,116,105,97,108],[108,101,97,100,101,114],[114,117,108,101],[108,111,99,97,108],[112,97,105,114],[98,114,111,97,100,99,97,115,116],[110,101,105,103,104,98,111,114],[112,97,115,115],[119,104,101,110],[101,120,105,115,116,115],[102,111,114,97,108,108],[114,101,97,100],[119,114,105,116,101],[115,101,110,100],[97,108,108],[97,116],[102,105,114,115,116],[108,97,115,116],[108,101,102,116],[114,105,103,104,116],[112,97,114,101,110,116],[99,104,105,108,100],[112,114,111,112,101,114,116,121],[110,101,118,101,114],[101,118,101,110,116,117,97,108,108,121],[115,116,97,114,116],[99,111,117,110,116],[97,100,106,97,99,101,110,116],[103,111,97,108],[99,108,105,113,117,101],[108,105,110,101],[114,105,110,103],[116,114,101,101],[99,114,97,115,104],[111,109,105,115,115,105,111,110],[97,114,98,105,116,114,97,114,121]]
def resB (l:List UInt8):Bool:=resW.any (fun w=>l==w)
def leB (c:UInt8):Bool:=decide (97≤(c.toNat:Int))&&decide ((c.toNat:Int)≤122)
def diB (c:UInt8):Bool:=decide (48≤(c.toNat:Int))&&decide ((c.toNat:Int)≤57)||((c.toNat:Int)==95)
def atB (l:List UInt8) (i:Nat):Bool:=leB (l.getD i 0)||(decide (i≠0)&&diB (l.getD i 0))
def upB (l:List UInt8) (n:Nat):Bool:=(List.range n).all (atB l)
theorem upB_zero (l:List UInt8):upB l 0=true:=rfl
theorem upB_succ {l:List UInt8} {n:Nat} (h:upB l n=true) (h':atB l n=true):upB l (n+1)=true:=by
  unfold upB at *;rw [List.range_succ,List.all_append,h];simp [h']
theorem upB_no {l:List UInt8} {n k:Nat} (hk:k<n) (h':atB l k=false):upB l n=false:=by
  unfold upB;rw [List.all_eq_false];exact ⟨k,List.mem_range.2 hk,by simp [h']⟩
def nameB (l:List UInt8):Bool:=decide (1≤l.length)&&decide (l.length≤12) && !resB l&&upB l l.length
def reB (l:List UInt8) (n:Nat):Bool:=(l.take n).all fun c=>leB c||diB c
theorem reB_succ {l:List UInt8} {n:Nat} (hn:n<l.length) (h:reB l n=true) (h':(leB l[n]||diB l[n])=true):reB l (n+1)=true:=by
  unfold reB at *;rw [List.take_succ_eq_append_getElem hn,List.all_append,h];simpa using h'
theorem reB_no {l:List UInt8} {k:Nat} (hk:k<l.length) (h':(leB l[k]||diB l[k])=false):reB l l.length=false:=by
  unfold reB;rw [List.all_eq_false];exact ⟨l[k],by rw [List.take_length];exact List.getElem_mem hk,by simp [h']⟩
theorem upB_reB {l:List UInt8} (h0:0<l.length):upB l l.length=(leB l[0]&&reB l l.length):=by
  rw [Bool.eq_iff_iff]
  unfold upB reB
  rw [List.take_length,List.all_eq_true,Bool.and_eq_true,List.all_eq_true]
  constructor
  · intro h
    refine ⟨?_,fun c hc => ?_⟩
    · have:=h 0 (List.mem_range.2 h0);simpa [atB,h0] using this
    obtain ⟨i,hi,rfl⟩:=List.getElem_of_mem hc
    have:=h i (List.mem_range.2 hi)
    unfold atB at this
    simp only [List.getD_eq_getElem?_getD,List.getElem?_eq_getElem hi,Option.getD_some] at this
    revert this
    cases leB l[i]<;>cases diB l[i]<;>simp
  rintro ⟨h1,h2⟩ i hi
  have hi':=List.mem_range.1 hi
  have h3:=h2 l[i] (List.getElem_mem hi')
  unfold atB
  simp only [List.getD_eq_getElem?_getD,List.getElem?_eq_getElem hi',Option.getD_some]
  by_cases e:i=0
  · subst e;simp [h1]
  simp only [ne_eq,e,not_false_eq_true,decide_true,Bool.true_and];exact h3
theorem upB_first {l:List UInt8} (h0:0<l.length) (h:leB l[0]=false):upB l l.length=false:=by rw [upB_reB h0,h];rfl
end Go.Proofs.Ytengacodacejiaa
namespace Go.Proofs.Ytengacodacejiaa
open Go.RowKit Go.Deep
def orE (a b:Int):Int:=if a=0 then b else a
theorem ZL (b:Int):orE 0 b=b:=if_pos rfl
theorem Kg (a:Int):orE a 0=a:=by unfold orE;split<;>omega
theorem Y8 {a:Int} (b:Int) (h:a≠0):orE a b=a:=if_neg h
theorem KG (n:Nat):setE n []=0:=by unfold setE allK ascK;simp
def hasN (xs:List ByteArray) (s:ByteArray):Bool:=xs.any fun x=>x.toList==s.toList
def nmOk (xs:List ByteArray) (k:Nat):Bool:=(List.range k).all fun i=>nameB (xs.getD i default).toList && !hasN (xs.take i) (xs.getD i default)
theorem nmOk_succ {xs:List ByteArray} {k:Nat} (hk:k<xs.length) (h:nmOk xs k=true) (h1:nameB (xs[k].toList)=true) (h2:hasN (xs.take k) xs[k]=false):nmOk xs (k+1)=true:=by
  have e:xs.getD k default=xs[k]:=by simp [List.getD,List.getElem?_eq_getElem hk]
  unfold nmOk at *;rw [List.range_succ,List.all_append,h];simp only [List.all_cons,List.all_nil,Bool.and_true,e,h1,h2,Bool.not_false]
theorem nmOk_no {xs:List ByteArray} {k n:Nat} (hk:k<xs.length) (hn:k<n) (h:nameB (xs[k].toList)=false∨hasN (xs.take k) xs[k]=true):nmOk xs n=false:=by
  have e:xs.getD k default=xs[k]:=by simp [List.getD,List.getElem?_eq_getElem hk]
  unfold nmOk;rw [List.all_eq_false]
  refine ⟨k,List.mem_range.2 hn,?_⟩
  rw [e]
  rcases h with h | h<;>rw [h]<;>simp
def guE (msgs:Nat) (g:Th):Int:=if ixB msgs g.msg=false then 5 else if inB 1 100 g.coef=false then 1 else if smL g.bd.c g.bd.n g.bd.t g.bd.f=false then 4 else 0
def gusE (msgs:Nat):List Th→Int
  | []=>0
  | g::gs=>if guE msgs g=0 then gusE msgs gs else guE msgs g
def guardE (msgs:Nat) (gs:List Th):Int:=if gusE msgs gs=0 then (if 2<gs.length then 4 else 0) else gusE msgs gs
theorem guardE_nil (m:Nat):guardE m []=0:=rfl
def shE (vals:Nat) (rd wr:Int):Int:=if (rd ≠ -1∧ixB vals rd=false)∨(wr ≠ -1∧ixB vals wr=false) then 5 else 0
theorem shE_none (v:Nat):shE v (-1) (-1)=0:=by unfold shE;simp
def reE (n:Nat) (xs:List Int):Int:=if xs.length≠n then 1 else if allK n xs xs.length=false then 5 else 0
def posE (pos top:Int):Int:=if inB 0 2 pos=false∨(pos≠0∧top=3) then 1 else 0
def dirE (dir top:Int):Int:=if top=4 then (if dir=3∨dir=4 then 0 else 1) else (if dir=1∨dir=2 then 0 else 1)
def bare (r:Ru) (top:Int):Ru :=
  let r:={ r with frm:=0,to:=0 }
  if r.kind=1 then { r with guards:=[],ex:=[],fa:=[],send:=[],rd := -1,wr := -1 }
  else if r.kind=2 then { r with pf:=0,pt:=0,rd := -1,wr := -1 }
  else if r.kind=3 then { r with resp:=[],rd := -1,wr := -1 }
  else if r.kind=4 then (if top=4 then { r with pos:=0,left:=[],right:=[],parent:=[] } else { r with pos:=0,left:=[],right:=[] })
  else if r.kind=5 then { r with pf:=0,pt:=0,dir:=0 }
  else r
def samP (a b:Ru):Bool :=
  decide (a.kind=b.kind)&&decide (a.frm=b.frm)&&decide (a.to=b.to)&&decide (a.pf=b.pf)&&decide (a.pt=b.pt)&&decide (a.resp=b.resp)&&decide (a.guards=b.guards)&&decide (a.ex=b.ex)&&decide (a.fa=b.fa) &&
  decide (a.rd=b.rd)&&decide (a.wr=b.wr)&&decide (a.send=b.send)&&decide (a.pos=b.pos)&&decide (a.left=b.left)&&decide (a.right=b.right)&&decide (a.parent=b.parent)&&decide (a.dir=b.dir)
def plainR (kind:Int):Ru:=⟨⟨#[]⟩,kind,0,0,0,0,[],[],[],[],-1,-1,[],0,[],[],[],0⟩
def othB (r:Ru) (top:Int):Bool:=samP (bare r top) (plainR r.kind)
def stB (r:Ru) (n:Nat):Bool:=ixB n r.frm&&ixB n r.to&&ixB n r.pf&&ixB n r.pt
def partE (q:Fm) (r:Ru):Int :=
  if r.kind=3 then orE (reE q.states.length r.resp) (shE q.vals.length r.rd r.wr)
  else if r.kind=2 then shE q.vals.length r.rd r.wr
  else if r.kind=1 then orE (guardE q.msgs.length r.guards) (orE (setE q.states.length r.ex) (orE (setE q.states.length r.fa) (orE (shE q.vals.length r.rd r.wr) (setE q.msgs.length r.send))))
  else if r.kind=4 then orE (setE q.states.length r.left) (orE (setE q.states.length r.right) (orE (setE q.states.length r.parent) (posE r.pos q.top)))
  else dirE r.dir q.top
def hasR (rs:List Ru) (s:ByteArray):Bool:=rs.any fun r=>r.nm.toList==s.toList
def ruleE (q:Fm) (i:Nat) (r:Ru):Int :=
  if nameB r.nm.toList=false∨hasR (q.rules.take i) r.nm=true then 2
  else if fitB r.kind q.top=false∨othB r q.top=false then 6
  else if stB r q.states.length=false then 5
  else partE q r
def Ky (r:Ru) (top:Int):Bool :=
  if r.kind≠1∧(r.guards≠[]∨r.ex≠[]∨r.fa≠[]∨r.send≠[]) then true
  else if r.kind≠1∧r.kind≠2∧r.kind≠3∧(r.rd ≠ -1∨r.wr ≠ -1) then true
  else if r.kind≠2∧r.kind≠5∧(r.pf≠0∨r.pt≠0) then true
  else if (r.kind≠3∧r.resp≠[])∨(r.kind≠5∧r.dir≠0) then true
  else if r.kind≠4∧(r.pos≠0∨r.left≠[]∨r.right≠[]) then true
  else decide (r.parent≠[]∧¬ (r.kind=4∧top=4))
def rkindB (r:Ru) (top:Int):Bool:=inB 1 5 r.kind&&(decide (r.kind≤3)==decide (top=1)) && !Ky r top
def rstB (r:Ru) (n:Nat):Bool:=ixB n r.frm&&ixB n r.to&&(!(decide (r.kind=2)||decide (r.kind=5))||(ixB n r.pf&&ixB n r.pt))
def rpartE (q:Fm) (r:Ru):Int :=
  orE (if r.kind=3 then reE q.states.length r.resp else 0) <| orE (guardE q.msgs.length r.guards) <| orE (setE q.states.length r.ex) <| orE (setE q.states.length r.fa) <| orE (shE q.vals.length r.rd r.wr) <| orE (setE q.msgs.length r.send) <|
  orE (setE q.states.length r.left) <| orE (setE q.states.length r.right) <| orE (setE q.states.length r.parent) <| orE (if r.kind=4 then posE r.pos q.top else 0) (if r.kind=5 then dirE r.dir q.top else 0)
def rruleE (q:Fm) (i:Nat) (r:Ru):Int :=
  if nameB r.nm.toList=false∨hasR (q.rules.take i) r.nm=true then 2
  else if rkindB r q.top=false then 6
  else if rstB r q.states.length=false then 5
  else rpartE q r
theorem samP_iff (a b:Ru):samP a b=true↔a.kind=b.kind∧a.frm=b.frm∧a.to=b.to∧a.pf=b.pf∧a.pt=b.pt∧a.resp=b.resp∧a.guards=b.guards∧a.ex=b.ex∧a.fa=b.fa∧a.rd=b.rd∧a.wr=b.wr∧a.send=b.send∧a.pos=b.pos∧a.left=b.left∧a.right=b.right∧a.parent=b.parent∧a.dir=b.dir:=by
  unfold samP;simp only [Bool.and_eq_true,decide_eq_true_iff,and_assoc]
structure Emp (r:Ru) (top:Int):Prop where
  g:r.kind≠1→r.guards=[]∧r.ex=[]∧r.fa=[]∧r.send=[]
  s:r.kind≠1→r.kind≠2→r.kind≠3→r.rd = -1∧r.wr = -1
  p:r.kind≠2→r.kind≠5→r.pf=0∧r.pt=0
  b:r.kind≠3→r.resp=[]
  d:r.kind≠5→r.dir=0
  n:r.kind≠4→r.pos=0∧r.left=[]∧r.right=[]
  t:¬ (r.kind=4∧top=4)→r.parent=[]
theorem unused_emp (r:Ru) (top:Int):Ky r top=false↔Emp r top:=by
  unfold Ky
  constructor
  · intro h
    split at h
    · cases h
    rename_i h1
    split at h
    · cases h
    rename_i h2
    split at h
    · cases h
    rename_i h3
    split at h
    · cases h
    rename_i h4
    split at h
    · cases h
    rename_i h5
    rw [decide_eq_false_iff_not] at h
    simp only [not_and,not_or,Decidable.not_not] at h1 h2 h3 h4 h5 h
    exact ⟨h1,h2,h3,h4.1,h4.2,h5,fun hk=>Decidable.byContradiction fun hn=>by simp_all⟩
  rintro ⟨g,s,p,b,d,n,t⟩
  rw [if_neg (by rintro ⟨hk,h⟩;have:=g hk;simp_all),if_neg (by rintro ⟨h1,h2,h3,h⟩;have:=s h1 h2 h3;simp_all),if_neg (by rintro ⟨h1,h2,h⟩;have:=p h1 h2;simp_all),
    if_neg (by rintro (⟨h1,h⟩ | ⟨h1,h⟩)<;>simp_all),if_neg (by rintro ⟨h1,h⟩;have:=n h1;simp_all),decide_eq_false_iff_not]
  rintro ⟨h1,h2⟩
  exact h1 (t h2)
theorem oth_emp (r:Ru) (top:Int) (hk:r.kind=1∨r.kind=2∨r.kind=3∨r.kind=4∨r.kind=5):othB r top=true↔Emp r top:=by
  unfold othB
  rw [samP_iff]
  obtain ⟨nm,kind,frm,tt,pf,pt,resp,guards,ex,fa,rd,wr,send,pos,left,right,parent,dir⟩:=r
  unfold bare plainR
  dsimp only at hk ⊢
  rcases hk with rfl | rfl | rfl | rfl | rfl
  · simp only [if_pos]
    constructor
    · rintro ⟨-,-,-,h1,h2,h3,-,-,-,-,-,-,h4,h5,h6,h7,h8⟩
      exact ⟨by simp,by simp,fun _ _=>⟨h1,h2⟩,fun _=>h3,fun _=>h8,fun _=>⟨h4,h5,h6⟩,fun _=>h7⟩
    rintro ⟨g,s,p,b,d,n,t⟩
    have:=p (by simp) (by simp);have:=n (by simp);have:=b (by simp);have:=d (by simp);have:=t (by simp)
    simp_all
  · simp only [show ¬ ((2:Int)=1) by omega,if_pos,if_neg,not_false_eq_true]
    constructor
    · rintro ⟨-,-,-,-,-,h3,h9,h10,h11,-,-,h12,h4,h5,h6,h7,h8⟩
      exact ⟨fun _=>⟨h9,h10,h11,h12⟩,by simp,by simp,fun _=>h3,fun _=>h8,fun _=>⟨h4,h5,h6⟩,fun _=>h7⟩
    rintro ⟨g,s,p,b,d,n,t⟩
    have:=g (by simp);have:=n (by simp);have:=b (by simp);have:=d (by simp);have:=t (by simp)
    simp_all
  · simp only [show ¬ ((3:Int)=1) by omega,show ¬ ((3:Int)=2) by omega,if_pos,if_neg,not_false_eq_true]
    constructor
    · rintro ⟨-,-,-,h1,h2,-,h9,h10,h11,-,-,h12,h4,h5,h6,h7,h8⟩
      exact ⟨fun _=>⟨h9,h10,h11,h12⟩,by simp,fun _ _=>⟨h1,h2⟩,by simp,fun _=>h8,fun _=>⟨h4,h5,h6⟩,fun _=>h7⟩
    rintro ⟨g,s,p,b,d,n,t⟩
    have:=g (by simp);have:=n (by simp);have:=p (by simp) (by simp);have:=d (by simp);have:=t (by simp)
    simp_all
  · simp only [show ¬ ((4:Int)=1) by omega,show ¬ ((4:Int)=2) by omega,show ¬ ((4:Int)=3) by omega,if_pos,if_neg,not_false_eq_true]
    by_cases ht:top=4
    · simp only [if_pos ht]
      constructor
      · rintro ⟨-,-,-,h1,h2,h3,h9,h10,h11,h13,h14,h12,-,-,-,-,h8⟩
        exact ⟨fun _=>⟨h9,h10,h11,h12⟩,fun _ _ _=>⟨h13,h14⟩,fun _ _=>⟨h1,h2⟩,fun _=>h3,fun _=>h8,by simp,by simp [ht]⟩
      rintro ⟨g,s,p,b,d,n,t⟩
      have:=g (by simp);have:=s (by simp) (by simp) (by simp);have:=p (by simp) (by simp);have:=b (by simp);have:=d (by simp)
      simp_all
    simp only [if_neg ht]
    constructor
    · rintro ⟨-,-,-,h1,h2,h3,h9,h10,h11,h13,h14,h12,-,-,-,h7,h8⟩
      exact ⟨fun _=>⟨h9,h10,h11,h12⟩,fun _ _ _=>⟨h13,h14⟩,fun _ _=>⟨h1,h2⟩,fun _=>h3,fun _=>h8,by simp,fun _=>h7⟩
    rintro ⟨g,s,p,b,d,n,t⟩
    have:=g (by simp);have:=s (by simp) (by simp) (by simp);have:=p (by simp) (by simp);have:=b (by simp);have:=d (by simp);have:=t (by simp [ht])
    simp_all
  simp only [show ¬ ((5:Int)=1) by omega,show ¬ ((5:Int)=2) by omega,show ¬ ((5:Int)=3) by omega,show ¬ ((5:Int)=4) by omega,if_pos,if_neg,not_false_eq_true]
  constructor
  · rintro ⟨-,-,-,-,-,h3,h9,h10,h11,h13,h14,h12,h4,h5,h6,h7,-⟩
    exact ⟨fun _=>⟨h9,h10,h11,h12⟩,fun _ _ _=>⟨h13,h14⟩,by simp,fun _=>h3,by simp,fun _=>⟨h4,h5,h6⟩,fun _=>h7⟩
  rintro ⟨g,s,p,b,d,n,t⟩
  have:=g (by simp);have:=s (by simp) (by simp) (by simp);have:=b (by simp);have:=n (by simp);have:=t (by simp)
  simp_all
theorem kind_of_fit {kind top:Int} (h:fitB kind top=true):kind=1∨kind=2∨kind=3∨kind=4∨kind=5:=by
  unfold fitB at h;split at h
  · omega
  split at h
  · omega
  cases h
theorem fit_eq (r:Ru) (top:Int):(fitB r.kind top&&othB r top)=rkindB r top:=by
  unfold rkindB
  by_cases hk:r.kind=1∨r.kind=2∨r.kind=3∨r.kind=4∨r.kind=5
  · have e:othB r top = !Ky r top:=by
      rw [Bool.eq_iff_iff,oth_emp r top hk,← unused_emp];simp
    have e2:inB 1 5 r.kind=true:=by unfold inB;simp;omega
    rw [e,e2,Bool.true_and]
    congr 1
    unfold fitB
    by_cases h3:r.kind≤3
    · rw [if_pos (by omega),decide_eq_true h3];by_cases ht:top=1<;>simp [ht]
    rw [if_neg (by omega),if_pos (by omega),decide_eq_false h3];by_cases ht:top=1<;>simp [ht]
  have e2:inB 1 5 r.kind=false:=by unfold inB;simp;omega
  have e3:fitB r.kind top=false:=by unfold fitB;rw [if_neg (by omega),if_neg (by omega)]
  rw [e2,e3];simp
theorem rule_eq (q:Fm) (i:Nat) (r:Ru) (hs:q.states≠[]):ruleE q i r=rruleE q i r:=by
  unfold ruleE rruleE
  have hn:0<q.states.length:=List.length_pos_iff.2 hs
  by_cases h1:nameB r.nm.toList=false∨hasR (q.rules.take i) r.nm=true
  · rw [if_pos h1,if_pos h1]
  rw [if_neg h1,if_neg h1]
  have hf:=fit_eq r q.top
  cases hr:rkindB r q.top with
  | false =>
    rw [hr] at hf
    rw [if_pos (by cases hA:fitB r.kind q.top<;>cases hB:othB r q.top<;>simp_all),if_pos rfl]
  | true =>
    rw [hr,Bool.and_eq_true] at hf
    obtain ⟨hf,ho⟩:=hf
    have hk:=kind_of_fit hf
    have he:=(oth_emp r q.top hk).1 ho
    rw [if_neg (by rw [hf,ho];simp),if_neg (by simp:¬ (true=false))]
    obtain ⟨g,s,p,b,d,n,t⟩:=he
    have z0:ixB q.states.length 0=true:=by unfold ixB inB;simp;omega
    have hst:stB r q.states.length=rstB r q.states.length:=by
      unfold stB rstB
      by_cases hk2:r.kind=2∨r.kind=5
      · have:(decide (r.kind=2)||decide (r.kind=5))=true:=by simpa using hk2
        rw [this];simp [Bool.and_assoc]
      have e:=p (by omega) (by omega)
      have:(decide (r.kind=2)||decide (r.kind=5))=false:=by simpa using hk2
      rw [this,e.1,e.2,z0];simp
    rw [hst]
    by_cases hb:rstB r q.states.length=false
    · rw [if_pos hb,if_pos hb]
    rw [if_neg hb,if_neg hb]
    unfold partE rpartE
    rcases hk with hk | hk | hk | hk | hk
    · have e1:=n (by omega);have e2:=t (by omega)
      rw [hk,e1.2.1,e1.2.2,e2]
      simp [KG,ZL,Kg]
    · have e0:=g (by omega);have e1:=n (by omega);have e2:=t (by omega)
      rw [hk,e0.1,e0.2.1,e0.2.2.1,e0.2.2.2,e1.2.1,e1.2.2,e2]
      simp [KG,ZL,Kg,guardE_nil]
    · have e0:=g (by omega);have e1:=n (by omega);have e2:=t (by omega)
      rw [hk,e0.1,e0.2.1,e0.2.2.1,e0.2.2.2,e1.2.1,e1.2.2,e2]
      simp [KG,ZL,Kg,guardE_nil]
    · have e0:=g (by omega);have e1:=s (by omega) (by omega) (by omega)
      rw [hk,e0.1,e0.2.1,e0.2.2.1,e0.2.2.2,e1.1,e1.2]
      simp [KG,ZL,Kg,guardE_nil,shE_none]
    have e0:=g (by omega);have e1:=s (by omega) (by omega) (by omega);have e2:=n (by omega);have e3:=t (by omega)
    rw [hk,e0.1,e0.2.1,e0.2.2.1,e0.2.2.2,e1.1,e1.2,e2.2.1,e2.2.2,e3]
    simp [KG,ZL,guardE_nil,shE_none]
def addT (l:List Th) (g:Th):List Th:=if g∈l then l else l++[g]
def diffG (rs:List Ru):List Th:=rs.foldl (fun l r=>r.guards.foldl addT l) []
def rulesE (q:Fm):Nat→Nat→Int
  | _,0=>0
  | i,f+1=>if ruleE q i (q.rules.getD i default)=0 then rulesE q (i+1) f else ruleE q i (q.rules.getD i default)
def cliB (q:Fm):Bool:=decide (0<q.msgs.length)||decide (0<q.vals.length)||decide (0<q.res.length)||decide (q.fault≠0)
def valE (q:Fm):Int :=
  if nameB q.nm.toList=false then 2
  else if inB 1 4 q.top=false∨inB 0 3 q.fault=false then 1
  else if q.states.length=0 then 1
  else if tooB q=true then 4
  else if nmOk (q.states++(q.msgs++q.vals)) (q.states++(q.msgs++q.vals)).length=false then 2
  else if (q.top≠1∧cliB q=true)∨(q.top=1∧0<q.leader.length) then 1
  else if (q.res.any fun l => !smL l.c l.n l.t l.f)=true then 4
  else orE (if q.init.length=0 then 1 else setE q.states.length q.init) (orE (setE q.states.length q.leader) (orE (rulesE q 0 q.rules.length) (if 3<(diffG q.rules).length then 4 else 0)))
set_option maxHeartbeats 12800000
theorem setE_bad {n:Nat} {xs:List Int} {k:Nat} (h:k<xs.length) (hp:ixB n xs[k]=false):setE n xs=5:=by unfold setE;rw [if_pos (allK_no h hp)]
theorem setE_asc {n:Nat} {xs:List Int} {k:Nat} (ha:allK n xs xs.length=true) (h:k<xs.length) (h0:0<k) (hp:¬ xs.getD (k-1) 0<xs.getD k 0):setE n xs=1:=by
  unfold setE;rw [if_neg (by rw [ha];simp),if_pos (ascK_no h h0 hp)]
theorem setE_ok {n:Nat} {xs:List Int} (ha:allK n xs xs.length=true) (hb:ascK xs xs.length=true):setE n xs=0:=by
  unfold setE;rw [if_neg (by rw [ha];simp),if_neg (by rw [hb];simp)]
theorem ascK_le {xs:List Int} {k n:Nat} (h:ascK xs k=true) (hn:n≤k):ascK xs n=true:=by
  unfold ascK at *
  rw [List.all_eq_true] at *
  exact fun j hj=>h j (List.mem_range.2 (by have:=List.mem_range.1 hj;omega))
theorem setError_full (b off m cap n:Nat) (w:World) (xs:List Int) (hx:xs.length=m) (hm:m≤9223372036854775807) (hn:n≤9223372036854775807)
    (hc:∀ i,i<m→w.cell? ⟨b,off+i,none⟩=some (.int .i64 (xs.getD i 0))) :
    Calls Try.prog 81 #[.slice (some ⟨b,off,none⟩) m cap,.int .i64 n] w fun e w'=>e = .returned (.int .i64 (setE n xs))∧∃ q,w'=w.drewN q:=by
  have HC:=Lib.hid hc
  have HX:=Lib.hid hx
  clear hc hx
  go_enter Try.func81,Try.ntmps81
  go_wp2_with fail
  go_loop [10] (fun u=>∃ k:Nat,k≤m∧u = .int .i64 k∧allK n xs k=true) (fun u=>m-(intOf u).toNat)
  case atStart=>exact ⟨0,Nat.zero_le _,rfl,rfl⟩
  case round =>
    obtain ⟨k,hk,rfl,hs⟩:=hrel
    have HS:=Lib.hid hs
    clear hs
    by_cases hlt:k<m
    · have g1:=HC.out k hlt
      have hkx:k<xs.length:=by rw [HX.out];exact hlt
      have ex:xs.getD k 0=xs[k]:=by simp [List.getD,List.getElem?_eq_getElem hkx]
      have HE:=Lib.hid ex
      generalize hX:xs.getD k 0=x at g1 HE
      clear ex hX
      cases hp:ixB n x with
      | true =>
        have HP:=Lib.hid hp
        clear hp
        go_wp2_with (go_at_call 99;refine (ZI x n hn _).mono ?_;rintro e w1 ⟨rfl,rfl⟩;rw [HP.out])
        go_round
        case rel=>exact ⟨k+1,by omega,by go_num,allK_succ hkx HS.out (by rw [← HE.out];exact HP.out)⟩
        case measure=>simp [intOf];omega
      | false =>
        have HP:=Lib.hid hp
        clear hp
        go_wp2_with (go_at_call 99;refine (ZI x n hn _).mono ?_;rintro e w1 ⟨rfl,rfl⟩;rw [HP.out])
        go_ret
        exact ⟨Zz (by rw [setE_bad hkx (by rw [← HE.out];exact HP.out)]),0,rfl⟩
    have HA:Hid (allK n xs xs.length=true):=by show _=_;rw [HX.out];have:k=m:=by omega
                                               rw [← this];exact HS.out
    go_wp2_with fail
    go_loopw [7] (fun u wr=>∃ (k q:Nat),1≤k∧u = .int .i64 k∧(k≤m∨k=1)∧ascK xs k=true∧wr=w.drewN q) (fun u _=>m-(intOf u).toNat)
    case atStart=>exact ⟨1,0,Nat.le_refl _,rfl,.inr rfl,ascK_one xs,rfl⟩
    case round =>
      obtain ⟨k,q,hk1,rfl,hk2,hs,rfl⟩:=hrel
      have HS:=Lib.hid hs
      have HK:=Lib.hid hk2
      clear hs hk2
      by_cases hlt:k<m
      · have g1:=HC.out k hlt
        have g2:=HC.out (k-1) (by omega)
        have e1:off+(k-1)=off+k-1:=by omega
        have ei:((k:Int)-1).toNat=k-1:=by omega
        have p1:(0:Int)≤(k:Int)-1:=by omega
        have p2:(k:Int)-1<(m:Int):=by omega
        have p3:(k:Int)<(m:Int):=by omega
        have wn:IntKind.i64.wrap ((k:Int)-1)=(k:Int)-1:=IntWalk.i64_in _ (by omega)
        generalize hX:xs.getD k 0=x at g1
        generalize hY:xs.getD (k-1) 0=y at g2
        have HX':=Lib.hid hX
        have HY':=Lib.hid hY
        clear hX hY e1
        by_cases hp:y<x
        · have b1:decide (x≤y)=false:=by simpa using hp
          have HP:=Lib.hid hp
          clear hp
          go_wp2_with fail
          go_quiet (fail)
          go_wp2_with fail
          go_roundw
          case rel=>exact ⟨k+1,q+nq,by omega,by go_num,.inl (by omega),ascK_succ HS.out (by rw [HX'.out,HY'.out];exact HP.out),by first | rfl | rw [World.drewN_drewN]⟩
          case measure=>simp [intOf];omega
        have b1:decide (x≤y)=true:=by simp;omega
        have HP:=Lib.hid hp
        clear hp
        go_wp2_with fail
        go_quiet (fail)
        go_wp2_with fail
        go_ret
        exact ⟨Zz (by rw [setE_asc HA.out (k:=k) (by rw [HX.out];exact hlt) hk1 (by rw [HX'.out,HY'.out];have:=HP.out;omega)]),q+nq,by first | rfl | rw [World.drewN_drewN]⟩
      have HE:=Lib.hid (setE_ok HA.out (ascK_le HS.out (by rw [HX.out];have:=HK.out;omega)))
      go_wp2_with fail
      go_ret
      exact ⟨Zz (by rw [HE.out]),q,rfl⟩
theorem setError_empty (a:Option Addr) (cap n:Nat) (w:World) :
    Calls Try.prog 81 #[.slice a 0 cap,.int .i64 n] w fun e w'=>e = .returned (.int .i64 (setE n []))∧∃ q,w'=w.drewN q:=by
  rw [KG]
  go_enter Try.func81,Try.ntmps81
  go_wp2_with fail
  refine wp_loop_rounds 1 ?_
  rw [rounds_succ]
  go_wp2_with fail
  refine wp_loop_rounds 1 ?_
  rw [rounds_succ]
  go_wp2_with fail
  go_ret
  exact ⟨rfl,0,rfl⟩
theorem setError_q {lo:Nat} {w:World} {v:Value} {xs:List Int} (n:Nat) (hn:n≤9223372036854775807) (h:IsInts lo w v xs) :
    Calls Try.prog 81 #[v,.int .i64 n] w fun e w'=>e = .returned (.int .i64 (setE n xs))∧∃ q,w'=w.drewN q:=by
  obtain ⟨a,cap,rfl,hl,hm,hi,hc⟩:=h
  unfold maxLen at hm
  rcases hc with rfl | ⟨b,off,rfl,_,_,hc⟩
  · exact setError_empty _ _ _ _
  exact setError_full _ _ _ _ _ _ _ rfl (by omega) hn hc
theorem Yu {lo:Nat} {w:World} {v:Value} {xs:List Int} (n:Nat) (hn:n≤9223372036854775807) (h:IsInts lo w v xs) :
    Calls Try.prog 81 #[v,.int .i64 n] w fun e w'=>e = .returned (.int .i64 (setE n xs))∧Below w.heap.size w w' :=
  (setError_q n hn h).mono fun _ _ ⟨h1,q,h2⟩=>⟨h1,by rw [h2];exact quietBelow (Below.refl _ _) q⟩
def someE (n:Nat) (xs:List Int):Int:=if xs.length=0 then 1 else setE n xs
theorem someSetError_any {lo:Nat} {w:World} {v:Value} {xs:List Int} (n:Nat) (hn:n≤9223372036854775807) (h:IsInts lo w v xs) :
    Calls Try.prog 80 #[v,.int .i64 n] w fun e w'=>e = .returned (.int .i64 (someE n xs))∧Below w.heap.size w w':=by
  have H:=Lib.hid h
  have hbd:xs.length≤9223372036854775807:=by obtain ⟨_,_,_,hh,hm,_⟩:=h;unfold maxLen at hm;omega
  obtain ⟨a,cap,rfl⟩:=h.shape
  clear h
  by_cases h0:xs.length=0
  · have E:=Lib.hid (show someE n xs=1 from if_pos h0)
    have b0:((xs.length:Int)==0)=true:=by rw [h0];rfl
    clear h0
    go_enter Try.func80,Try.ntmps80
    go_wp2_with fail
    go_ret
    exact ⟨Zz (by rw [E.out]),Below.refl _ _⟩
  have E:=Lib.hid (show someE n xs=setE n xs from if_neg h0)
  have b0:((xs.length:Int)==0)=false:=by rw [beq_eq_false_iff_ne];omega
  clear h0
  go_enter Try.func80,Try.ntmps80
  go_wp2_with (go_at_call 81;refine (Yu n hn H.out).mono ?_;rintro e w1 ⟨rfl,hb1⟩)
  go_ret
  exact ⟨Zz (by rw [E.out]),hb1⟩
theorem rSet_full (b off m cap n:Nat) (w:World) (xs:List Int) (hx:xs.length=m) (hm:m≤9223372036854775807) (hn:n≤9223372036854775807)
    (hc:∀ i,i<m→w.cell? ⟨b,off+i,none⟩=some (.int .i64 (xs.getD i 0))) :
    Calls Try.prog 56 #[.slice (some ⟨b,off,none⟩) m cap,.int .i64 n] w fun e w'=>e = .returned (.int .i64 (setE n xs))∧∃ q,w'=w.drewN q:=by
  have HC:=Lib.hid hc
  have HX:=Lib.hid hx
  clear hc hx
  go_enter Try.func56,Try.ntmps56
  go_wp2_with fail
  go_loop [5] (fun u=>∃ k:Nat,k≤m∧u = .int .i64 k∧allK n xs k=true) (fun u=>m-(intOf u).toNat)
  case atStart=>exact ⟨0,Nat.zero_le _,rfl,rfl⟩
  case round =>
    obtain ⟨k,hk,rfl,hs⟩:=hrel
    have HS:=Lib.hid hs
    clear hs
    by_cases hlt:k<m
    · have g1:=HC.out k hlt
      have hkx:k<xs.length:=by rw [HX.out];exact hlt
      have ex:xs.getD k 0=xs[k]:=by simp [List.getD,List.getElem?_eq_getElem hkx]
      have HE:=Lib.hid ex
      generalize hX:xs.getD k 0=x at g1 HE
      clear ex hX
      cases hp:ixB n x with
      | true =>
        have HP:=Lib.hid hp
        clear hp
        go_wp2_with (go_at_call 53;refine (YS x 0 ((n:Int)-1) _).mono ?_;rintro e w1 ⟨rfl,rfl⟩;rw [show inB 0 ((n:Int)-1) x=_ from HP.out])
        go_round
        case rel=>exact ⟨k+1,by omega,by go_num,allK_succ hkx HS.out (by rw [← HE.out];exact HP.out)⟩
        case measure=>simp [intOf];omega
      | false =>
        have HP:=Lib.hid hp
        clear hp
        go_wp2_with (go_at_call 53;refine (YS x 0 ((n:Int)-1) _).mono ?_;rintro e w1 ⟨rfl,rfl⟩;rw [show inB 0 ((n:Int)-1) x=_ from HP.out])
        go_ret
        exact ⟨Zz (by rw [setE_bad hkx (by rw [← HE.out];exact HP.out)]),0,rfl⟩
    have HA:Hid (allK n xs xs.length=true):=by show _=_;rw [HX.out];have:k=m:=by omega
                                               rw [← this];exact HS.out
    go_wp2_with fail
    go_loopw [6] (fun u wr=>∃ (k q:Nat),1≤k∧u = .int .i64 k∧(k≤m∨k=1)∧ascK xs k=true∧wr=w.drewN q) (fun u _=>m-(intOf u).toNat)
    case atStart=>exact ⟨1,0,Nat.le_refl _,rfl,.inr rfl,ascK_one xs,rfl⟩
    case round =>
      obtain ⟨k,q,hk1,rfl,hk2,hs,rfl⟩:=hrel
      have HS:=Lib.hid hs
      have HK:=Lib.hid hk2
      clear hs hk2
      by_cases hlt:k<m
      · have g1:=HC.out k hlt
        have g2:=HC.out (k-1) (by omega)
        have e1:off+(k-1)=off+k-1:=by omega
        have ei:((k:Int)-1).toNat=k-1:=by omega
        have p1:(0:Int)≤(k:Int)-1:=by omega
        have p2:(k:Int)-1<(m:Int):=by omega
        have p3:(k:Int)<(m:Int):=by omega
        have wn:IntKind.i64.wrap ((k:Int)-1)=(k:Int)-1:=IntWalk.i64_in _ (by omega)
        generalize hX:xs.getD k 0=x at g1
        generalize hY:xs.getD (k-1) 0=y at g2
        have HX':=Lib.hid hX
        have HY':=Lib.hid hY
        clear hX hY e1
        by_cases hp:y<x
        · have b1:decide (x≤y)=false:=by simpa using hp
          have HP:=Lib.hid hp
          clear hp
          go_wp2_with fail
          go_quiet (fail)
          go_wp2_with fail
          go_roundw
          case rel=>exact ⟨k+1,q+nq,by omega,by go_num,.inl (by omega),ascK_succ HS.out (by rw [HX'.out,HY'.out];exact HP.out),by first | rfl | rw [World.drewN_drewN]⟩
          case measure=>simp [intOf];omega
        have b1:decide (x≤y)=true:=by simp;omega
        have HP:=Lib.hid hp
        clear hp
        go_wp2_with fail
        go_quiet (fail)
        go_wp2_with fail
        go_ret
        exact ⟨Zz (by rw [setE_asc HA.out (k:=k) (by rw [HX.out];exact hlt) hk1 (by rw [HX'.out,HY'.out];have:=HP.out;omega)]),q+nq,by first | rfl | rw [World.drewN_drewN]⟩
      have HE:=Lib.hid (setE_ok HA.out (ascK_le HS.out (by rw [HX.out];have:=HK.out;omega)))
      go_wp2_with fail
      go_ret
      exact ⟨Zz (by rw [HE.out]),q,rfl⟩
theorem rSet_empty (a:Option Addr) (cap n:Nat) (w:World) :
    Calls Try.prog 56 #[.slice a 0 cap,.int .i64 n] w fun e w'=>e = .returned (.int .i64 (setE n []))∧∃ q,w'=w.drewN q:=by
  rw [KG]
  go_enter Try.func56,Try.ntmps56
  go_wp2_with fail
  refine wp_loop_rounds 1 ?_
  rw [rounds_succ]
  go_wp2_with fail
  refine wp_loop_rounds 1 ?_
  rw [rounds_succ]
  go_wp2_with fail
  go_ret
  exact ⟨rfl,0,rfl⟩
theorem rSet_q {lo:Nat} {w:World} {v:Value} {xs:List Int} (n:Nat) (hn:n≤9223372036854775807) (h:IsInts lo w v xs) :
    Calls Try.prog 56 #[v,.int .i64 n] w fun e w'=>e = .returned (.int .i64 (setE n xs))∧∃ q,w'=w.drewN q:=by
  obtain ⟨a,cap,rfl,hl,hm,hi,hc⟩:=h
  unfold maxLen at hm
  rcases hc with rfl | ⟨b,off,rfl,_,_,hc⟩
  · exact rSet_empty _ _ _ _
  exact rSet_full _ _ _ _ _ _ _ rfl (by omega) hn hc
theorem rSet_any {lo:Nat} {w:World} {v:Value} {xs:List Int} (n:Nat) (hn:n≤9223372036854775807) (h:IsInts lo w v xs) :
    Calls Try.prog 56 #[v,.int .i64 n] w fun e w'=>e = .returned (.int .i64 (setE n xs))∧Below w.heap.size w w' :=
  (rSet_q n hn h).mono fun _ _ ⟨h1,q,h2⟩=>⟨h1,by rw [h2];exact quietBelow (Below.refl _ _) q⟩
theorem U3:type_of% Try.underlying3:=Try.underlying3
theorem U4:type_of% Try.underlying4:=Try.underlying4
theorem U9:type_of% Try.underlying9:=Try.underlying9
theorem U22:type_of% Try.underlying22:=Try.underlying22
theorem U23:type_of% Try.underlying23:=Try.underlying23
theorem U24:type_of% Try.underlying24:=Try.underlying24
theorem U25:type_of% Try.underlying25:=Try.underlying25
theorem U27:type_of% Try.underlying27:=Try.underlying27
theorem U29:type_of% Try.underlying29:=Try.underlying29
theorem U31:type_of% Try.underlying31:=Try.underlying31
theorem U33:type_of% Try.underlying33:=Try.underlying33
theorem U35:type_of% Try.underlying35:=Try.underlying35
theorem U51:type_of% Try.underlying51:=Try.underlying51
theorem U57:type_of% Try.underlying57:=Try.underlying57
theorem U63:type_of% Try.underlying63:=Try.underlying63
theorem U65:type_of% Try.underlying65:=Try.underlying65
theorem U69:type_of% Try.underlying69:=Try.underlying69
theorem U74:type_of% Try.underlying74:=Try.underlying74
theorem U76:type_of% Try.underlying76:=Try.underlying76
theorem U78:type_of% Try.underlying78:=Try.underlying78
theorem U96:type_of% Try.underlying96:=Try.underlying96
theorem U99:type_of% Try.underlying99:=Try.underlying99
theorem U107:type_of% Try.underlying107:=Try.underlying107
theorem U108:type_of% Try.underlying108:=Try.underlying108
theorem U109:type_of% Try.underlying109:=Try.underlying109
theorem U111:type_of% Try.underlying111:=Try.underlying111
theorem U122:type_of% Try.underlying122:=Try.underlying122
theorem U128:type_of% Try.underlying128:=Try.underlying128
variable {J:World→Prop}
structure RuLen (r:Ru):Prop where
  resp:r.resp.length≤17592186044416
  guards:r.guards.length≤1000000000
  ex:r.ex.length≤17592186044416
  fa:r.fa.length≤17592186044416
  send:r.send.length≤17592186044416
  left:r.left.length≤17592186044416
  right:r.right.length≤17592186044416
  parent:r.parent.length≤17592186044416
end Go.Proofs.Ytengacodacejiaa
