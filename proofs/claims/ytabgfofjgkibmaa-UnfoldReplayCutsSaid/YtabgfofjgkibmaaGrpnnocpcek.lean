import Derived.Great.BuildSlice
import Derived.Laws.Small
import Derived.Laws.StructEq
import Derived.Test.YtabgfofjgkibmaaProg
import Derived.WalkSpells
import Derived.WalkLawsBesides
import Derived.Deep.QuietTactic
import Derived.BigQuiet
import Derived.Lib.Hide
import Derived.LoopTactic
import Derived.WalkKit
import Derived.Laws.AppendOwnNone
import Derived.Deep.RegionWith
import Derived.StillTailTactics
import Derived.Deep.RegionHeld3
import Derived.Lib.AppendZeros
import Derived.Lib.Walk
import Derived.Outline
import Derived.Laws.RangeString
import Derived.Laws.RangeAny
import Derived.Test.YtabgfofjgkibmaaGrpnedhclko
import Derived.Test.YtabgfofjgkibmaaGrpfiakmkfi
set_option linter.all false
namespace Go.Proofs.Ytabgfofjgkibmaa
open Go.RowKit Go.Deep
variable {J:World→Prop}
def FitsL (t:ATm):List (Operand × AV)→Prop
  | []=>True
  | p::ps=>Fits (aev t p.1) p.2∧FitsL t ps
theorem FitsL.all {t:ATm}:∀ {l:List (Operand × AV)},FitsL t l→∀ p∈l,Fits (aev t p.1) p.2
  | [],_,p,hp=>by cases hp
  | q::l,h,p,hp=>by
    rcases List.mem_cons.1 hp with rfl | hp
    · exact h.1
    exact FitsL.all h.2 p hp
def RdL (h:AHeap):List (Nat × ABlk)→Prop
  | []=>True
  | p::ps=>h p.1=some p.2∧RdL h ps
theorem RdL.all {h:AHeap}:∀ {l:List (Nat × ABlk)},RdL h l→∀ p∈l,h p.1=some p.2
  | [],_,p,hp=>by cases hp
  | q::l,hh,p,hp=>by
    rcases List.mem_cons.1 hp with rfl | hp
    · exact hh.1
    exact RdL.all hh.2 p hp
def EfOk (h:AHeap):Ef→Prop
  | .no=>True
  | .new k _=>((h k).isNone&&Nat.blt k hand)=true
  | .st k _=>(h k).isSome=true
  | .ap k _=>((h k).isSome&&Nat.blt k hand)=true
theorem EfOk.fresh {h:AHeap} {e:Ef} (H:EfOk h e):∀ k X,e = .new k X→h k=none:=by
  rintro k X rfl
  have:((h k).isNone&&Nat.blt k hand)=true:=H
  rw [Bool.and_eq_true,Option.isNone_iff_eq_none] at this
  exact this.1
theorem EfOk.low {h:AHeap} {e:Ef} (H:EfOk h e):e.low=true:=by
  cases e with
  | no=>rfl
  | st k X=>rfl
  | new k X=>exact (Bool.and_eq_true _ _ ▸ (show ((h k).isNone&&Nat.blt k hand)=true from H)).2
  | ap k X=>exact (Bool.and_eq_true _ _ ▸ (show ((h k).isSome&&Nat.blt k hand)=true from H)).2
theorem EfOk.there {h:AHeap} {e:Ef} (H:EfOk h e):∀ k,e.old=some k→(h k).isSome=true:=by
  intro k hk
  cases e with
  | no=>cases hk
  | new _ _=>cases hk
  | st j X=>cases hk;exact H
  | ap j X=>cases hk;exact (Bool.and_eq_true _ _ ▸ (show ((h k).isSome&&Nat.blt k hand)=true from H)).1
section
variable {P:Program} {w0:Wb} {h:AHeap} {t:ATm} {Q:Exit→Act→World→Prop} {ops:Array Oper} {o:Oper} {rest:List Oper}
theorem ZM {args:List (Operand × AV)} {rd:List (Nat × ABlk)} {u:AV} {e:Ef} (hg:o.guard=none) (hs:ASpec P J o args rd u e) (hf:FitsL t args) (hr:RdL h rd) (he:EfOk h e)
    (H:ETri J w0 (e.heap h) (aput (e.slots t) o.dst u) (wpList P ops Q rest)):ETri J w0 h t (wpList P ops Q (o::rest)) :=
  tri_op hg ⟨args,rd,hs,hf.all,hr.all,he.fresh,he.there,he.low⟩ H
theorem t_opG {args:List (Operand × AV)} {rd:List (Nat × ABlk)} {u:AV} {e:Ef} (hg:awanted ops o t=some true) (hs:ASpec P J o args rd u e) (hf:FitsL t args) (hr:RdL h rd) (he:EfOk h e)
    (H:ETri J w0 (e.heap h) (aput (e.slots t) o.dst u) (wpList P ops Q rest)):ETri J w0 h t (wpList P ops Q (o::rest)):=fun ρ a w s=>by
  unfold wpList
  rw [awanted_sat s hg,if_pos rfl]
  exact .inl (s.step ⟨args,rd,hs,hf.all,hr.all,he.fresh,he.there,he.low⟩ fun ρ' a' w' s'=>H ρ' a' w' s')
theorem t_skip (hg:awanted ops o t=some false) (H:ETri J w0 h (aput t o.dst (.v undef)) (wpList P ops Q rest)):ETri J w0 h t (wpList P ops Q (o::rest)):=fun ρ a w s=>by
  unfold wpList
  rw [awanted_sat s hg,if_neg (by simp)]
  exact H ρ _ w ⟨s.wf,s.hH,s.bel,s.inv,s.hp,s.dom,s.pin,by rw [put_size,aput_n];exact s.tl,rel_put _ s.tl s.tm (.pu (.v _)),by rw [Ko];exact s.df,s.gh⟩
theorem app_yes {c:Cl} (hg:awanted ops o t=some true) (hs:ASpec P J o c.args c.rd c.u c.e) (hf:FitsL t c.args) (hr:RdL h c.rd) (he:EfOk h c.e):App P J ops o c h t := .inl ⟨hg,hs,hf.all,hr.all,he.fresh,he.there,he.low⟩
theorem app_no (hg:awanted ops o t=some false):App P J ops o ⟨[],[],.v undef,.no⟩ h t := .inr ⟨hg,rfl⟩
theorem Zd {K:Act→World→Prop} (H:ETri J w0 h t K):ETri J w0 h t (Exit.then K Q .normal):=H
theorem Zy {K:Act→World→Prop} {id:Nat} (H:ETri J w0 h t (Q (.exit id))):ETri J w0 h t (Exit.then K Q (.exit id)):=H
theorem Zj {K:Act→World→Prop} (H:ETri J w0 h t (Q .ret)):ETri J w0 h t (Exit.then K Q .ret):=H
theorem ZU {id:Nat} (H:ETri J w0 h t (Q .normal)):ETri J w0 h t (Exit.inBlock id Q .normal):=H
theorem ZJ {id:Nat} (H:ETri J w0 h t (Q .ret)):ETri J w0 h t (Exit.inBlock id Q .ret):=H
theorem t_hit {id:Nat} (H:ETri J w0 h t (Q .normal)):ETri J w0 h t (Exit.inBlock id Q (.exit id)):=fun ρ a w s=>by
  simp only [Exit.inBlock,if_true];exact H ρ a w s
theorem Zq {c:Operand} {x y:Code} (hc:aev t c = .v (.bool true)) (H:ETri J w0 h t (x.wp P Q)):ETri J w0 h t ((Code.cond c x y).wp P Q):=tri_cond hc H
theorem Zs {c:Operand} {x y:Code} (hc:aev t c = .v (.bool false)) (H:ETri J w0 h t (y.wp P Q)):ETri J w0 h t ((Code.cond c x y).wp P Q):=tri_cond hc H
end
def CutQ (J:World→Prop) (w0:Wb) (p:Prop) (h:AHeap) (t:ATm) (Q:Exit→Act→World→Prop):Exit→Act→World→Prop
  | .normal,a,w=>p∧∃ ρ,Sat J w0 ρ h t a w
  | e,a,w=>Q e a w
section
variable {P:Program} {w0:Wb} {h h':AHeap} {t t':ATm} {Q:Exit→Act→World→Prop} {p:Prop}
theorem t_cut {x:Code} (p:Prop) (h':AHeap) (t':ATm) (H1:ETri J w0 h t (x.wp P (CutQ J w0 p h' t' Q))) (H2:p→ETri J w0 h' t' (Q .normal)):ETri J w0 h t (x.wp P Q):=fun ρ a w s =>
  wp_mono (H1 ρ a w s) fun e a w hq=>by
    cases e with
    | normal=>obtain ⟨hp,ρ',s'⟩:=hq;exact H2 hp ρ' a w s'
    | exit id=>exact hq
    | goto l=>exact hq
    | ret=>exact hq
    | panic ch=>exact hq
    | outgrown=>exact hq
theorem Y1 (hp:p) (k:Wk h t h' t'):ETri J w0 h t (CutQ J w0 p h' t' Q .normal):=fun ρ a w s=>⟨hp,k J w0 ρ a w s⟩
end
theorem dT {p:Prop} [Decidable p] (h:p):decide p=true:=decide_eq_true h
theorem dF {p:Prop} [Decidable p] (h:¬ p):decide p=false:=decide_eq_false h
theorem dF' {p:Prop} [Decidable p] (h:¬ p):decide p = !true:=decide_eq_false h
theorem dT' {p:Prop} [Decidable p] (h:p):decide p = !false:=decide_eq_true h
theorem T0:True:=trivial
theorem I0 {X:AV}:Fits X X := .inl rfl
section
variable {P:Program} {w0:Wb} {h:AHeap} {t:ATm} {Q:Exit→Act→World→Prop} {ops:Array Oper} {o:Oper} {rest:List Oper}
theorem kW {Φ:Act→World→Prop} (n:Nat) (L:List (Nat × ABlk)) (T:List (Nat × AV)) (H:ETri J w0 (ofL L) (ofT n T) Φ) (hn:t.n=n:=by rfl) (hL:L.map (fun p=>(h p.1).map (ABlk.wk (keepL L) h))=L.map (fun p=>some p.2):=by kernel_rfl) (hT:T.map (fun p=>(t.f p.1).wk3 (keepL L) h)=T.map (·.2):=by kernel_rfl):ETri J w0 h t Φ:=Yw (ZC L T hn hL hT) H
theorem kN (n:Nat) (L:List (Nat × ABlk)) (T:List (Nat × AV)) (H:ETri J w0 (ofL L) (ofT n T) (Q .normal)) (hn:t.n=n:=by rfl) (hL:L.map (fun p=>(h p.1).map (ABlk.wk (keepL L) h))=L.map (fun p=>some p.2):=by kernel_rfl) (hT:T.map (fun p=>(t.f p.1).wk3 (keepL L) h)=T.map (·.2):=by kernel_rfl):ETri J w0 h t (wpList P ops Q []):=Ze (kW n L T H hn hL hT)
variable {p p' p'':Operand × AV} {q:Nat × ABlk} {u:AV}
theorem oA (hs:ASpec P J o [p] [] u .no) (hf:Fits (aev t p.1) p.2) (H:ETri J w0 h (aput t o.dst u) (wpList P ops Q rest)) (hg:o.guard=none:=by rfl):ETri J w0 h t (wpList P ops Q (o::rest)):=ZM hg hs ⟨hf,trivial⟩ trivial trivial H
theorem oB (hs:ASpec P J o [p] [q] u .no) (hf:Fits (aev t p.1) p.2) (hr:h q.1=some q.2) (H:ETri J w0 h (aput t o.dst u) (wpList P ops Q rest)) (hg:o.guard=none:=by rfl):ETri J w0 h t (wpList P ops Q (o::rest)):=ZM hg hs ⟨hf,trivial⟩ ⟨hr,trivial⟩ trivial H
theorem oC (hs:ASpec P J o [p,p'] [] u .no) (hf:Fits (aev t p.1) p.2) (hf':Fits (aev t p'.1) p'.2) (H:ETri J w0 h (aput t o.dst u) (wpList P ops Q rest)) (hg:o.guard=none:=by rfl):ETri J w0 h t (wpList P ops Q (o::rest)):=ZM hg hs ⟨hf,hf',trivial⟩ trivial trivial H
theorem oD (hs:ASpec P J o [p,p',p''] [] u .no) (hf:Fits (aev t p.1) p.2) (hf':Fits (aev t p'.1) p'.2) (hf'':Fits (aev t p''.1) p''.2) (H:ETri J w0 h (aput t o.dst u) (wpList P ops Q rest)) (hg:o.guard=none:=by rfl):ETri J w0 h t (wpList P ops Q (o::rest)):=ZM hg hs ⟨hf,hf',hf'',trivial⟩ trivial trivial H
theorem gA (hs:ASpec P J o [p] [] u .no) (hf:Fits (aev t p.1) p.2) (H:ETri J w0 h (aput t o.dst u) (wpList P ops Q rest)) (hg:awanted ops o t=some true:=by rfl):ETri J w0 h t (wpList P ops Q (o::rest)):=t_opG hg hs ⟨hf,trivial⟩ trivial trivial H
theorem gB (hs:ASpec P J o [p] [q] u .no) (hf:Fits (aev t p.1) p.2) (hr:h q.1=some q.2) (H:ETri J w0 h (aput t o.dst u) (wpList P ops Q rest)) (hg:awanted ops o t=some true:=by rfl):ETri J w0 h t (wpList P ops Q (o::rest)):=t_opG hg hs ⟨hf,trivial⟩ ⟨hr,trivial⟩ trivial H
theorem gC (hs:ASpec P J o [p,p'] [] u .no) (hf:Fits (aev t p.1) p.2) (hf':Fits (aev t p'.1) p'.2) (H:ETri J w0 h (aput t o.dst u) (wpList P ops Q rest)) (hg:awanted ops o t=some true:=by rfl):ETri J w0 h t (wpList P ops Q (o::rest)):=t_opG hg hs ⟨hf,hf',trivial⟩ trivial trivial H
theorem gD (hs:ASpec P J o [p,p',p''] [] u .no) (hf:Fits (aev t p.1) p.2) (hf':Fits (aev t p'.1) p'.2) (hf'':Fits (aev t p''.1) p''.2) (H:ETri J w0 h (aput t o.dst u) (wpList P ops Q rest)) (hg:awanted ops o t=some true:=by rfl):ETri J w0 h t (wpList P ops Q (o::rest)):=t_opG hg hs ⟨hf,hf',hf'',trivial⟩ trivial trivial H
theorem fB {S:TypeId} {fs:Array Field} {f k off:Nat} {fl:Field} (off':Nat) (x:Operand) (ho:o.op = .fieldAddr S x f) (hu:P.underlying S=some (.struct fs)) (hf:fs[f]? = some fl) (z:Nat) (e:off+fl.offset=off') (hz:(P.info? fl.type).map (·.size)=some z:=by kernel_rfl) (h0:0<z:=by decide):ASpec P J o [(x,.box k off)] [] (.box k off') .no:=sp_fieldBox x ho hu hf hz h0 e
theorem lB {T:TypeId} {d:TypeDesc} {k off:Nat} (Y:ABlk) (X:AV) (x:Operand) (ho:o.op = .load T x) (hu:P.underlying T=some d) (hd:d.isRow=false) (hX:Y.cells[off]? = some X):ASpec P J o [(x,.box k off)] [(k,Y)] X .no:=sp_loadBox1 x ho hu hd hX
end
section
variable {P:Program} {w0:Wb} {h:AHeap} {t:ATm} {Q:Exit→Act→World→Prop} {Ψ:AHeap→ATm→Prop} {ops:Array Oper} {o:Oper} {rest:List Oper} {cs:List Cl}
variable {p p' p'':Operand × AV} {q:Nat × ABlk} {u:AV}
theorem pM (hs:ASpec P J o [p] [] u .no) (H:ETri J w0 h (aput t o.dst u) (wpList P ops Q rest)) (hf:Fits (aev t p.1) p.2:=by exact I0) (hg:o.guard=none:=by rfl):ETri J w0 h t (wpList P ops Q (o::rest)):=oA hs hf H hg
theorem pP (hs:ASpec P J o [p,p',p''] [] u .no) (H:ETri J w0 h (aput t o.dst u) (wpList P ops Q rest)) (hf:Fits (aev t p.1) p.2:=by exact I0) (hf':Fits (aev t p'.1) p'.2:=by exact I0) (hf'':Fits (aev t p''.1) p''.2:=by exact I0) (hg:o.guard=none:=by rfl):ETri J w0 h t (wpList P ops Q (o::rest)):=oD hs hf hf' hf'' H hg
theorem qM (hs:ASpec P J o [p] [] u .no) (H:ETri J w0 h (aput t o.dst u) (wpList P ops Q rest)) (hf:Fits (aev t p.1) p.2:=by exact I0) (hg:awanted ops o t=some true:=by rfl):ETri J w0 h t (wpList P ops Q (o::rest)):=gA hs hf H hg
theorem qP (hs:ASpec P J o [p,p',p''] [] u .no) (H:ETri J w0 h (aput t o.dst u) (wpList P ops Q rest)) (hf:Fits (aev t p.1) p.2:=by exact I0) (hf':Fits (aev t p'.1) p'.2:=by exact I0) (hf'':Fits (aev t p''.1) p''.2:=by exact I0) (hg:awanted ops o t=some true:=by rfl):ETri J w0 h t (wpList P ops Q (o::rest)):=gD hs hf hf' hf'' H hg
theorem dR {args:List (Operand × AV)} {rd:List (Nat × ABlk)} {e:Ef} (hs:ASpec P J o args rd u e) (hf:FitsL t args) (hr:RdL h rd) (he:EfOk h e) (H:chainC P J ops Ψ rest cs (e.heap h) (aput (e.slots t) o.dst u)) (hg:awanted ops o t=some true:=by rfl):chainC P J ops Ψ (o::rest) (⟨args,rd,u,e⟩::cs) h t:=⟨app_yes hg hs hf hr he,H⟩
theorem dA (hs:ASpec P J o [p] [] u .no) (hf:Fits (aev t p.1) p.2) (H:chainC P J ops Ψ rest cs h (aput t o.dst u)) (hg:awanted ops o t=some true:=by rfl):chainC P J ops Ψ (o::rest) (⟨[p],[],u,.no⟩::cs) h t:=dR hs ⟨hf,trivial⟩ trivial trivial H hg
theorem dB (hs:ASpec P J o [p] [q] u .no) (hf:Fits (aev t p.1) p.2) (hr:h q.1=some q.2) (H:chainC P J ops Ψ rest cs h (aput t o.dst u)) (hg:awanted ops o t=some true:=by rfl):chainC P J ops Ψ (o::rest) (⟨[p],[q],u,.no⟩::cs) h t:=dR hs ⟨hf,trivial⟩ ⟨hr,trivial⟩ trivial H hg
theorem dC (hs:ASpec P J o [p,p'] [] u .no) (hf:Fits (aev t p.1) p.2) (hf':Fits (aev t p'.1) p'.2) (H:chainC P J ops Ψ rest cs h (aput t o.dst u)) (hg:awanted ops o t=some true:=by rfl):chainC P J ops Ψ (o::rest) (⟨[p,p'],[],u,.no⟩::cs) h t:=dR hs ⟨hf,hf',trivial⟩ trivial trivial H hg
theorem dD (hs:ASpec P J o [p,p',p''] [] u .no) (hf:Fits (aev t p.1) p.2) (hf':Fits (aev t p'.1) p'.2) (hf'':Fits (aev t p''.1) p''.2) (H:chainC P J ops Ψ rest cs h (aput t o.dst u)) (hg:awanted ops o t=some true:=by rfl):chainC P J ops Ψ (o::rest) (⟨[p,p',p''],[],u,.no⟩::cs) h t:=dR hs ⟨hf,hf',hf'',trivial⟩ trivial trivial H hg
theorem dM (hs:ASpec P J o [p] [] u .no) (H:chainC P J ops Ψ rest cs h (aput t o.dst u)) (hf:Fits (aev t p.1) p.2:=by exact I0) (hg:awanted ops o t=some true:=by rfl):chainC P J ops Ψ (o::rest) (⟨[p],[],u,.no⟩::cs) h t:=dA hs hf H hg
theorem dP (hs:ASpec P J o [p,p',p''] [] u .no) (H:chainC P J ops Ψ rest cs h (aput t o.dst u)) (hf:Fits (aev t p.1) p.2:=by exact I0) (hf':Fits (aev t p'.1) p'.2:=by exact I0) (hf'':Fits (aev t p''.1) p''.2:=by exact I0) (hg:awanted ops o t=some true:=by rfl):chainC P J ops Ψ (o::rest) (⟨[p,p',p''],[],u,.no⟩::cs) h t:=dD hs hf hf' hf'' H hg
theorem dK (H:chainC P J ops Ψ rest cs h (aput t o.dst (.v undef))) (hg:awanted ops o t=some false:=by rfl):chainC P J ops Ψ (o::rest) (⟨[],[],.v undef,.no⟩::cs) h t:=⟨app_no hg,H⟩
theorem dE (H:Ψ h t):chainC P J ops Ψ [] [] h t:=H
theorem qK (H:ETri J w0 h (aput t o.dst (.v undef)) (wpList P ops Q rest)) (hg:awanted ops o t=some false:=by rfl):ETri J w0 h t (wpList P ops Q (o::rest)):=t_skip hg H
theorem Zr {id:Nat} {l:List Oper} {cl:List Cl} (H:chainC P J l.toArray (fun h t=>ETri J w0 h t (Q .normal)) l cl h t) (hB:fastC l.toArray l cl 0 []=true) (hm:P.follows .mixedOrders=true:=by kernel_rfl):ETri J w0 h t ((Code.region id l.toArray true).wp P Q):=tri_draw cl hm hB H
end
section
variable {P:Program} {o:Oper}
theorem mT (i:Nat) (X:AV) (ho:o.op = .move (.tmp i):=by rfl):ASpec P J o [(.tmp i,X)] [] X .no:=YX _ X ho
theorem aT (i:Nat) (X:AV) (ho:o.op = .assign (.tmp i):=by rfl):ASpec P J o [(.tmp i,X)] [] X .no:=Z8 _ X ho
theorem aC (x:Value) (ho:o.op = .assign (.const x):=by rfl):ASpec P J o [(.const x,.v x)] [] (.v x) .no:=Z8 _ (.v x) ho
theorem fb {S:TypeId} {fs:Array Field} {f k off:Nat} {fl:Field} (off':Nat) (i:Nat) (hu:P.underlying S=some (.struct fs)) (z:Nat) (ho:o.op = .fieldAddr S (.tmp i) f:=by rfl) (hf:fs[f]? = some fl:=by rfl) (e:off+fl.offset=off':=by rfl) (hz:(P.info? fl.type).map (·.size)=some z:=by kernel_rfl) (h0:0<z:=by decide):ASpec P J o [(.tmp i,.box k off)] [] (.box k off') .no:=fB off' _ ho hu hf z e hz h0
theorem lb {T:TypeId} {d:TypeDesc} {k off:Nat} {Y:ABlk} (X:AV) (i:Nat) (hu:P.underlying T=some d) (ho:o.op = .load T (.tmp i):=by rfl) (hd:d.isRow=false:=by rfl) (hX:Y.cells[off]? = some X:=by rfl):ASpec P J o [(.tmp i,.box k off)] [(k,Y)] X .no:=lB Y X _ ho hu hd hX
theorem sc {ats:Array TypeId} {f:FuncId} {Ys:List AV} {u U:AV} (xs:Array Operand) (rd:List (Nat × ABlk)) (hC:Ctr P J f Ys u) (Xs:List AV) (ho:o.op = .call { callee := .value (.func f),args:=xs,argTypes:=ats }) (hv:Xs.map (AV.view rd)=Ys) (hU:u.res=U)
    (hf : (P.funcs[f]?).map (fun fn => (fn.name == "runtime.NumGoroutine") || fn.body.isNone) = some false := by kernel_rfl) (hl : xs.size = Xs.length := by exact rfl) (hfl : Xs.all AV.flat2 = true := by exact rfl) : ASpec P J o ((.func f, .v (.func (.func f) #[] #[])) :: xs.toList.zip Xs) rd U .no := sp_call rd hC ho hf hl hv hfl hU
theorem pk {c x y:Operand} (b:Bool) (X Y:AV) (ho:o.op = .pick c x y):ASpec P J o [(c,.v (.bool b)),(x,X),(y,Y)] [] (if b then X else Y) .no:=sp_pick c x y b X Y ho
theorem lS {T:TypeId} {d:TypeDesc} {k off:Nat} {Y:ABlk} (ds:List AV) (z i:Nat) (hu:P.underlying T=some d) (ho:o.op = .load T (.tmp i):=by rfl) (hd:d.isRow=true:=by rfl) (hz:(P.info? T).map (·.size)=some z:=by kernel_rfl) (h0:0<z:=by decide) (hX:(Y.cells.drop off).take z=ds:=by kernel_rfl) (hl:ds.length=z:=by kernel_rfl):ASpec P J o [(.tmp i,.box k off)] [(k,Y)] (.agg ds) .no:=sp_loadBoxS _ ho hu hd hz h0 hX hl
theorem lE {T:TypeId} {d:TypeDesc} {off:Nat} {cs:List AV} (X:AV) (i:Nat) (hu:P.underlying T=some d) (hX:cs[off]? = some X:=by rfl) (ho:o.op = .load T (.tmp i):=by rfl) (hd:d.isRow=false:=by rfl):ASpec P J o [(.tmp i,.el cs off)] [] X .no:=sp_loadEl1 _ ho hu hd hX
theorem fe {S:TypeId} {fs:Array Field} {f off:Nat} {cs:List AV} {fl:Field} (off' i:Nat) (hu:P.underlying S=some (.struct fs)) (z:Nat) (ho:o.op = .fieldAddr S (.tmp i) f:=by rfl) (hf:fs[f]? = some fl:=by rfl) (e:off+fl.offset=off':=by rfl) (hz:(P.info? fl.type).map (·.size)=some z:=by kernel_rfl) (h0:0<z:=by decide):ASpec P J o [(.tmp i,.el cs off)] [] (.el cs off') .no:=sp_fieldEl _ ho hu hf hz h0 e
theorem xS {t e:TypeId} {z n:Nat} {cs:List AV} {ik:IntKind} {i:Int} (off x y:Nat) (hu:P.underlying t=some (.slice e)) (ho:o.op = .indexAddr t (.tmp x) (.tmp y):=by rfl) (hz:(P.info? e).map (·.size)=some z:=by kernel_rfl) (h0:0≤i:=by omega) (h1:i<n:=by omega) (he:i.toNat*z=off:=by rfl):ASpec P J o [(.tmp x,.sl z n cs),(.tmp y,.v (.int ik i))] [] (.el cs off) .no:=sp_indexSl _ _ ho hu hz h0 h1 he
theorem nS {t e:TypeId} {z n:Nat} {cs:List AV} (x:Nat) (hu:P.underlying t=some (.slice e)) (ho:o.op = .call { callee := .builtin .len,args := #[.tmp x],argTypes := #[t] }:=by rfl):ASpec P J o [(.tmp x,.sl z n cs)] [] (.v (.int .i64 n)) .no:=sp_lenSl _ ho hu
theorem sB {T T0:TypeId} {k off:Nat} {cs:List AV} (z i:Nat) (y:Operand) (X:AV) (ho:o.op = .store T (.tmp i) y:=by rfl) (hz:(P.info? T).map (·.size)=some z:=by kernel_rfl) (hX:X.cellsOf.all AV.cell=true:=by kernel_rfl) (hl:X.cellsOf.length=z:=by kernel_rfl) (hr:off+z≤cs.length:=by exact of_decide_eq_true (by kernel_rfl)) :
    ASpec P J o [(.tmp i,.box k off),(y,X)] [(k,.box T0 cs)] (.v undef) (.st k (.box T0 (setAll cs off X.cellsOf))):=Zw _ y ho hz hX hl hr rfl
end
def AV.pu1:AV→Bool
  | .box _ _=>false
  | .own _=>false
  | .bsl _ _ _=>false
  | .agg _=>false
  | .tup _=>false
  | .clo _ _=>false
  | _=>true
theorem Rel.pu1 {ρ:Names} {B:Nat} {w:World} {X:AV} {x:Value} (h:Rel ρ B w X x) (hp:X.pu1=true):Pu (B ≤ ·) w (okOf ρ) X x:=by
  cases h with
  | pu h=>exact h
  | box h=>cases hp
  | own h=>cases hp
  | bsl h=>cases hp
  | agg hl h=>cases hp
  | tup hl h=>cases hp
  | clo hl h=>cases hp
theorem flatC_get {z:Nat}:∀ (Xs:List AV),(∀ X∈Xs,X.cellsOf.length=z)→∀ k,(Xs.flatMap AV.cellsOf)[k]? = if k<Xs.length*z then (Xs[k / z]?).bind fun X=>X.cellsOf[k % z]? else none
  | [],_,k=>by simp
  | X::Xs,h,k=>by
    have hX:=h X (by simp)
    simp only [List.flatMap_cons,List.length_cons,Nat.add_mul,Nat.one_mul]
    by_cases hk:k<z
    · rw [List.getElem?_append_left (by omega),if_pos (by omega),Nat.div_eq_of_lt hk,Nat.mod_eq_of_lt hk];rfl
    rw [List.getElem?_append_right (by omega),flatC_get Xs (fun X hX=>h X (by simp [hX])),hX]
    by_cases hz:z=0
    · subst hz;simp
    have e1:k / z=(k-z) / z+1:=by rw [← Nat.sub_add_cancel (show z≤k by omega),Nat.add_div_right _ (by omega)];simp
    have e2:k % z=(k-z) % z:=by rw [← Nat.mod_eq_sub_mod (by omega)]
    rw [e1,e2,List.getElem?_cons_succ]
    by_cases hlt:k<Xs.length*z+z
    · rw [if_pos (by omega),if_pos hlt]
    rw [if_neg (by omega),if_neg hlt]
section
variable {P:Program} {o:Oper}
theorem sp_build {t e z n k:Nat} {fr:Bool} {parts:Array (Nat × Operand)} (xs:List Operand) (Xs:List AV) (ho:o.op = .buildSlice t n parts) (hu:P.underlying t=some (.slice e)) (hi:(P.info? e).map (fun i=>(i.size,i.zero.map (·.cells.size)))=some (z,some z)) (h0:0<z) (hn0:0<n)
    (hp:parts.toList=xs.zipIdx.map fun p=>(p.2,p.1)) (hl:xs.length=n) (hX:Xs.length=n) (hz:Xs.all (fun X=>X.cellsOf.length==z&&X.cellsOf.all (fun c=>c.cell&&c.pu1))=true) (hs:n*z≤16777216)
    (hnew:fr=true→∀ d∈Xs.flatMap AV.cellsOf,d.isNew=true) {cs:List AV} (hcs:Yh fr (Xs.flatMap AV.cellsOf)=cs) :
    ASpec P J o (xs.zip Xs) [] (.own k) (.new k (.row fr e z n cs)) :=
  aspec_new fun ρ B a w hwf hB ha _ hk=>by
    subst hcs
    obtain ⟨i,hi,hj⟩:=Option.map_eq_some_iff.1 hi
    simp only [Prod.mk.injEq] at hj
    obtain ⟨j1,j2⟩:=hj
    obtain ⟨zv,hz1,hz2⟩:=Option.map_eq_some_iff.1 j2
    have hzz:∀ X∈Xs,X.cellsOf.length=z∧(∀ c∈X.cellsOf,c.cell=true∧c.pu1=true):=fun X hX=>by
      have:=List.all_eq_true.1 hz X hX
      simp only [Bool.and_eq_true,beq_iff_eq,List.all_eq_true] at this
      exact this
    have hrel:∀ j (h1:j<xs.length) (h2:j<Xs.length),Rel ρ B w Xs[j] (a.eval xs[j]):=fun j h1 h2=>ha (xs[j],Xs[j]) (by rw [List.mem_iff_getElem];exact ⟨j,by simp;omega,by simp⟩)
    have hcell:∀ j (h1:j<xs.length) (h2:j<Xs.length),(a.eval xs[j]).cells.size=z∧∀ l (hl:l<Xs[j].cellsOf.length),Pu (B ≤ ·) w (okOf ρ) Xs[j].cellsOf[l] ((a.eval xs[j]).cells.getD l undef):=fun j h1 h2=>by
      obtain ⟨q1,q2⟩:=hzz _ (List.getElem_mem h2)
      obtain ⟨r1,r2,r3⟩:=(hrel j h1 h2).cells (List.all_eq_true.2 fun c hc=>(q2 c hc).1)
      exact ⟨by omega,fun l hl=>(r3 l hl).pu1 (q2 _ (List.getElem_mem hl)).2⟩
    obtain ⟨r,f1,f2,f3⟩:=Great.fill_dense h0 (xs.map a.eval) 0 ((Array.range (n*i.size)).map (zv.cells[· % zv.cells.size]!)) (fun v hv=>by
      obtain ⟨x,hx,rfl⟩:=List.mem_map.1 hv
      obtain ⟨j,hj,rfl⟩:=List.getElem_of_mem hx
      exact (hcell j hj (by omega)).1) (by simp [hl,j1])
    have hrun:=run_buildSlice (P:=P) w t e n (parts.map fun (i,x)=>(i,a.eval x)) r i zv hu hi hz1 (by rw [j1];omega) (by rw [j1];have:=Nat.mul_pos hn0 h0;omega) (by
      rw [← f1,j1]
      congr 1
      rw [Array.toList_map,hp,List.map_map,List.zipIdx_map,List.map_map]
      rfl)
    have hrs:r.size=n*z:=by rw [f2];simp [j1]
    have hfl:(Xs.flatMap AV.cellsOf).length=n*z:=by
      have:∀ (Xs:List AV),(∀ X∈Xs,X.cellsOf.length=z)→(Xs.flatMap AV.cellsOf).length=Xs.length*z:=by
        intro Xs
        induction Xs with
        | nil=>intro _;simp
        | cons X Xs ih=>intro h;simp only [List.flatMap_cons,List.length_append,ih fun X hX=>h X (by simp [hX]),h X (by simp),List.length_cons,Nat.add_mul];omega
      rw [this Xs fun X hX=>(hzz X hX).1,hX]
    refine ⟨.slice (some ⟨w.heap.size,0,none⟩) n n,n,n,r,e,?_,.own (nm := .at w.heap.size n n) (Yo _ _ _),r.toList,⟨by simpa using hrs,.inr ⟨w.heap.size,n,r,rfl,rowB_le hB,heap_alloc_new w _,Nat.le_refl _,?_,hrs,by rw [List.take_of_length_le (by simp [hrs])]⟩⟩,by rw [Yy,hfl];simpa using hrs,fun j hj => ?_⟩
    · simp only [execOp,ho]
      exact Yb hrun
    · have:n*1≤n*z:=Nat.mul_le_mul_left n h0
      simp only [maxLen];omega
    have hj':j<n*z:=by rw [Yy,hfl] at hj;exact hj
    have hd:j / z<n:=(Nat.div_lt_iff_lt_mul h0).2 hj'
    have hm:j % z<z:=Nat.mod_lt _ h0
    have hx1:j / z<xs.length:=by omega
    have hX1:j / z<Xs.length:=by omega
    obtain ⟨c1,c2⟩:=hcell _ hx1 hX1
    have hcl:=(hzz _ (List.getElem_mem hX1)).1
    have hjf:j<(Xs.flatMap AV.cellsOf).length:=by omega
    have e1:(Xs.flatMap AV.cellsOf)[j]=Xs[j / z].cellsOf[j % z]'(by omega):=by
      have:=flatC_get Xs (fun X hX=>(hzz X hX).1) j
      rw [List.getElem?_eq_getElem hjf,if_pos (by rw [hX];exact hj'),List.getElem?_eq_getElem hX1,Option.bind_some,List.getElem?_eq_getElem (by omega)] at this
      exact Option.some.inj this
    have e2:r.toList.getD j undef=(a.eval xs[j / z]).cells.getD (j % z) undef:=by
      have:=f3 j
      rw [if_pos ⟨by simp,by simp [hl];exact hj'⟩,Nat.sub_zero,List.getElem?_map,List.getElem?_eq_getElem hx1] at this
      simp only [Option.map_some,Option.bind_some] at this
      rw [List.getD_eq_getElem?_getD,Array.getElem?_toList,this,Array.getD_eq_getD_getElem?]
    have hp:=c2 (j % z) (by omega)
    rw [← e1,← e2] at hp
    have hrow:=Pu.row (fr:=fr) hnew hj hjf hp
    rw [e2] at hrow ⊢
    have hok:∀ b,okOf ρ b→b<w.heap.size→okOf (upd ρ k (.at w.heap.size n n)) b∧b<(w.alloc (.cells r e)).heap.size∧(w.alloc (.cells r e)).heap[b]? = w.heap[b]? := fun b hb hw=>ok_new hb hw
    exact hrow.mono (fun b hb hw=>⟨⟨(hok b hb.1 hw).1,fun e=>⟨(hb.2 e).1,soft_eq (hok b hb.1 hw).2.2 (hb.2 e).2⟩⟩,(hok b hb.1 hw).2⟩) fun _ _ h=>h
end
section
variable {P:Program} {o:Oper} {t ty:TypeId} {x y:Operand}
end
theorem map_at1 {α:Type} {g:α→AV} (xs:List α) {k:Nat} (h:k<xs.length):(xs.map g)[k*1]? = some (g xs[k]):=by rw [Nat.mul_one];simp [h]
theorem Yf {P:Program} {f:FuncId} {args:List AV} {b r:Bool} (h:Ctr P J f args (bv b)) (e:b=r):Ctr P J f args (bv r):=e ▸ h
def LnOk (l:Ln):Prop:=I64 l.c∧I64 l.n∧I64 l.t∧I64 l.f
def ThOk (g:Th):Prop:=I64 g.msg∧I64 g.coef∧I64 g.bd.c∧I64 g.bd.n∧I64 g.bd.t∧I64 g.bd.f
def InOk (xs:List Int):Prop:=∀ x∈xs,I64 x
structure RuOk (r:Ru):Prop where
  nm:r.nm.size≤maxLen
  kind:I64 r.kind
  frm:I64 r.frm
  «to»:I64 r.to
  pf:I64 r.pf
  pt:I64 r.pt
  resp:InOk r.resp
  guards:∀ g∈r.guards,ThOk g
  ex:InOk r.ex
  fa:InOk r.fa
  rd:I64 r.rd
  wr:I64 r.wr
  send:InOk r.send
  pos:I64 r.pos
  left:InOk r.left
  right:InOk r.right
  parent:InOk r.parent
  dir:I64 r.dir
  lresp:r.resp.length≤9223372036854775807
  lguards:r.guards.length≤9223372036854775807
structure FmOk (q:Fm):Prop where
  nm:q.nm.size≤maxLen
  top:I64 q.top
  states:∀ s∈q.states,s.size≤maxLen
  msgs:∀ s∈q.msgs,s.size≤maxLen
  vals:∀ s∈q.vals,s.size≤maxLen
  fault:I64 q.fault
  res:∀ l∈q.res,LnOk l
  init:InOk q.init
  leader:InOk q.leader
  rules:∀ r∈q.rules,RuOk r
  lstates:q.states.length≤9223372036854775807
  lmsgs:q.msgs.length≤9223372036854775807
  lvals:q.vals.length≤9223372036854775807
  lres:q.res.length≤9223372036854775807
  linit:q.init.length≤9223372036854775807
  lleader:q.leader.length≤9223372036854775807
  lrules:q.rules.length≤9223372036854775807
theorem IsSl.all {α:Type} {z:Nat} {Q:Nat→World→List Value→α→Prop} {lo:Nat} {w:World} {v:Value} {xs:List α} (h:IsSl z Q lo w v xs) {R:α→Prop} (hR:∀ cs x,Q lo w cs x→R x):∀ x∈xs,R x:=by
  intro x hx
  obtain ⟨i,hi,rfl⟩:=List.getElem_of_mem hx
  obtain ⟨a,cap,rfl⟩:=h.shape
  obtain ⟨_,_,cs,_,_,_,_,_,hq⟩:=h.at i hi
  exact hR _ _ hq
theorem IsInts.ok {lo:Nat} {w:World} {v:Value} {xs:List Int} (h:IsInts lo w v xs):InOk xs:=by
  obtain ⟨_,_,_,_,_,⟨h1,_⟩,_⟩:=h;exact h1
theorem IsInts.len {lo:Nat} {w:World} {v:Value} {xs:List Int} (h:IsInts lo w v xs):xs.length≤9223372036854775807:=by
  obtain ⟨_,_,_,h1,h2,_⟩:=h;unfold maxLen at h2;omega
theorem RuEl.ok {lo:Nat} {w:World} {cs:List Value} {r:Ru} (h:RuEl lo w cs r):RuOk r:=by
  obtain ⟨v6,v7,v8,v9,v12,v14,v15,v16,rfl,h0,h1,h2,h3,h4,h5,h6,h7,h8,h9,h10,h11,h12,h13,h14,h15,h16,h17⟩:=h
  exact ⟨h0,h1,h2,h3,h4,h5,h6.ok,h7.all fun cs g hg=>hg.2,h8.ok,h9.ok,h10,h11,h12.ok,h13,h14.ok,h15.ok,h16.ok,h17,h6.len,h7.bound⟩
theorem IsFam.ok {lo:Nat} {w:World} {v:Value} {q:Fm} (h:IsFam lo w v q):FmOk q:=by
  obtain ⟨v2,v3,v4,v6,v7,v8,v9,e,h0,h1,h2,h3,h4,h5,h6,h7,h8,h9⟩:=h
  exact ⟨h0,h1,h2.all fun _ _ h=>h.2,h3.all fun _ _ h=>h.2,h4.all fun _ _ h=>h.2,h5,h6.all fun _ _ h=>h.2,h7.ok,h8.ok,h9.all fun _ _ h=>h.ok,h2.bound,h3.bound,h4.bound,h6.bound,h7.len,h8.len,h9.bound⟩
theorem Ke {F ok:Nat→Prop} {w:World} {cs:List AV} {v:Value} (h:Pu F w ok (.agg cs) v):∃ vs:List Value,v = .agg vs.toArray∧vs.length=cs.length∧∀ j (hj:j<cs.length),Pu F w ok cs[j] (vs.getD j undef):=by
  cases h with
  | agg hl h =>
    rename_i vs
    exact ⟨vs.toList,rfl,by simpa using hl,fun j hj=>by have:=h j hj;simpa [Array.getD_eq_getD_getElem?,List.getD_eq_getElem?_getD] using this⟩
section
variable {F ok:Nat→Prop} {w:World} {lo:Nat}
theorem cells18 {vs:List Value} (h:vs.length=18):vs=[vs.getD 0 undef,vs.getD 1 undef,vs.getD 2 undef,vs.getD 3 undef,vs.getD 4 undef,vs.getD 5 undef,vs.getD 6 undef,vs.getD 7 undef,vs.getD 8 undef,vs.getD 9 undef,vs.getD 10 undef,vs.getD 11 undef,vs.getD 12 undef,vs.getD 13 undef,vs.getD 14 undef,vs.getD 15 undef,vs.getD 16 undef,vs.getD 17 undef]:=by
  match vs,h with
  | [_,_,_,_,_,_,_,_,_,_,_,_,_,_,_,_,_,_],_=>rfl
theorem cells10 {vs:List Value} (h:vs.length=10):vs=[vs.getD 0 undef,vs.getD 1 undef,vs.getD 2 undef,vs.getD 3 undef,vs.getD 4 undef,vs.getD 5 undef,vs.getD 6 undef,vs.getD 7 undef,vs.getD 8 undef,vs.getD 9 undef]:=by
  match vs,h with
  | [_,_,_,_,_,_,_,_,_,_],_=>rfl
theorem cells6 {vs:List Value} (h:vs.length=6):vs=[vs.getD 0 undef,vs.getD 1 undef,vs.getD 2 undef,vs.getD 3 undef,vs.getD 4 undef,vs.getD 5 undef]:=by
  match vs,h with
  | [_,_,_,_,_,_],_=>rfl
theorem cells4 {vs:List Value} (h:vs.length=4):vs=[vs.getD 0 undef,vs.getD 1 undef,vs.getD 2 undef,vs.getD 3 undef]:=by
  match vs,h with
  | [_,_,_,_],_=>rfl
theorem cells1 {vs:List Value} (h:vs.length=1):vs=[vs.getD 0 undef]:=by
  match vs,h with
  | [_],_=>rfl
theorem th_of {g:Th} {vs:List Value} (hg:ThOk g) (hl:vs.length=6) (h:∀ j (hj:j<(cTh g).length),Pu F w ok (cTh g)[j] (vs.getD j undef)):ThEl lo w vs g:=by
  refine ⟨?_,hg⟩
  rw [cells6 hl,(h 0 (by simp [cTh])).v_inv,(h 1 (by simp [cTh])).v_inv,(h 2 (by simp [cTh])).v_inv,(h 3 (by simp [cTh])).v_inv,(h 4 (by simp [cTh])).v_inv,(h 5 (by simp [cTh])).v_inv]
theorem ln_of {g:Ln} {vs:List Value} (hg:LnOk g) (hl:vs.length=4) (h:∀ j (hj:j<(cLn g).length),Pu F w ok (cLn g)[j] (vs.getD j undef)):LnEl lo w vs g:=by
  refine ⟨?_,hg⟩
  rw [cells4 hl,(h 0 (by simp [cLn])).v_inv,(h 1 (by simp [cLn])).v_inv,(h 2 (by simp [cLn])).v_inv,(h 3 (by simp [cLn])).v_inv]
theorem pu_slm {v:Value} {α:Type} {z:Nat} {f:α→List AV} {xs:List α} (hz:∀ x,(f x).length=z) {Q:Nat→World→List Value→α→Prop} (hlo:∀ b,ok b→lo≤b) (R:α→Prop) (hR:∀ x∈xs,R x)
    (hQ:∀ (x:α) (vs:List Value),R x→vs.length=z→(∀ j (hj:j<(f x).length),Pu F w ok (f x)[j] (vs.getD j undef))→Q lo w vs x) (h:Pu F w ok (slA z f xs) v):IsSl z Q lo w v xs:=by
  have h1:=pu_sl hz (Q:=fun lo w vs x=>R x→Q lo w vs x) hlo (fun x vs hl hp hr=>hQ x vs hr hl hp) h
  obtain ⟨a,cap,hv,a1,a2,a3,a4⟩:=h1
  refine ⟨a,cap,hv,a1,a2,a3,?_⟩
  rcases a4 with a4 | ⟨b,off,b1,b2,b3,b4⟩
  · exact .inl a4
  exact .inr ⟨b,off,b1,b2,b3,fun i hi=>by obtain ⟨cs,c1,c2,c3⟩:=b4 i hi;exact ⟨cs,c1,c2,c3 (hR _ (List.getElem_mem hi))⟩⟩
theorem lenTh (g:Th):(cTh g).length=6:=rfl
theorem lenLn (g:Ln):(cLn g).length=4:=rfl
theorem lenRu (g:Ru):(cRu g).length=18:=rfl
theorem lenStr (s:ByteArray):[sv s].length=1:=rfl
theorem pu_strs {v:Value} {xs:List ByteArray} (hs:∀ s∈xs,s.size≤maxLen) (hlo:∀ b,ok b→lo≤b) (h:Pu F w ok (ZH xs) v):IsSl 1 StrEl lo w v xs:=by
  have e0:∀ xs:List ByteArray,xs.map sv=xs.flatMap fun s=>[sv s]:=fun xs=>by
    induction xs with
    | nil=>rfl
    | cons x xs ih=>simp only [List.map_cons,List.flatMap_cons,ih];rfl
  have e:ZH xs=slA 1 (fun s=>[sv s]) xs:=by unfold ZH slA;rw [e0]
  rw [e] at h
  exact pu_slm (f:=fun s=>[sv s]) lenStr hlo (fun s:ByteArray=>s.size≤maxLen) hs (fun s vs hs hl hp=>⟨by rw [cells1 hl,(hp 0 (by simp)).v_inv],hs⟩) h
theorem ru_of {r:Ru} {vs:List Value} (hr:RuOk r) (hlo:∀ b,ok b→lo≤b) (hl:vs.length=18) (h:∀ j (hj:j<(cRu r).length),Pu F w ok (cRu r)[j] (vs.getD j undef)):RuEl lo w vs r:=by
  have hz:(cRu r).length=18:=rfl
  refine ⟨vs.getD 6 undef,vs.getD 7 undef,vs.getD 8 undef,vs.getD 9 undef,vs.getD 12 undef,vs.getD 14 undef,vs.getD 15 undef,vs.getD 16 undef,?_,hr.nm,hr.kind,hr.frm,hr.to,hr.pf,hr.pt,YK hr.resp hlo (h 6 (by omega)),pu_slm lenTh hlo ThOk hr.guards (fun g vs hg hl hp=>th_of hg hl hp) (h 7 (by omega)),YK hr.ex hlo (h 8 (by omega)),YK hr.fa hlo (h 9 (by omega)),hr.rd,hr.wr,YK hr.send hlo (h 12 (by omega)),hr.pos,YK hr.left hlo (h 14 (by omega)),YK hr.right hlo (h 15 (by omega)),YK hr.parent hlo (h 16 (by omega)),hr.dir⟩
  have e:=cells18 hl
  rw [show vs.getD 0 undef = .string r.nm from (h 0 (by omega)).v_inv,show vs.getD 1 undef = .int .i64 r.kind from (h 1 (by omega)).v_inv,show vs.getD 2 undef = .int .i64 r.frm from (h 2 (by omega)).v_inv,show vs.getD 3 undef = .int .i64 r.to from (h 3 (by omega)).v_inv,show vs.getD 4 undef = .int .i64 r.pf from (h 4 (by omega)).v_inv,show vs.getD 5 undef = .int .i64 r.pt from (h 5 (by omega)).v_inv,show vs.getD 10 undef = .int .i64 r.rd from (h 10 (by omega)).v_inv,show vs.getD 11 undef = .int .i64 r.wr from (h 11 (by omega)).v_inv,show vs.getD 13 undef = .int .i64 r.pos from (h 13 (by omega)).v_inv,show vs.getD 17 undef = .int .i64 r.dir from (h 17 (by omega)).v_inv] at e
  exact e
theorem fam_of {q:Fm} {v:Value} (hq:FmOk q) (hlo:∀ b,ok b→lo≤b) (h:Pu F w ok (.agg (cFm q)) v):IsFam lo w v q:=by
  obtain ⟨vs,rfl,hl,h⟩:=Ke h
  have hz:(cFm q).length=10:=rfl
  refine ⟨vs.getD 2 undef,vs.getD 3 undef,vs.getD 4 undef,vs.getD 6 undef,vs.getD 7 undef,vs.getD 8 undef,vs.getD 9 undef,?_,hq.nm,hq.top,pu_strs hq.states hlo (h 2 (by omega)),pu_strs hq.msgs hlo (h 3 (by omega)),pu_strs hq.vals hlo (h 4 (by omega)),hq.fault,pu_slm lenLn hlo LnOk hq.res (fun g vs hg hl hp=>ln_of hg hl hp) (h 6 (by omega)),YK hq.init hlo (h 7 (by omega)),YK hq.leader hlo (h 8 (by omega)),pu_slm lenRu hlo RuOk hq.rules (fun r vs hr hl hp=>ru_of hr hlo hl hp) (h 9 (by omega))⟩
  have e:=cells10 (hl.trans hz)
  rw [show vs.getD 0 undef = .string q.nm from (h 0 (by omega)).v_inv,show vs.getD 1 undef = .int .i64 q.top from (h 1 (by omega)).v_inv,show vs.getD 5 undef = .int .i64 q.fault from (h 5 (by omega)).v_inv] at e
  exact congrArg (fun l:List Value=>Value.agg l.toArray) e
end
section
variable {P:Program} {f:FuncId}
theorem ctr1 {A u:AV} (H:∀ (w:World) (v:Value),(∀ w',Below w.heap.size w w'→J w')→Pu (fun _=>True) w (fun b=>b<w.heap.size) A v→Calls P f #[v] w fun e w'=>∃ v,e = .returned v∧Pu (w.heap.size ≤ ·) w' (nw w' w.heap.size) u v∧Below w.heap.size w w'):Ctr P J f [A] u:=fun w vs hJ hl hv=>by
  obtain ⟨v,rfl⟩:∃ v,vs = #[v]:=by
    match vs,hl with
    | ⟨[v]⟩,_=>exact ⟨v,rfl⟩
  exact H w v hJ (hv 0 (by simp))
theorem ctr2 {A B u:AV} (H:∀ (w:World) (v v':Value),(∀ w',Below w.heap.size w w'→J w')→Pu (fun _=>True) w (fun b=>b<w.heap.size) A v→Pu (fun _=>True) w (fun b=>b<w.heap.size) B v'→Calls P f #[v,v'] w fun e w'=>∃ v,e = .returned v∧Pu (w.heap.size ≤ ·) w' (nw w' w.heap.size) u v∧Below w.heap.size w w'):Ctr P J f [A,B] u:=fun w vs hJ hl hv=>by
  obtain ⟨v,v',rfl⟩:∃ v v',vs = #[v,v']:=by
    match vs,hl with
    | ⟨[v,v']⟩,_=>exact ⟨v,v',rfl⟩
  exact H w v v' hJ (hv 0 (by simp)) (hv 1 (by simp))
theorem ctr3 {A B C u:AV} (H:∀ (w:World) (v v' v'':Value),(∀ w',Below w.heap.size w w'→J w')→Pu (fun _=>True) w (fun b=>b<w.heap.size) A v→Pu (fun _=>True) w (fun b=>b<w.heap.size) B v'→Pu (fun _=>True) w (fun b=>b<w.heap.size) C v''→Calls P f #[v,v',v''] w fun e w'=>∃ v,e = .returned v∧Pu (w.heap.size ≤ ·) w' (nw w' w.heap.size) u v∧Below w.heap.size w w'):Ctr P J f [A,B,C] u:=fun w vs hJ hl hv=>by
  obtain ⟨v,v',v'',rfl⟩:∃ v v' v'',vs = #[v,v',v'']:=by
    match vs,hl with
    | ⟨[v,v',v'']⟩,_=>exact ⟨v,v',v'',rfl⟩
  exact H w v v' v'' hJ (hv 0 (by simp)) (hv 1 (by simp)) (hv 2 (by simp))
theorem ret_sc {w:World} {r:Value} {e:Ending} {w':World} (h:e = .returned r∧Below w.heap.size w w'):∃ v,e = .returned v∧Pu (w.heap.size ≤ ·) w' (nw w' w.heap.size) (.v r) v∧Below w.heap.size w w':=⟨r,h.1,.v r,h.2⟩
end
def inB (lo hi n:Int):Bool:=decide (lo≤n)&&decide (n≤hi)
theorem Z4 (n lo hi:Int) (w:World) :
    Calls Try.prog 41 #[.int .i64 n,.int .i64 lo,.int .i64 hi] w fun e w'=>e = .returned (.bool (inB lo hi n))∧w=w':=by
  have e:Hid (inB lo hi n=(decide (lo≤n)&&decide (n≤hi))):=(rfl:inB lo hi n=_)
  by_cases h1:lo≤n
  · by_cases h2:n≤hi
    · go_enter Try.func41,Try.ntmps41
      go_wp2
      go_ret
      exact ⟨Zi (by rw [e.out];simp;omega),rfl⟩
    go_enter Try.func41,Try.ntmps41
    go_wp2
    go_ret
    exact ⟨Zi (by rw [e.out];simp;omega),rfl⟩
  go_enter Try.func41,Try.ntmps41
  go_wp2
  go_ret
  exact ⟨Zi (by rw [e.out];simp;omega),rfl⟩
def faB (n:Int):Bool:=inB (-100) 100 n
def paB (n:Int):Bool:=inB 0 1048576 n
theorem KA (n:Int) (w:World):Calls Try.prog 71 #[.int .i64 n] w fun e w'=>e = .returned (.bool (faB n))∧w=w':=by
  go_enter Try.func71,Try.ntmps71
  go_wp2_with (go_at_call 41;refine (Z4 _ _ _ _).mono ?_;rintro e w' ⟨rfl,rfl⟩)
  go_ret
  exact ⟨rfl,rfl⟩
theorem YL (n:Int) (w:World):Calls Try.prog 53 #[.int .i64 n] w fun e w'=>e = .returned (.bool (paB n))∧w=w':=by
  go_enter Try.func53,Try.ntmps53
  go_wp2_with (go_at_call 41;refine (Z4 _ _ _ _).mono ?_;rintro e w' ⟨rfl,rfl⟩)
  go_ret
  exact ⟨rfl,rfl⟩
def smL (c n t f:Int):Bool:=faB c&&faB n&&faB t&&faB f
theorem YC (c n t f:Int) (w:World) :
    Calls Try.prog 46 #[.agg #[.int .i64 c,.int .i64 n,.int .i64 t,.int .i64 f]] w fun e w'=>e = .returned (.bool (!smL c n t f))∧Below w.heap.size w w':=by
  have e:Hid (smL c n t f=(faB c&&faB n&&faB t&&faB f)):=(rfl:smL c n t f=_)
  cases h1:faB c with
  | false =>
    go_enter Try.func46,Try.ntmps46
    go_wp2_with (go_at_call 71;refine (KA _ _).mono ?_;rintro e w' ⟨rfl,rfl⟩)
    go_ret
    exact ⟨Zi (by rw [e.out,h1];rfl),Zf _ _⟩
  | true =>
    cases h2:faB n with
    | false =>
      go_enter Try.func46,Try.ntmps46
      go_wp2_with (go_at_call 71;refine (KA _ _).mono ?_;rintro e w' ⟨rfl,rfl⟩)
      go_ret
      exact ⟨Zi (by rw [e.out,h1,h2];rfl),Zf _ _⟩
    | true =>
      cases h3:faB t with
      | false =>
        go_enter Try.func46,Try.ntmps46
        go_wp2_with (go_at_call 71;refine (KA _ _).mono ?_;rintro e w' ⟨rfl,rfl⟩)
        go_ret
        exact ⟨Zi (by rw [e.out,h1,h2,h3];rfl),Zf _ _⟩
      | true =>
        go_enter Try.func46,Try.ntmps46
        go_wp2_with (go_at_call 71;refine (KA _ _).mono ?_;rintro e w' ⟨rfl,rfl⟩)
        go_ret
        exact ⟨Zi (by rw [e.out,h1,h2,h3];rfl),Zf _ _⟩
def ixB (n:Nat) (x:Int):Bool:=inB 0 ((n:Int)-1) x
theorem Zz (x:Int) (n:Nat) (hn:n≤9223372036854775807) (w:World) :
    Calls Try.prog 72 #[.int .i64 x,.int .i64 n] w fun e w'=>e = .returned (.bool (ixB n x))∧w=w':=by
  have hw:IntKind.i64.wrap ((n:Int)-1)=(n:Int)-1:=IntWalk.i64_in _ (by omega)
  go_enter Try.func72,Try.ntmps72
  go_wp2_with (go_at_call 41;refine (Z4 _ _ _ _).mono ?_;rintro e w' ⟨rfl,rfl⟩)
  go_ret
  exact ⟨rfl,rfl⟩
def allK (n:Nat) (xs:List Int) (k:Nat):Bool:=(xs.take k).all (ixB n)
theorem allK_succ {n:Nat} {xs:List Int} {k:Nat} (h:k<xs.length) (hk:allK n xs k=true) (hp:ixB n xs[k]=true):allK n xs (k+1)=true:=by
  unfold allK at *;rw [List.take_succ_eq_append_getElem h,List.all_append,hk];simp [hp]
theorem allK_no {n:Nat} {xs:List Int} {k:Nat} (h:k<xs.length) (hp:ixB n xs[k]=false):allK n xs xs.length=false:=by
  unfold allK;rw [List.take_length,List.all_eq_false];exact ⟨xs[k],List.getElem_mem h,by simp [hp]⟩
def ascK (xs:List Int) (k:Nat):Bool:=(List.range k).all fun j=>decide (j=0)||decide (xs.getD (j-1) 0<xs.getD j 0)
theorem ascK_one (xs:List Int):ascK xs 1=true:=rfl
theorem ascK_succ {xs:List Int} {k:Nat} (hk:ascK xs k=true) (hp:xs.getD (k-1) 0<xs.getD k 0):ascK xs (k+1)=true:=by
  unfold ascK at *;rw [List.range_succ,List.all_append,hk];simp only [List.all_cons,List.all_nil,Bool.and_true,decide_eq_true hp,Bool.or_true]
theorem ascK_no {xs:List Int} {k n:Nat} (h:k<n) (h0:0<k) (hp:¬ xs.getD (k-1) 0<xs.getD k 0):ascK xs n=false:=by
  unfold ascK;rw [List.all_eq_false];exact ⟨k,List.mem_range.2 h,by rw [decide_eq_false (by omega:¬ k=0),decide_eq_false hp];simp⟩
def setE (n:Nat) (xs:List Int):Int:=if allK n xs xs.length=false then 5 else if ascK xs xs.length=false then 1 else 0
set_option maxHeartbeats 12800000
def tooB (q:Fm):Bool:=decide (6<q.states.length)||decide (3<q.msgs.length)||decide (3<q.vals.length)||decide (4<q.res.length)||decide (8<q.rules.length)
theorem hasTooMany_any {lo:Nat} {w:World} {v:Value} {q:Fm} (h:IsFam lo w v q) :
    Calls Try.prog 42 #[v] w fun e w'=>e = .returned (.bool (tooB q))∧Below w.heap.size w w':=by
  obtain ⟨v2,v3,v4,v6,v7,v8,v9,rfl,h0,h1,h2,h3,h4,h5,h6,h7,h8,h9⟩:=h
  have E:Hid (tooB q=(decide (6<q.states.length)||decide (3<q.msgs.length)||decide (3<q.vals.length)||decide (4<q.res.length)||decide (8<q.rules.length))):=(rfl:tooB q=_)
  have b2:q.states.length≤9223372036854775807:=by exact h2.bound
  have b3:q.msgs.length≤9223372036854775807:=by exact h3.bound
  have b4:q.vals.length≤9223372036854775807:=by exact h4.bound
  have b6:q.res.length≤9223372036854775807:=by exact h6.bound
  have b7:q.init.length≤9223372036854775807:=by obtain ⟨_,_,_,hh,hm,_⟩:=h7;unfold maxLen at hm;omega
  have b8:q.leader.length≤9223372036854775807:=by obtain ⟨_,_,_,hh,hm,_⟩:=h8;unfold maxLen at hm;omega
  have b9:q.rules.length≤9223372036854775807:=by exact h9.bound
  obtain ⟨a2,c2,rfl⟩:=h2.shape
  obtain ⟨a3,c3,rfl⟩:=h3.shape
  obtain ⟨a4,c4,rfl⟩:=h4.shape
  obtain ⟨a6,c6,rfl⟩:=h6.shape
  obtain ⟨a7,c7,rfl⟩:=h7.shape
  obtain ⟨a8,c8,rfl⟩:=h8.shape
  obtain ⟨a9,c9,rfl⟩:=h9.shape
  clear h0 h1 h2 h3 h4 h5 h6 h7 h8 h9
  by_cases t0:6<q.states.length
  · have i0:(6:Int)<((q.states.length:Nat):Int):=by omega
    go_enter Try.func42,Try.ntmps42
    go_wp2_with fail
    go_ret
    exact ⟨Zi (by rw [E.out,decide_eq_true t0];simp),Zf _ _⟩
  have i0:¬ (6:Int)<((q.states.length:Nat):Int):=by omega
  by_cases t1:3<q.msgs.length
  · have i1:(3:Int)<((q.msgs.length:Nat):Int):=by omega
    go_enter Try.func42,Try.ntmps42
    go_wp2_with fail
    go_ret
    exact ⟨Zi (by rw [E.out,decide_eq_true t1];simp),Zf _ _⟩
  have i1:¬ (3:Int)<((q.msgs.length:Nat):Int):=by omega
  by_cases t2:3<q.vals.length
  · have i2:(3:Int)<((q.vals.length:Nat):Int):=by omega
    go_enter Try.func42,Try.ntmps42
    go_wp2_with fail
    go_ret
    exact ⟨Zi (by rw [E.out,decide_eq_true t2];simp),Zf _ _⟩
  have i2:¬ (3:Int)<((q.vals.length:Nat):Int):=by omega
  by_cases t3:4<q.res.length
  · have i3:(4:Int)<((q.res.length:Nat):Int):=by omega
    go_enter Try.func42,Try.ntmps42
    go_wp2_with fail
    go_ret
    exact ⟨Zi (by rw [E.out,decide_eq_true t3];simp),Zf _ _⟩
  have i3:¬ (4:Int)<((q.res.length:Nat):Int):=by omega
  by_cases t4:8<q.rules.length
  · have i4:(8:Int)<((q.rules.length:Nat):Int):=by omega
    go_enter Try.func42,Try.ntmps42
    go_wp2_with fail
    go_ret
    exact ⟨Zi (by rw [E.out,decide_eq_true t4];simp),Zf _ _⟩
  have i4:¬ (8:Int)<((q.rules.length:Nat):Int):=by omega
  go_enter Try.func42,Try.ntmps42
  go_wp2_with fail
  go_ret
  exact ⟨Zi (by rw [E.out,decide_eq_false t0,decide_eq_false t1,decide_eq_false t2,decide_eq_false t3,decide_eq_false t4];rfl),Zf _ _⟩
def fitB (kind top:Int):Bool:=if kind=1∨kind=2∨kind=3 then top==1 else if kind=4∨kind=5 then !(top==1) else false
theorem kindFits_any (kind top:Int) (w:World):Calls Try.prog 74 #[.int .i64 kind,.int .i64 top] w fun e w'=>e = .returned (.bool (fitB kind top))∧w=w':=by
  by_cases k1:kind=1
  · subst k1
    go_enter Try.func74,Try.ntmps74
    go_wp2_with fail
    go_ret
    exact ⟨rfl,rfl⟩
  have j1:(kind==1)=false:=by rw [beq_eq_false_iff_ne];exact k1
  by_cases k2:kind=2
  · subst k2
    go_enter Try.func74,Try.ntmps74
    go_wp2_with fail
    go_ret
    exact ⟨rfl,rfl⟩
  have j2:(kind==2)=false:=by rw [beq_eq_false_iff_ne];exact k2
  by_cases k3:kind=3
  · subst k3
    go_enter Try.func74,Try.ntmps74
    go_wp2_with fail
    go_ret
    exact ⟨rfl,rfl⟩
  have j3:(kind==3)=false:=by rw [beq_eq_false_iff_ne];exact k3
  by_cases k4:kind=4
  · subst k4
    go_enter Try.func74,Try.ntmps74
    go_wp2_with fail
    go_ret
    exact ⟨rfl,rfl⟩
  have j4:(kind==4)=false:=by rw [beq_eq_false_iff_ne];exact k4
  by_cases k5:kind=5
  · subst k5
    go_enter Try.func74,Try.ntmps74
    go_wp2_with fail
    go_ret
    exact ⟨rfl,rfl⟩
  have j5:(kind==5)=false:=by rw [beq_eq_false_iff_ne];exact k5
  have E:=Lib.hid (show fitB kind top=false by unfold fitB;rw [if_neg (by omega),if_neg (by omega)])
  clear k1 k2 k3 k4 k5
  go_enter Try.func74,Try.ntmps74
  go_wp2_with fail
  go_ret
  exact ⟨Zi (by rw [E.out]),rfl⟩
end Go.Proofs.Ytabgfofjgkibmaa
namespace Go.Proofs.Ytabgfofjgkibmaa
def resW:List (List UInt8):=[[112,114,111,116,111,99,111,108],[116,111,112,111,108,111,103,121],[115,116,97,116,101,115],[109,101,115,115,97,103,101,115],[118,97,108,117,101,115],[102,97,117,108,116,115],[114,101,115,105,108,105,101,110,99,101],[105,110,105,116,105,97,108],[108,101,97,100,101,114],[114,117,108,101],[108,111,99,97,108],[112,97,105,114],[98,114,111,97,100,99,97,115,116],[110,101,105,103,104,98,111,114],[112,97,115,115],[119,104,101,110],[101,120,105,115,116,115],[102,111,114,97,108,108],[114,101,97,100],[119,114,105,116,101],[115,101,110,100],[97,108,108],[97,116],[102,105,114,115,116],[108,97,115,116],[108,101,102,116],[114,105,103,104,116],[112,97,114,101,110,116],[99,104,105,108,100],[112,114,111,112,101,114,116,121],[110,101,118,101,114],[101,118,101,110,116,117,97,108,108,121],[115,116,97,114,116],[99,111,117,110,116],[97,100,106,97,99,101,110,116],[103,111,97,108],[99,108,105,113,117,101],[108,105,110,101],[114,105,110,103],[116,114,101,101],[99,114,97,115,104],[111,109,105,115,115,105,111,110],[97,114,98,105,116,114,97,114,121]]
def resB (l:List UInt8):Bool:=resW.any (fun w=>l==w)
def leB (c:UInt8):Bool:=decide (97≤(c.toNat:Int))&&decide ((c.toNat:Int)≤122)
def diB (c:UInt8):Bool:=decide (48≤(c.toNat:Int))&&decide ((c.toNat:Int)≤57)||((c.toNat:Int)==95)
def atB (l:List UInt8) (i:Nat):Bool:=leB (l.getD i 0)||(decide (i≠0)&&diB (l.getD i 0))
def upB (l:List UInt8) (n:Nat):Bool:=(List.range n).all (atB l)
theorem upB_zero (l:List UInt8):upB l 0=true:=rfl
theorem upB_succ {l:List UInt8} {n:Nat} (h:upB l n=true) (h':atB l n=true):upB l (n+1)=true:=by
  unfold upB at *;rw [List.range_succ,List.all_append,h];simp [h']
theorem upB_no {l:List UInt8} {n k:Nat} (hk:k<n) (h':atB l k=false):upB l n=false:=by
  unfold upB;rw [List.all_eq_false];exact ⟨k,List.mem_range.2 hk,by simp [h']⟩
def nameB (l:List UInt8):Bool:=decide (1≤l.length)&&decide (l.length≤12) && !resB l&&upB l l.length
end Go.Proofs.Ytabgfofjgkibmaa
namespace Go.Proofs.Ytabgfofjgkibmaa
open Go.RowKit Go.Deep
def orE (a b:Int):Int:=if a=0 then b else a
theorem Y4 (b:Int):orE 0 b=b:=if_pos rfl
theorem Kd (a:Int):orE a 0=a:=by unfold orE;split<;>omega
theorem orE_ne {a:Int} (b:Int) (h:a≠0):orE a b=a:=if_neg h
theorem setE_nil (n:Nat):setE n []=0:=by unfold setE allK ascK;simp
def hasN (xs:List ByteArray) (s:ByteArray):Bool:=xs.any fun x=>x.toList==s.toList
def nmOk (xs:List ByteArray) (k:Nat):Bool:=(List.range k).all fun i=>nameB (xs.getD i default).toList && !hasN (xs.take i) (xs.getD i default)
theorem nmOk_succ {xs:List ByteArray} {k:Nat} (hk:k<xs.length) (h:nmOk xs k=true) (h1:nameB (xs[k].toList)=true) (h2:hasN (xs.take k) xs[k]=false):nmOk xs (k+1)=true:=by
  have e:xs.getD k default=xs[k]:=by simp [List.getD,List.getElem?_eq_getElem hk]
  unfold nmOk at *;rw [List.range_succ,List.all_append,h];simp only [List.all_cons,List.all_nil,Bool.and_true,e,h1,h2,Bool.not_false]
theorem nmOk_no {xs:List ByteArray} {k n:Nat} (hk:k<xs.length) (hn:k<n) (h:nameB (xs[k].toList)=false∨hasN (xs.take k) xs[k]=true):nmOk xs n=false:=by
  have e:xs.getD k default=xs[k]:=by simp [List.getD,List.getElem?_eq_getElem hk]
  unfold nmOk;rw [List.all_eq_false]
  refine ⟨k,List.mem_range.2 hn,?_⟩
  rw [e]
  rcases h with h | h<;>rw [h]<;>simp
def guE (msgs:Nat) (g:Th):Int:=if ixB msgs g.msg=false then 5 else if inB 1 100 g.coef=false then 1 else if smL g.bd.c g.bd.n g.bd.t g.bd.f=false then 4 else 0
def gusE (msgs:Nat):List Th→Int
  | []=>0
  | g::gs=>if guE msgs g=0 then gusE msgs gs else guE msgs g
def guardE (msgs:Nat) (gs:List Th):Int:=if gusE msgs gs=0 then (if 2<gs.length then 4 else 0) else gusE msgs gs
theorem guardE_nil (m:Nat):guardE m []=0:=rfl
def shE (vals:Nat) (rd wr:Int):Int:=if (rd ≠ -1∧ixB vals rd=false)∨(wr ≠ -1∧ixB vals wr=false) then 5 else 0
theorem shE_none (v:Nat):shE v (-1) (-1)=0:=by unfold shE;simp
def reE (n:Nat) (xs:List Int):Int:=if xs.length≠n then 1 else if allK n xs xs.length=false then 5 else 0
def posE (pos top:Int):Int:=if inB 0 2 pos=false∨(pos≠0∧top=3) then 1 else 0
def dirE (dir top:Int):Int:=if top=4 then (if dir=3∨dir=4 then 0 else 1) else (if dir=1∨dir=2 then 0 else 1)
def bare (r:Ru) (top:Int):Ru :=
  let r:={ r with frm:=0,«to»:=0 }
  if r.kind=1 then { r with guards:=[],ex:=[],fa:=[],send:=[],rd := -1,wr := -1 }
  else if r.kind=2 then { r with pf:=0,pt:=0,rd := -1,wr := -1 }
  else if r.kind=3 then { r with resp:=[],rd := -1,wr := -1 }
  else if r.kind=4 then (if top=4 then { r with pos:=0,left:=[],right:=[],parent:=[] } else { r with pos:=0,left:=[],right:=[] })
  else if r.kind=5 then { r with pf:=0,pt:=0,dir:=0 }
  else r
def samP (a b:Ru):Bool :=
  decide (a.kind=b.kind)&&decide (a.frm=b.frm)&&decide (a.to=b.to)&&decide (a.pf=b.pf)&&decide (a.pt=b.pt)&&decide (a.resp=b.resp)&&decide (a.guards=b.guards)&&decide (a.ex=b.ex)&&decide (a.fa=b.fa) &&
  decide (a.rd=b.rd)&&decide (a.wr=b.wr)&&decide (a.send=b.send)&&decide (a.pos=b.pos)&&decide (a.left=b.left)&&decide (a.right=b.right)&&decide (a.parent=b.parent)&&decide (a.dir=b.dir)
def plainR (kind:Int):Ru:=⟨⟨#[]⟩,kind,0,0,0,0,[],[],[],[],-1,-1,[],0,[],[],[],0⟩
def othB (r:Ru) (top:Int):Bool:=samP (bare r top) (plainR r.kind)
def stB (r:Ru) (n:Nat):Bool:=ixB n r.frm&&ixB n r.to&&ixB n r.pf&&ixB n r.pt
def partE (q:Fm) (r:Ru):Int :=
  if r.kind=3 then orE (reE q.states.length r.resp) (shE q.vals.length r.rd r.wr)
  else if r.kind=2 then shE q.vals.length r.rd r.wr
  else if r.kind=1 then orE (guardE q.msgs.length r.guards) (orE (setE q.states.length r.ex) (orE (setE q.states.length r.fa) (orE (shE q.vals.length r.rd r.wr) (setE q.msgs.length r.send))))
  else if r.kind=4 then orE (setE q.states.length r.left) (orE (setE q.states.length r.right) (orE (setE q.states.length r.parent) (posE r.pos q.top)))
  else dirE r.dir q.top
def hasR (rs:List Ru) (s:ByteArray):Bool:=rs.any fun r=>r.nm.toList==s.toList
def ruleE (q:Fm) (i:Nat) (r:Ru):Int :=
  if nameB r.nm.toList=false∨hasR (q.rules.take i) r.nm=true then 2
  else if fitB r.kind q.top=false∨othB r q.top=false then 6
  else if stB r q.states.length=false then 5
  else partE q r
def unusedB (r:Ru) (top:Int):Bool :=
  if r.kind≠1∧(r.guards≠[]∨r.ex≠[]∨r.fa≠[]∨r.send≠[]) then true
  else if r.kind≠1∧r.kind≠2∧r.kind≠3∧(r.rd ≠ -1∨r.wr ≠ -1) then true
  else if r.kind≠2∧r.kind≠5∧(r.pf≠0∨r.pt≠0) then true
  else if (r.kind≠3∧r.resp≠[])∨(r.kind≠5∧r.dir≠0) then true
  else if r.kind≠4∧(r.pos≠0∨r.left≠[]∨r.right≠[]) then true
  else decide (r.parent≠[]∧¬ (r.kind=4∧top=4))
def rkindB (r:Ru) (top:Int):Bool:=inB 1 5 r.kind&&(decide (r.kind≤3)==decide (top=1)) && !unusedB r top
def rstB (r:Ru) (n:Nat):Bool:=ixB n r.frm&&ixB n r.to&&(!(decide (r.kind=2)||decide (r.kind=5))||(ixB n r.pf&&ixB n r.pt))
def rpartE (q:Fm) (r:Ru):Int :=
  orE (if r.kind=3 then reE q.states.length r.resp else 0) <| orE (guardE q.msgs.length r.guards) <| orE (setE q.states.length r.ex) <| orE (setE q.states.length r.fa) <| orE (shE q.vals.length r.rd r.wr) <| orE (setE q.msgs.length r.send) <|
  orE (setE q.states.length r.left) <| orE (setE q.states.length r.right) <| orE (setE q.states.length r.parent) <| orE (if r.kind=4 then posE r.pos q.top else 0) (if r.kind=5 then dirE r.dir q.top else 0)
def rruleE (q:Fm) (i:Nat) (r:Ru):Int :=
  if nameB r.nm.toList=false∨hasR (q.rules.take i) r.nm=true then 2
  else if rkindB r q.top=false then 6
  else if rstB r q.states.length=false then 5
  else rpartE q r
theorem samP_iff (a b:Ru):samP a b=true↔a.kind=b.kind∧a.frm=b.frm∧a.to=b.to∧a.pf=b.pf∧a.pt=b.pt∧a.resp=b.resp∧a.guards=b.guards∧a.ex=b.ex∧a.fa=b.fa∧a.rd=b.rd∧a.wr=b.wr∧a.send=b.send∧a.pos=b.pos∧a.left=b.left∧a.right=b.right∧a.parent=b.parent∧a.dir=b.dir:=by
  unfold samP;simp only [Bool.and_eq_true,decide_eq_true_iff,and_assoc]
structure Emp (r:Ru) (top:Int):Prop where
  g:r.kind≠1→r.guards=[]∧r.ex=[]∧r.fa=[]∧r.send=[]
  s:r.kind≠1→r.kind≠2→r.kind≠3→r.rd = -1∧r.wr = -1
  p:r.kind≠2→r.kind≠5→r.pf=0∧r.pt=0
  b:r.kind≠3→r.resp=[]
  d:r.kind≠5→r.dir=0
  n:r.kind≠4→r.pos=0∧r.left=[]∧r.right=[]
  t:¬ (r.kind=4∧top=4)→r.parent=[]
theorem unused_emp (r:Ru) (top:Int):unusedB r top=false↔Emp r top:=by
  unfold unusedB
  constructor
  · intro h
    split at h
    · cases h
    rename_i h1
    split at h
    · cases h
    rename_i h2
    split at h
    · cases h
    rename_i h3
    split at h
    · cases h
    rename_i h4
    split at h
    · cases h
    rename_i h5
    rw [decide_eq_false_iff_not] at h
    simp only [not_and,not_or,Decidable.not_not] at h1 h2 h3 h4 h5 h
    exact ⟨h1,h2,h3,h4.1,h4.2,h5,fun hk=>Decidable.byContradiction fun hn=>by simp_all⟩
  rintro ⟨g,s,p,b,d,n,t⟩
  rw [if_neg (by rintro ⟨hk,h⟩;have:=g hk;simp_all),if_neg (by rintro ⟨h1,h2,h3,h⟩;have:=s h1 h2 h3;simp_all),if_neg (by rintro ⟨h1,h2,h⟩;have:=p h1 h2;simp_all),
    if_neg (by rintro (⟨h1,h⟩ | ⟨h1,h⟩)<;>simp_all),if_neg (by rintro ⟨h1,h⟩;have:=n h1;simp_all),decide_eq_false_iff_not]
  rintro ⟨h1,h2⟩
  exact h1 (t h2)
theorem oth_emp (r:Ru) (top:Int) (hk:r.kind=1∨r.kind=2∨r.kind=3∨r.kind=4∨r.kind=5):othB r top=true↔Emp r top:=by
  unfold othB
  rw [samP_iff]
  obtain ⟨nm,kind,frm,tt,pf,pt,resp,guards,ex,fa,rd,wr,send,pos,left,right,parent,dir⟩:=r
  unfold bare plainR
  dsimp only at hk ⊢
  rcases hk with rfl | rfl | rfl | rfl | rfl
  · simp only [if_pos]
    constructor
    · rintro ⟨-,-,-,h1,h2,h3,-,-,-,-,-,-,h4,h5,h6,h7,h8⟩
      exact ⟨by simp,by simp,fun _ _=>⟨h1,h2⟩,fun _=>h3,fun _=>h8,fun _=>⟨h4,h5,h6⟩,fun _=>h7⟩
    rintro ⟨g,s,p,b,d,n,t⟩
    have:=p (by simp) (by simp);have:=n (by simp);have:=b (by simp);have:=d (by simp);have:=t (by simp)
    simp_all
  · simp only [show ¬ ((2:Int)=1) by omega,if_pos,if_neg,not_false_eq_true]
    constructor
    · rintro ⟨-,-,-,-,-,h3,h9,h10,h11,-,-,h12,h4,h5,h6,h7,h8⟩
      exact ⟨fun _=>⟨h9,h10,h11,h12⟩,by simp,by simp,fun _=>h3,fun _=>h8,fun _=>⟨h4,h5,h6⟩,fun _=>h7⟩
    rintro ⟨g,s,p,b,d,n,t⟩
    have:=g (by simp);have:=n (by simp);have:=b (by simp);have:=d (by simp);have:=t (by simp)
    simp_all
  · simp only [show ¬ ((3:Int)=1) by omega,show ¬ ((3:Int)=2) by omega,if_pos,if_neg,not_false_eq_true]
    constructor
    · rintro ⟨-,-,-,h1,h2,-,h9,h10,h11,-,-,h12,h4,h5,h6,h7,h8⟩
      exact ⟨fun _=>⟨h9,h10,h11,h12⟩,by simp,fun _ _=>⟨h1,h2⟩,by simp,fun _=>h8,fun _=>⟨h4,h5,h6⟩,fun _=>h7⟩
    rintro ⟨g,s,p,b,d,n,t⟩
    have:=g (by simp);have:=n (by simp);have:=p (by simp) (by simp);have:=d (by simp);have:=t (by simp)
    simp_all
  · simp only [show ¬ ((4:Int)=1) by omega,show ¬ ((4:Int)=2) by omega,show ¬ ((4:Int)=3) by omega,if_pos,if_neg,not_false_eq_true]
    by_cases ht:top=4
    · simp only [if_pos ht]
      constructor
      · rintro ⟨-,-,-,h1,h2,h3,h9,h10,h11,h13,h14,h12,-,-,-,-,h8⟩
        exact ⟨fun _=>⟨h9,h10,h11,h12⟩,fun _ _ _=>⟨h13,h14⟩,fun _ _=>⟨h1,h2⟩,fun _=>h3,fun _=>h8,by simp,by simp [ht]⟩
      rintro ⟨g,s,p,b,d,n,t⟩
      have:=g (by simp);have:=s (by simp) (by simp) (by simp);have:=p (by simp) (by simp);have:=b (by simp);have:=d (by simp)
      simp_all
    simp only [if_neg ht]
    constructor
    · rintro ⟨-,-,-,h1,h2,h3,h9,h10,h11,h13,h14,h12,-,-,-,h7,h8⟩
      exact ⟨fun _=>⟨h9,h10,h11,h12⟩,fun _ _ _=>⟨h13,h14⟩,fun _ _=>⟨h1,h2⟩,fun _=>h3,fun _=>h8,by simp,fun _=>h7⟩
    rintro ⟨g,s,p,b,d,n,t⟩
    have:=g (by simp);have:=s (by simp) (by simp) (by simp);have:=p (by simp) (by simp);have:=b (by simp);have:=d (by simp);have:=t (by simp [ht])
    simp_all
  simp only [show ¬ ((5:Int)=1) by omega,show ¬ ((5:Int)=2) by omega,show ¬ ((5:Int)=3) by omega,show ¬ ((5:Int)=4) by omega,if_pos,if_neg,not_false_eq_true]
  constructor
  · rintro ⟨-,-,-,-,-,h3,h9,h10,h11,h13,h14,h12,h4,h5,h6,h7,-⟩
    exact ⟨fun _=>⟨h9,h10,h11,h12⟩,fun _ _ _=>⟨h13,h14⟩,by simp,fun _=>h3,by simp,fun _=>⟨h4,h5,h6⟩,fun _=>h7⟩
  rintro ⟨g,s,p,b,d,n,t⟩
  have:=g (by simp);have:=s (by simp) (by simp) (by simp);have:=b (by simp);have:=n (by simp);have:=t (by simp)
  simp_all
theorem kind_of_fit {kind top:Int} (h:fitB kind top=true):kind=1∨kind=2∨kind=3∨kind=4∨kind=5:=by
  unfold fitB at h;split at h
  · omega
  split at h
  · omega
  cases h
theorem fit_eq (r:Ru) (top:Int):(fitB r.kind top&&othB r top)=rkindB r top:=by
  unfold rkindB
  by_cases hk:r.kind=1∨r.kind=2∨r.kind=3∨r.kind=4∨r.kind=5
  · have e:othB r top = !unusedB r top:=by
      rw [Bool.eq_iff_iff,oth_emp r top hk,← unused_emp];simp
    have e2:inB 1 5 r.kind=true:=by unfold inB;simp;omega
    rw [e,e2,Bool.true_and]
    congr 1
    unfold fitB
    by_cases h3:r.kind≤3
    · rw [if_pos (by omega),decide_eq_true h3];by_cases ht:top=1<;>simp [ht]
    rw [if_neg (by omega),if_pos (by omega),decide_eq_false h3];by_cases ht:top=1<;>simp [ht]
  have e2:inB 1 5 r.kind=false:=by unfold inB;simp;omega
  have e3:fitB r.kind top=false:=by unfold fitB;rw [if_neg (by omega),if_neg (by omega)]
  rw [e2,e3];simp
theorem rule_eq (q:Fm) (i:Nat) (r:Ru) (hs:q.states≠[]):ruleE q i r=rruleE q i r:=by
  unfold ruleE rruleE
  have hn:0<q.states.length:=List.length_pos_iff.2 hs
  by_cases h1:nameB r.nm.toList=false∨hasR (q.rules.take i) r.nm=true
  · rw [if_pos h1,if_pos h1]
  rw [if_neg h1,if_neg h1]
  have hf:=fit_eq r q.top
  cases hr:rkindB r q.top with
  | false =>
    rw [hr] at hf
    rw [if_pos (by cases hA:fitB r.kind q.top<;>cases hB:othB r q.top<;>simp_all),if_pos rfl]
  | true =>
    rw [hr,Bool.and_eq_true] at hf
    obtain ⟨hf,ho⟩:=hf
    have hk:=kind_of_fit hf
    have he:=(oth_emp r q.top hk).1 ho
    rw [if_neg (by rw [hf,ho];simp),if_neg (by simp:¬ (true=false))]
    obtain ⟨g,s,p,b,d,n,t⟩:=he
    have z0:ixB q.states.length 0=true:=by unfold ixB inB;simp;omega
    have hst:stB r q.states.length=rstB r q.states.length:=by
      unfold stB rstB
      by_cases hk2:r.kind=2∨r.kind=5
      · have:(decide (r.kind=2)||decide (r.kind=5))=true:=by simpa using hk2
        rw [this];simp [Bool.and_assoc]
      have e:=p (by omega) (by omega)
      have:(decide (r.kind=2)||decide (r.kind=5))=false:=by simpa using hk2
      rw [this,e.1,e.2,z0];simp
    rw [hst]
    by_cases hb:rstB r q.states.length=false
    · rw [if_pos hb,if_pos hb]
    rw [if_neg hb,if_neg hb]
    unfold partE rpartE
    rcases hk with hk | hk | hk | hk | hk
    · have e1:=n (by omega);have e2:=t (by omega)
      rw [hk,e1.2.1,e1.2.2,e2]
      simp [setE_nil,Y4,Kd]
    · have e0:=g (by omega);have e1:=n (by omega);have e2:=t (by omega)
      rw [hk,e0.1,e0.2.1,e0.2.2.1,e0.2.2.2,e1.2.1,e1.2.2,e2]
      simp [setE_nil,Y4,Kd,guardE_nil]
    · have e0:=g (by omega);have e1:=n (by omega);have e2:=t (by omega)
      rw [hk,e0.1,e0.2.1,e0.2.2.1,e0.2.2.2,e1.2.1,e1.2.2,e2]
      simp [setE_nil,Y4,Kd,guardE_nil]
    · have e0:=g (by omega);have e1:=s (by omega) (by omega) (by omega)
      rw [hk,e0.1,e0.2.1,e0.2.2.1,e0.2.2.2,e1.1,e1.2]
      simp [setE_nil,Y4,Kd,guardE_nil,shE_none]
    have e0:=g (by omega);have e1:=s (by omega) (by omega) (by omega);have e2:=n (by omega);have e3:=t (by omega)
    rw [hk,e0.1,e0.2.1,e0.2.2.1,e0.2.2.2,e1.1,e1.2,e2.2.1,e2.2.2,e3]
    simp [setE_nil,Y4,guardE_nil,shE_none]
def addT (l:List Th) (g:Th):List Th:=if g∈l then l else l++[g]
def diffG (rs:List Ru):List Th:=rs.foldl (fun l r=>r.guards.foldl addT l) []
def rulesE (q:Fm):Nat→Nat→Int
  | _,0=>0
  | i,f+1=>if ruleE q i (q.rules.getD i default)=0 then rulesE q (i+1) f else ruleE q i (q.rules.getD i default)
def cliB (q:Fm):Bool:=decide (0<q.msgs.length)||decide (0<q.vals.length)||decide (0<q.res.length)||decide (q.fault≠0)
def valE (q:Fm):Int :=
  if nameB q.nm.toList=false then 2
  else if inB 1 4 q.top=false∨inB 0 3 q.fault=false then 1
  else if q.states.length=0 then 1
  else if tooB q=true then 4
  else if nmOk (q.states++(q.msgs++q.vals)) (q.states++(q.msgs++q.vals)).length=false then 2
  else if (q.top≠1∧cliB q=true)∨(q.top=1∧0<q.leader.length) then 1
  else if (q.res.any fun l => !smL l.c l.n l.t l.f)=true then 4
  else orE (if q.init.length=0 then 1 else setE q.states.length q.init) (orE (setE q.states.length q.leader) (orE (rulesE q 0 q.rules.length) (if 3<(diffG q.rules).length then 4 else 0)))
set_option maxHeartbeats 12800000
theorem setE_bad {n:Nat} {xs:List Int} {k:Nat} (h:k<xs.length) (hp:ixB n xs[k]=false):setE n xs=5:=by unfold setE;rw [if_pos (allK_no h hp)]
theorem setE_asc {n:Nat} {xs:List Int} {k:Nat} (ha:allK n xs xs.length=true) (h:k<xs.length) (h0:0<k) (hp:¬ xs.getD (k-1) 0<xs.getD k 0):setE n xs=1:=by
  unfold setE;rw [if_neg (by rw [ha];simp),if_pos (ascK_no h h0 hp)]
theorem setE_ok {n:Nat} {xs:List Int} (ha:allK n xs xs.length=true) (hb:ascK xs xs.length=true):setE n xs=0:=by
  unfold setE;rw [if_neg (by rw [ha];simp),if_neg (by rw [hb];simp)]
theorem ascK_le {xs:List Int} {k n:Nat} (h:ascK xs k=true) (hn:n≤k):ascK xs n=true:=by
  unfold ascK at *
  rw [List.all_eq_true] at *
  exact fun j hj=>h j (List.mem_range.2 (by have:=List.mem_range.1 hj;omega))
theorem setError_full (b off m cap n:Nat) (w:World) (xs:List Int) (hx:xs.length=m) (hm:m≤9223372036854775807) (hn:n≤9223372036854775807)
    (hc:∀ i,i<m→w.cell? ⟨b,off+i,none⟩=some (.int .i64 (xs.getD i 0))) :
    Calls Try.prog 49 #[.slice (some ⟨b,off,none⟩) m cap,.int .i64 n] w fun e w'=>e = .returned (.int .i64 (setE n xs))∧∃ q,w'=w.drewN q:=by
  have HC:=Lib.hid hc
  have HX:=Lib.hid hx
  clear hc hx
  go_enter Try.func49,Try.ntmps49
  go_wp2_with fail
  go_loop [10] (fun u=>∃ k:Nat,k≤m∧u = .int .i64 k∧allK n xs k=true) (fun u=>m-(intOf u).toNat)
  case atStart=>exact ⟨0,Nat.zero_le _,rfl,rfl⟩
  case round =>
    obtain ⟨k,hk,rfl,hs⟩:=hrel
    have HS:=Lib.hid hs
    clear hs
    by_cases hlt:k<m
    · have g1:=HC.out k hlt
      have hkx:k<xs.length:=by rw [HX.out];exact hlt
      have ex:xs.getD k 0=xs[k]:=by simp [List.getD,List.getElem?_eq_getElem hkx]
      have HE:=Lib.hid ex
      generalize hX:xs.getD k 0=x at g1 HE
      clear ex hX
      cases hp:ixB n x with
      | true =>
        have HP:=Lib.hid hp
        clear hp
        go_wp2_with (go_at_call 72;refine (Zz x n hn _).mono ?_;rintro e w1 ⟨rfl,rfl⟩;rw [HP.out])
        go_round
        case rel=>exact ⟨k+1,by omega,by go_num,allK_succ hkx HS.out (by rw [← HE.out];exact HP.out)⟩
        case measure=>simp [intOf];omega
      | false =>
        have HP:=Lib.hid hp
        clear hp
        go_wp2_with (go_at_call 72;refine (Zz x n hn _).mono ?_;rintro e w1 ⟨rfl,rfl⟩;rw [HP.out])
        go_ret
        exact ⟨Zt (by rw [setE_bad hkx (by rw [← HE.out];exact HP.out)]),0,rfl⟩
    have HA:Hid (allK n xs xs.length=true):=by show _=_;rw [HX.out];have:k=m:=by omega
                                               rw [← this];exact HS.out
    go_wp2_with fail
    go_loopw [7] (fun u wr=>∃ (k q:Nat),1≤k∧u = .int .i64 k∧(k≤m∨k=1)∧ascK xs k=true∧wr=w.drewN q) (fun u _=>m-(intOf u).toNat)
    case atStart=>exact ⟨1,0,Nat.le_refl _,rfl,.inr rfl,ascK_one xs,rfl⟩
    case round =>
      obtain ⟨k,q,hk1,rfl,hk2,hs,rfl⟩:=hrel
      have HS:=Lib.hid hs
      have HK:=Lib.hid hk2
      clear hs hk2
      by_cases hlt:k<m
      · have g1:=HC.out k hlt
        have g2:=HC.out (k-1) (by omega)
        have e1:off+(k-1)=off+k-1:=by omega
        have ei:((k:Int)-1).toNat=k-1:=by omega
        have p1:(0:Int)≤(k:Int)-1:=by omega
        have p2:(k:Int)-1<(m:Int):=by omega
        have p3:(k:Int)<(m:Int):=by omega
        have wn:IntKind.i64.wrap ((k:Int)-1)=(k:Int)-1:=IntWalk.i64_in _ (by omega)
        generalize hX:xs.getD k 0=x at g1
        generalize hY:xs.getD (k-1) 0=y at g2
        have HX':=Lib.hid hX
        have HY':=Lib.hid hY
        clear hX hY e1
        by_cases hp:y<x
        · have b1:decide (x≤y)=false:=by simpa using hp
          have HP:=Lib.hid hp
          clear hp
          go_wp2_with fail
          go_quiet (fail)
          go_wp2_with fail
          go_roundw
          case rel=>exact ⟨k+1,q+nq,by omega,by go_num,.inl (by omega),ascK_succ HS.out (by rw [HX'.out,HY'.out];exact HP.out),by first | rfl | rw [World.drewN_drewN]⟩
          case measure=>simp [intOf];omega
        have b1:decide (x≤y)=true:=by simp;omega
        have HP:=Lib.hid hp
        clear hp
        go_wp2_with fail
        go_quiet (fail)
        go_wp2_with fail
        go_ret
        exact ⟨Zt (by rw [setE_asc HA.out (k:=k) (by rw [HX.out];exact hlt) hk1 (by rw [HX'.out,HY'.out];have:=HP.out;omega)]),q+nq,by first | rfl | rw [World.drewN_drewN]⟩
      have HE:=Lib.hid (setE_ok HA.out (ascK_le HS.out (by rw [HX.out];have:=HK.out;omega)))
      go_wp2_with fail
      go_ret
      exact ⟨Zt (by rw [HE.out]),q,rfl⟩
theorem setError_empty (a:Option Addr) (cap n:Nat) (w:World) :
    Calls Try.prog 49 #[.slice a 0 cap,.int .i64 n] w fun e w'=>e = .returned (.int .i64 (setE n []))∧∃ q,w'=w.drewN q:=by
  rw [setE_nil]
  go_enter Try.func49,Try.ntmps49
  go_wp2_with fail
  refine wp_loop_rounds 1 ?_
  rw [rounds_succ]
  go_wp2_with fail
  refine wp_loop_rounds 1 ?_
  rw [rounds_succ]
  go_wp2_with fail
  go_ret
  exact ⟨rfl,0,rfl⟩
theorem setError_q {lo:Nat} {w:World} {v:Value} {xs:List Int} (n:Nat) (hn:n≤9223372036854775807) (h:IsInts lo w v xs) :
    Calls Try.prog 49 #[v,.int .i64 n] w fun e w'=>e = .returned (.int .i64 (setE n xs))∧∃ q,w'=w.drewN q:=by
  obtain ⟨a,cap,rfl,hl,hm,hi,hc⟩:=h
  unfold maxLen at hm
  rcases hc with rfl | ⟨b,off,rfl,_,_,hc⟩
  · exact setError_empty _ _ _ _
  exact setError_full _ _ _ _ _ _ _ rfl (by omega) hn hc
theorem Yq {lo:Nat} {w:World} {v:Value} {xs:List Int} (n:Nat) (hn:n≤9223372036854775807) (h:IsInts lo w v xs) :
    Calls Try.prog 49 #[v,.int .i64 n] w fun e w'=>e = .returned (.int .i64 (setE n xs))∧Below w.heap.size w w' :=
  (setError_q n hn h).mono fun _ _ ⟨h1,q,h2⟩=>⟨h1,by rw [h2];exact quietBelow (Below.refl _ _) q⟩
def someE (n:Nat) (xs:List Int):Int:=if xs.length=0 then 1 else setE n xs
theorem someSetError_any {lo:Nat} {w:World} {v:Value} {xs:List Int} (n:Nat) (hn:n≤9223372036854775807) (h:IsInts lo w v xs) :
    Calls Try.prog 48 #[v,.int .i64 n] w fun e w'=>e = .returned (.int .i64 (someE n xs))∧Below w.heap.size w w':=by
  have H:=Lib.hid h
  have hbd:xs.length≤9223372036854775807:=by obtain ⟨_,_,_,hh,hm,_⟩:=h;unfold maxLen at hm;omega
  obtain ⟨a,cap,rfl⟩:=h.shape
  clear h
  by_cases h0:xs.length=0
  · have E:=Lib.hid (show someE n xs=1 from if_pos h0)
    have b0:((xs.length:Int)==0)=true:=by rw [h0];rfl
    clear h0
    go_enter Try.func48,Try.ntmps48
    go_wp2_with fail
    go_ret
    exact ⟨Zt (by rw [E.out]),Below.refl _ _⟩
  have E:=Lib.hid (show someE n xs=setE n xs from if_neg h0)
  have b0:((xs.length:Int)==0)=false:=by rw [beq_eq_false_iff_ne];omega
  clear h0
  go_enter Try.func48,Try.ntmps48
  go_wp2_with (go_at_call 49;refine (Yq n hn H.out).mono ?_;rintro e w1 ⟨rfl,hb1⟩)
  go_ret
  exact ⟨Zt (by rw [E.out]),hb1⟩
variable {J:World→Prop}
structure RuLen (r:Ru):Prop where
  resp:r.resp.length≤17592186044416
  guards:r.guards.length≤1000000000
  ex:r.ex.length≤17592186044416
  fa:r.fa.length≤17592186044416
  send:r.send.length≤17592186044416
  left:r.left.length≤17592186044416
  right:r.right.length≤17592186044416
  parent:r.parent.length≤17592186044416
def cmpI:List Int→List Int→Int
  | [],[]=>0
  | [],_::_ => -1
  | _::_,[]=>1
  | x::xs,y::ys=>if x<y then -1 else if y<x then 1 else cmpI xs ys
theorem cmpInts_full (b off n cap b' off' n' cap':Nat) (w:World) (xs ys:List Int) (hx:xs.length=n) (hy:ys.length=n') (hn:n≤9223372036854775807)
    (hc:∀ i,i<n→w.cell? ⟨b,off+i,none⟩=some (.int .i64 (xs.getD i 0))) (hc':∀ i,i<n'→w.cell? ⟨b',off'+i,none⟩=some (.int .i64 (ys.getD i 0))) :
    Calls Try.prog 29 #[.slice (some ⟨b,off,none⟩) n cap,.slice (some ⟨b',off',none⟩) n' cap'] w fun e w'=>e = .returned (.int .i64 (cmpI xs ys))∧Below w.heap.size w w':=by
  go_enter Try.func29,Try.ntmps29
  go_wp2
  go_loopw [5] (fun v wr=>∃ k:Nat,k≤n∧k≤n'∧v = .int .i64 k∧cmpI (xs.drop k) (ys.drop k)=cmpI xs ys∧Below w.heap.size w wr∧(∀ p:Addr,wr.cell? p=w.cell? p)) (fun v _=>n-(intOf v).toNat)
  case atStart=>exact ⟨0,Nat.zero_le _,Nat.zero_le _,rfl,rfl,Below.refl _ _,fun _=>rfl⟩
  case round =>
    obtain ⟨k,hk,hk',rfl,hcm,hb,hsame⟩:=hrel
    have HS:Hid (∀ p:Addr,wr.cell? p=w.cell? p):=hsame
    have HB:Hid (Below w.heap.size w wr):=hb
    by_cases h1:k<n
    · by_cases h2:k<n'
      · have g1:wr.cell? ⟨b,off+k,none⟩=some (.int .i64 (xs.getD k 0)):=(hsame _).trans (hc k h1)
        have g2:wr.cell? ⟨b',off'+k,none⟩=some (.int .i64 (ys.getD k 0)):=(hsame _).trans (hc' k h2)
        have HC:Hid (cmpI xs ys=(if xs[k]'(by omega)<ys[k]'(by omega) then -1 else if ys[k]'(by omega)<xs[k]'(by omega) then 1 else cmpI (xs.drop (k+1)) (ys.drop (k+1)))):=by
          show _=_
          rw [← hcm,List.drop_eq_getElem_cons (l:=xs) (by omega),List.drop_eq_getElem_cons (l:=ys) (by omega),cmpI]
        clear hsame hcm hb
        go_wp2
        go_quiet (fail)
        go_wp2
        · have hlt:xs[k]<ys[k]:=by assumption
          go_ret
          exact ⟨Zt (by rw [HC.out,if_pos hlt]),quietBelow HB.out _⟩
        have hle:ys[k]≤xs[k]:=by assumption
        go_quiet (fail)
        go_wp2
        · have hlt:ys[k]<xs[k]:=by assumption
          go_ret
          exact ⟨Zt (by rw [HC.out,if_neg (by omega),if_pos hlt]),(by (repeat refine quietBelow ?_ _);exact HB.out)⟩
        have hle':xs[k]≤ys[k]:=by assumption
        go_roundw
        case rel=>exact ⟨k+1,by omega,by omega,by go_num,by rw [HC.out,if_neg (by omega),if_neg (by omega)],(by (repeat refine quietBelow ?_ _);exact HB.out),fun p=>HS.out p⟩
        case measure=>simp [intOf];omega
      have hd:ys.drop k=[]:=List.drop_eq_nil_of_le (by omega)
      have HC:Hid (cmpI xs ys=1):=by
        show _=_
        rw [← hcm,hd,List.drop_eq_getElem_cons (by omega),cmpI]
      have hlt:n'<n:=by omega
      clear hsame hcm hb hd
      go_wp2
      go_ret
      exact ⟨Zt HC.out.symm,HB.out⟩
    have hkn:k=n:=by omega
    have hd:xs.drop k=[]:=List.drop_eq_nil_of_le (by omega)
    by_cases h2:n<n'
    · have HC:Hid (cmpI xs ys = -1):=by
        show _=_
        rw [← hcm,hd,List.drop_eq_getElem_cons (by omega),cmpI]
      clear hsame hcm hb hd hkn
      go_wp2
      go_ret
      exact ⟨Zt HC.out.symm,HB.out⟩
    have HC:Hid (cmpI xs ys=0):=by
      show _=_
      rw [← hcm,hd,List.drop_eq_nil_of_le (by omega),cmpI]
    have hnn:¬ n'<n:=by omega
    clear hsame hcm hb hd hkn
    go_wp2
    go_ret
    exact ⟨Zt HC.out.symm,HB.out⟩
theorem cmpInts_left (a a':Option Addr) (cap n' cap':Nat) (w:World) (ys:List Int) (hy:ys.length=n') (hn':n'≤9223372036854775807) :
    Calls Try.prog 29 #[.slice a 0 cap,.slice a' n' cap'] w fun e w'=>e = .returned (.int .i64 (cmpI [] ys))∧Below w.heap.size w w':=by
  have HC:Hid (cmpI [] ys=if 0<n' then -1 else 0):=by
    show _=_
    cases ys<;>simp_all [cmpI]<;>omega
  by_cases h2:0<n'
  · go_enter Try.func29,Try.ntmps29
    go_wp2
    go_rounds 1
    go_ret
    exact ⟨Zt (by rw [HC.out,if_pos h2]),Below.refl _ _⟩
  obtain rfl:n'=0:=by omega
  clear h2
  go_enter Try.func29,Try.ntmps29
  go_wp2
  go_rounds 1
  go_ret
  exact ⟨Zt (by rw [HC.out];rfl),Below.refl _ _⟩
theorem cmpInts_right (a a':Option Addr) (n cap cap':Nat) (w:World) (x:Int) (xs:List Int) (hx:(x::xs).length=n) (hn:n≤9223372036854775807) :
    Calls Try.prog 29 #[.slice a n cap,.slice a' 0 cap'] w fun e w'=>e = .returned (.int .i64 (cmpI (x::xs) []))∧Below w.heap.size w w':=by
  have h2:0<n:=by simp at hx;omega
  clear hx
  go_enter Try.func29,Try.ntmps29
  go_wp2
  go_rounds 1
  go_ret
  exact ⟨rfl,Below.refl _ _⟩
theorem Ka {lo lo':Nat} {w:World} {v v':Value} {xs ys:List Int} (h:IsInts lo w v xs) (h':IsInts lo' w v' ys) :
    Calls Try.prog 29 #[v,v'] w fun e w'=>e = .returned (.int .i64 (cmpI xs ys))∧Below w.heap.size w w':=by
  obtain ⟨a,cap,rfl,hl,hm,hi,hc⟩:=h
  obtain ⟨a',cap',rfl,hl',hm',hi',hc'⟩:=h'
  unfold maxLen at hm hm'
  rcases hc with rfl | ⟨b,off,rfl,_,_,hc⟩
  · exact cmpInts_left _ _ _ _ _ _ _ rfl (by omega)
  rcases hc' with rfl | ⟨b',off',rfl,_,_,hc'⟩
  · cases xs with
    | nil=>exact cmpInts_left _ _ _ _ _ _ _ rfl (by simp)
    | cons x xs=>exact cmpInts_right _ _ _ _ _ _ _ _ rfl (by omega)
  exact cmpInts_full _ _ _ _ _ _ _ _ _ _ _ rfl rfl (by omega) hc hc'
def OwnV (lo:Nat) (w:World) (v:Value) (xs:List Int):Prop :=
  (v = .slice none 0 0∧xs=[])∨∃ g cap,v = .slice (some ⟨g,0,none⟩) xs.length cap∧xs.length≤cap∧cap≤maxLen∧OwnInts lo w g xs
theorem OwnV.ints {lo:Nat} {w:World} {v:Value} {xs:List Int} (h:OwnV lo w v xs):IsInts lo w v xs:=by
  rcases h with ⟨rfl,rfl⟩ | ⟨g,cap,rfl,hl,hm,h1,h2,h3,cur,t,hg,hc⟩
  · exact ⟨none,0,rfl,by simp,by simp [maxLen],by simp,.inl rfl⟩
  exact Y5 hg h1 rfl hl hm h3 hc
theorem OwnV.below {lo:Nat} {w w':World} {v:Value} {xs:List Int} (h:OwnV lo w v xs) (hb:Below w.heap.size w w'):OwnV lo w' v xs:=by
  rcases h with h | ⟨g,cap,hv,hl,hm,h⟩
  · exact .inl h
  exact .inr ⟨g,cap,hv,hl,hm,h.below hb⟩
theorem OwnV.mono {lo lo':Nat} {w:World} {v:Value} {xs:List Int} (h:OwnV lo w v xs) (hl':lo'≤lo):OwnV lo' w v xs:=by
  rcases h with h | ⟨g,cap,hv,hl,hm,h⟩
  · exact .inl h
  exact .inr ⟨g,cap,hv,hl,hm,h.mono hl'⟩
theorem OwnV.shape {lo:Nat} {w:World} {v:Value} {xs:List Int} (h:OwnV lo w v xs):∃ a cap,v = .slice a xs.length cap:=h.ints.shape
theorem own_of_row {lo:Nat} {w:World} {v:Value} {e:TypeId} {xs:List Int} (h:w.ownsRow lo e 1 v xs.length (xs.map (Value.int .i64))) (hi:∀ x∈xs,I64 x):OwnV lo w v xs:=by
  obtain ⟨_,h⟩:=h
  rcases h with ⟨hv,hn⟩ | ⟨g,cap,cur,hv,hb,hg,hnc,hcm,hcs,htake⟩
  · exact .inl ⟨hv,List.eq_nil_of_length_eq_zero hn⟩
  refine .inr ⟨g,cap,hv,hnc,hcm,hb,Nat.le_trans hnc hcm,hi,cur,e,hg,fun i h => ?_⟩
  have h1:(cur.toList.take (xs.length*1))[i]? = some (.int .i64 (xs.getD i 0)):=by rw [htake];simp [h]
  rw [List.getElem?_take,if_pos (by omega)] at h1
  simpa using h1
theorem info_int4:∃ i,Try.prog.info? 3=some i∧i.zero=some (.int .i64 0)∧i.size=1∧i.bytes=8:=by
  obtain ⟨i,hi,h⟩:=Option.map_eq_some_iff.1 (show (Try.prog.info? 3).map (fun i=>(i.zero,i.size,i.bytes))=some (some (.int .i64 0),1,8) by kernel_rfl)
  simp only [Prod.mk.injEq] at h
  exact ⟨i,hi,h.1,h.2.1,h.2.2⟩
theorem cmpI_self:∀ xs,cmpI xs xs=0
  | []=>rfl
  | x::xs=>by simp [cmpI,cmpI_self xs]
theorem cmpI_zero:∀ {xs ys:List Int},cmpI xs ys=0→xs=ys
  | [],[],_=>rfl
  | [],_::_,h=>by simp [cmpI] at h
  | _::_,[],h=>by simp [cmpI] at h
  | x::xs,y::ys,h=>by
    unfold cmpI at h
    split at h
    · cases h
    split at h
    · cases h
    rw [show x=y by omega,cmpI_zero h]
def eqI (xs ys:List Int):Bool:=decide (xs=ys)
theorem eqI_cmp (xs ys:List Int):(cmpI xs ys==0)=eqI xs ys:=by
  unfold eqI
  rw [Bool.eq_iff_iff,beq_iff_eq,decide_eq_true_iff]
  exact ⟨cmpI_zero,fun h=>by rw [h];exact cmpI_self _⟩
theorem SameInts_any {lo lo':Nat} {w:World} {v v':Value} {xs ys:List Int} (h:IsInts lo w v xs) (h':IsInts lo' w v' ys) :
    Calls Try.prog 15 #[v,v'] w fun e w'=>e = .returned (.bool (eqI xs ys))∧Below w.heap.size w w':=by
  obtain ⟨a,cap,rfl⟩:=h.shape
  obtain ⟨a',cap',rfl⟩:=h'.shape
  have E:=hid0 (eqI_cmp xs ys)
  go_enter Try.func15,Try.ntmps15
  go_wp2_with (go_at_call 29;refine (Ka h h').mono ?_;rintro e w1 ⟨rfl,hb1⟩)
  go_ret
  exact ⟨Zi E.out,hb1⟩
theorem row_still {w w':World} {B e size n:Nat} {v:Value} {xs:List Value} (h:w.ownsRow B e size v n xs) (hb:Below w.heap.size w w'):w'.ownsRow B e size v n xs:=by
  obtain ⟨h1,h2⟩:=h
  refine ⟨h1,?_⟩
  rcases h2 with h2 | ⟨g,cap,cur,hv,hg,hh,r⟩
  · exact .inl h2
  exact .inr ⟨g,cap,cur,hv,hg,by rw [hb.block g (Array.getElem?_eq_some_iff.1 hh).1];exact hh,r⟩
theorem info_str4:∃ i:TypeInfo,Try.prog.info? 9=some i∧i.zero=some (.string ⟨#[]⟩)∧i.size=1∧i.bytes=16:=by
  have h:(Try.prog.info? 9).map (fun i=>(i.zero,i.size,i.bytes))=some (some (.string ⟨#[]⟩),1,16):=by kernel_rfl
  obtain ⟨i,hi,hz⟩:=Option.map_eq_some_iff.1 h
  simp only [Prod.mk.injEq] at hz
  exact ⟨i,hi,hz.1,hz.2.1,hz.2.2⟩
theorem grow_own (w:World) (n:Nat) (hn:n≤1000) :
    (w.drew.alloc (.cells (Builtin.zeroCells (Value.string ⟨#[]⟩).cells n++Builtin.zeroCells (Value.string ⟨#[]⟩).cells (grownCap w n 0 9-n)) 9)).ownsRow w.heap.size 9 1 (.slice (some ⟨w.heap.size,0,none⟩) 0 (grownCap w n 0 9)) 0 []:=by
  have h1:=grownCap_ge w n 0 9
  have h2:=grownCap_le_maxLen w n 0 9 (by unfold maxLen;omega)
  refine ⟨rfl,.inr ⟨w.heap.size,_,_,rfl,Nat.le_refl _,heap_alloc_new w.drew _,Nat.zero_le _,h2,?_,by simp⟩⟩
  rw [Array.size_append,size_zeroCells,size_zeroCells]
  show n*1+(_-n)*1=_*1
  omega
set_option maxRecDepth 100000 in
theorem Grow_nil (n:Nat) (hn:n≤1000) (w:World) :
    Calls Try.prog 82 #[.slice none 0 0,.int .i64 n] w fun e w'=>∃ a c,e = .returned (.slice a 0 c)∧w'.ownsRow w.heap.size 9 1 (.slice a 0 c) 0 []∧Below w.heap.size w w':=by
  by_cases h0:n=0
  · subst h0
    go_enter Try.func82,Try.ntmps82
    go_wp2_with fail
    go_ret
    exact ⟨_,_,rfl,World.ownsRow_nil _ _ _ _,Below.refl _ _⟩
  have g1:(0:Int)<(n:Int):=by omega
  obtain ⟨i0,hi0,hz0,hz1,hz2⟩:=info_str4
  have R:=Lib.hid (Lib.run_append_nil_zeros (P:=Try.prog) w 22 3 22 9 i0 (.string ⟨#[]⟩) .i64 .i64 Try.underlying22 Try.underlying3 hi0 hz0 n (by omega) (by omega) (by omega) (by rw [hz2];omega))
  clear hi0 hz0 hz1 hz2
  go_enter Try.func82,Try.ntmps82
  go_wp2_with (at_builtin;refine Lib.wpList_append_run _ rfl (.tmp 20) (.tmp 21) 22 3 rfl _ _ rfl rfl _ _ R.out ?_)
  go_ret
  exact ⟨_,_,rfl,grow_own w n hn,(drewBelow w).trans ((Zf w.drew _).mono (by simp))⟩
theorem sl_src {lo:Nat} {w:World} {ad:Addr} {n c:Nat} {xs:List ByteArray} (h:IsSl 1 StrEl lo w (.slice (some ad) n c) xs) (w':World) (hb:Below w.heap.size w w') (j:Nat) (u:Value) (hj:(xs.map Value.string)[j]? = some u):w'.cell? (ad.add j)=some u:=by
  have hjl:j<xs.length:=by have:=(List.getElem?_eq_some_iff.1 hj).1;simpa using this
  obtain ⟨b,off,cs,ha,_,hbk,hl,hc,hel⟩:=h.at j hjl
  cases ha
  have h0:=hc 0 (by omega)
  rw [hel.1] at h0
  have:(xs.map Value.string)[j]? = some (.string xs[j]):=by simp [hjl]
  rw [this] at hj
  cases hj
  simp only [Nat.add_zero,Nat.mul_one] at h0
  have e:=(hb.cell (p:=⟨b,off+j,none⟩) hbk).trans h0
  by_cases j0:j=0
  · subst j0;simpa [Addr.add] using e
  simpa [Addr.add,j0] using e
theorem row_sl {lo:Nat} {w:World} {v:Value} {n:Nat} {xs:List ByteArray} (h:w.ownsRow lo 9 1 v n (xs.map Value.string)) (hs:∀ s∈xs,s.size≤maxLen):IsSl 1 StrEl lo w v xs:=by
  obtain ⟨hl,h2⟩:=h
  have hn:n=xs.length:=by simpa using hl.symm
  subst hn
  rcases h2 with ⟨rfl,h0⟩ | ⟨g,cap,cur,rfl,hb,hg,hn,hm,hc,ht⟩
  · exact ⟨none,0,by rw [h0],by omega,by simp [maxLen],fun _=>rfl,.inl (List.eq_nil_of_length_eq_zero h0)⟩
  refine ⟨_,_,rfl,hn,hm,by simp,.inr ⟨g,0,rfl,hb,(Array.getElem?_eq_some_iff.1 hg).1,fun i hi=>⟨[.string xs[i]],rfl,fun j hj => ?_,rfl,hs _ (List.getElem_mem hi)⟩⟩⟩
  obtain rfl:j=0:=by omega
  have hcell:w.cell? ⟨g,0+i*1+0,none⟩=cur[i]? := by
    simp only [World.cell?,hg];simp
  rw [hcell,← Array.getElem?_toList,show cur.toList[i]? = (cur.toList.take (xs.length*1))[i]? by rw [List.getElem?_take_of_lt (by omega)],ht]
  simp [hi]
def lens (xss:List (List ByteArray)) (k:Nat):Nat:=(xss.take k).flatten.length
theorem take_flat {xss:List (List ByteArray)} {k:Nat} (h:k<xss.length):(xss.take (k+1)).flatten=(xss.take k).flatten++xss[k]:=by
  rw [List.take_succ_eq_append_getElem h,List.flatten_append];simp
theorem lens_succ {xss:List (List ByteArray)} {k:Nat} (h:k<xss.length):lens xss (k+1)=lens xss k+xss[k].length:=by
  unfold lens;rw [take_flat h,List.length_append]
theorem lens_le (xss:List (List ByteArray)) (k:Nat):lens xss k≤xss.flatten.length:=by
  unfold lens
  conv=>rhs;rw [← List.take_append_drop k xss,List.flatten_append,List.length_append]
  omega
theorem lens_all {xss:List (List ByteArray)} {k:Nat} (h:k=xss.length):lens xss k=xss.flatten.length:=by
  unfold lens;rw [List.take_of_length_le (by omega)]
theorem rows_shape3 {w:World} {base:Nat} {e:TypeId} {size:Nat} {v:Value} {n:Nat} {xs:List Value} (h:w.ownsRow base e size v n xs):∃ a c,v = .slice a n c:=by
  rcases h.2 with ⟨rfl,rfl⟩ | ⟨g,cap,_,rfl,_⟩
  · exact ⟨_,_,rfl⟩
  exact ⟨_,_,rfl⟩
theorem row_above {w:World} {base:Nat} {e:TypeId} {size:Nat} {v:Value} {n:Nat} {xs:List Value} (h:w.ownsRow base e size v n xs) (k:Nat) (hk:v.ownBlock=some k):base≤k:=by
  rcases h.2 with ⟨rfl,_⟩ | ⟨g,cap,_,rfl,hb,_⟩
  · cases hk
  have:g=k:=by simpa [Value.ownBlock] using hk
  omega
set_option maxRecDepth 100000 in
theorem Concat_full {lo:Nat} (b off k cap:Nat) (w:World) (xss:List (List ByteArray)) (hx:xss.length=k) (hk:k≤1000) (ht:xss.flatten.length≤1000) (hb:b<w.heap.size) (hz:∀ s∈xss.flatten,s.size≤maxLen)
    (hc:∀ i (hi:i<xss.length),∃ u,w.cell? ⟨b,off+i,none⟩=some u∧IsSl 1 StrEl lo w u xss[i]) :
    Calls Try.prog 68 #[.slice (some ⟨b,off,none⟩) k cap] w fun e w'=>∃ v',e = .returned v'∧IsSl 1 StrEl w.heap.size w' v' xss.flatten∧Below w.heap.size w w':=by
  have HC:=Lib.hid hc
  have HX:=Lib.hid hx
  have HT:=Lib.hid ht
  have HZ:=Lib.hid hz
  obtain ⟨i0,hi0,hz0,hz1,hz2⟩:=info_str4
  clear hc hx ht hz
  go_enter Try.func68,Try.ntmps68
  go_wp2_with fail
  go_loop [3,11] (fun v u=>∃ j:Nat,j≤k∧u = .int .i64 j∧v = .int .i64 (lens xss j)) (fun _ u=>k-(intOf u).toNat)
  case atStart=>exact ⟨0,Nat.zero_le _,rfl,rfl⟩
  case round =>
    obtain ⟨j,hj,rfl,rfl⟩:=hrel
    by_cases h1:j<k
    · have hjx:j<xss.length:=by rw [HX.out];exact h1
      obtain ⟨u,c1,hu⟩:=HC.out j hjx
      obtain ⟨au,cu,rfl⟩:=hu.shape
      have LS:=Lib.hid (lens_succ hjx)
      have hle:lens xss j+xss[j].length≤1000:=by have:=lens_le xss (j+1);rw [LS.out] at this;have:=HT.out;omega
      clear hu
      go_wp2_with fail
      go_round
      case rel=>exact ⟨j+1,by omega,by go_num,by rw [LS.out];go_num⟩
      case measure=>simp [intOf];omega
    obtain rfl:j=k:=by omega
    have LA:=Lib.hid (lens_all HX.out.symm)
    go_wp2_with (go_at_call 82;(with_reducible refine (Grow_nil (lens xss j) (by rw [LA.out];exact HT.out) _).mono ?_);rintro e w1 ⟨a1,c1,rfl,hO,hb1⟩;have HO:=Lib.hid hO;have HB1:=Lib.hid hb1;clear hO)
    go_loopw [6,27] (fun v u wr=>∃ (i:Nat) (a:Option Addr) (c:Nat),i≤j∧u = .int .i64 i∧v = .slice a (lens xss i) c∧wr.ownsRow w.heap.size 9 1 (.slice a (lens xss i) c) (lens xss i) ((xss.take i).flatten.map Value.string)∧Below w.heap.size w wr) (fun _ u _=>j-(intOf u).toNat)
    case atStart=>exact ⟨0,a1,c1,Nat.zero_le _,rfl,rfl,HO.out,HB1.out⟩
    case round =>
      obtain ⟨i,a,c,hi,rfl,rfl,hown,hB⟩:=hrel
      have HOW:=Lib.hid hown
      have HB:=Lib.hid hB
      clear hown hB
      by_cases h2:i<j
      · have hix:i<xss.length:=by rw [HX.out];exact h2
        obtain ⟨u,g1,hu⟩:=HC.out i hix
        have g2:=(HB.out.cell (p:=⟨b,off+i,none⟩) hb).trans g1
        have LS:=Lib.hid (lens_succ hix)
        have hle:lens xss i+xss[i].length≤1000:=by have:=lens_le xss (i+1);rw [LS.out] at this;have:=HT.out;omega
        have TF:=Lib.hid (take_flat hix)
        obtain ⟨au,cu,rfl⟩:=hu.shape
        have HU:=Lib.hid hu
        have hcu:au=none→xss[i].length=0∧cu=0:=by
          obtain ⟨_,_,e,q1,_,q2,_⟩:=hu
          simp only [Value.slice.injEq] at e
          obtain ⟨rfl,_,rfl⟩:=e
          exact fun h=>by have:=q2 h;omega
        have HCU:=Lib.hid hcu
        clear hu hcu g1
        cases au with
        | none =>
          obtain ⟨l0,rfl⟩:=HCU.out rfl
          have L0:=Lib.hid l0
          rw [l0] at g2
          clear l0
          go_wp2_with (at_builtin;refine wpList_append_own_none rfl (.tmp 31) (.tmp 32) 22 rfl w.heap.size 9 i0 1 Try.underlying22 hi0 _ _ _ rfl HOW.out rfl ?_)
          go_roundw
          case rel =>
            have e1:lens xss (i+1)=lens xss i:=by rw [LS.out,L0.out];rfl
            have e2:(xss.take (i+1)).flatten=(xss.take i).flatten:=by rw [TF.out,List.eq_nil_of_length_eq_zero L0.out,List.append_nil]
            exact ⟨i+1,a,c,by omega,by go_num,by rw [e1],by rw [e1,e2];exact HOW.out,HB.out⟩
          case measure=>simp [intOf];omega
        | some ad =>
          have hmx:lens xss i+xss[i].length≤maxLen:=by unfold maxLen;omega
          go_wp2_with (at_builtin;refine wpList_append_own _ rfl (.tmp 31) (.tmp 32) 22 rfl w.heap.size 9 i0 (.string ⟨#[]⟩) 1 16 Try.underlying22 hi0 hz0 hz1 hz2 rfl (by decide) _ _ _ rfl HOW.out ad xss[i].length cu (xss[i].map Value.string) rfl (by simp) (sl_src HU.out wr HB.out) (by simp [Value.oneCell']) hmx (by omega) HB.out.size ?_;intro v' w3 hown1 hgrow1 _;obtain ⟨a3,c3,rfl⟩:=rows_shape3 hown1;have HO3:=Lib.hid hown1;have HB3:=Lib.hid (HB.out.grown hgrow1 HB.out.size (row_above HOW.out));clear hown1 hgrow1)
          go_roundw
          case rel=>exact ⟨i+1,a3,c3,by omega,by go_num,by rw [LS.out],by rw [LS.out,TF.out,List.map_append];exact HO3.out,HB3.out⟩
          case measure=>simp [intOf];omega
      obtain rfl:i=j:=by omega
      go_wp2_with fail
      go_ret
      refine ⟨_,rfl,row_sl (n:=lens xss i) (xs:=xss.flatten) ?_ HZ.out,HB.out⟩
      have e2:(xss.take i).flatten=xss.flatten:=by rw [List.take_of_length_le (by rw [HX.out];exact Nat.le_refl _)]
      rw [← e2]
      exact HOW.out
set_option maxRecDepth 100000 in
theorem Kc (s:ByteArray) (w:World) :
    Calls Try.prog 67 #[.string s] w fun e w'=>e = .returned (.bool (resB s.toList))∧w=w':=by
  have e:Hid (resB s.toList=resW.any (fun w=>s.toList==w)):=(rfl:resB _=_)
  go_enter Try.func67,Try.ntmps67
  go_wp2
  all_goals first
    | (exfalso;simp_all only [Bool.false_eq_true];done)
    | (go_ret;refine ⟨Zi ?_,rfl⟩;rw [e.out];unfold resW;simp only [List.any_cons,List.any_nil, *,Bool.or_true,Bool.true_or,Bool.or_false];done)
theorem len_list (s:ByteArray):s.toList.length=s.size:=by rw [ByteArray.toList_eq];simp
theorem get_list (s:ByteArray) (i:Nat) (h:i<s.size):s.toList.getD i 0=s[i]:=by
  rw [ByteArray.toList_eq];simp [List.getD,h];rfl
theorem iterBelow (w:World) (s:ByteArray) (n:Nat):Below w.heap.size w (w.iter s n):=(Below.refl _ _).alloc (Nat.le_refl _) _
theorem Yu (s:ByteArray) (w:World) (hs:s.size≤maxLen) :
    Calls Try.prog 40 #[.string s] w fun e w'=>e = .returned (.bool (nameB s.toList))∧Below w.heap.size w w':=by
  unfold maxLen at hs
  have e:Hid (nameB s.toList=(decide (1≤s.toList.length)&&decide (s.toList.length≤12) && !resB s.toList&&upB s.toList s.toList.length)):=(rfl:nameB _=_)
  have el:=Lib.hid (len_list s)
  by_cases h1:s.size<1
  · go_enter Try.func40,Try.ntmps40
    go_wp2_with (go_at_call 67;refine (Kc _ _).mono ?_;rintro e w' ⟨rfl,rfl⟩)
    go_ret
    exact ⟨Zi (by rw [e.out,el.out,decide_eq_false (by omega)];rfl),Below.refl _ _⟩
  by_cases h2:12<s.size
  · go_enter Try.func40,Try.ntmps40
    go_wp2_with (go_at_call 67;refine (Kc _ _).mono ?_;rintro e w' ⟨rfl,rfl⟩)
    go_ret
    exact ⟨Zi (by rw [e.out,el.out,decide_eq_false (by omega:¬ s.size≤12)];simp),Below.refl _ _⟩
  cases h3:resB s.toList with
  | true =>
    go_enter Try.func40,Try.ntmps40
    go_wp2_with (go_at_call 67;refine (Kc _ _).mono ?_;rintro e w' ⟨rfl,rfl⟩)
    go_ret
    exact ⟨Zi (by rw [e.out,h3];simp),Below.refl _ _⟩
  | false =>
    go_enter Try.func40,Try.ntmps40
    go_wp2_with (go_at_call 67;refine (Kc _ _).mono ?_;rintro e w' ⟨rfl,rfl⟩)
    go_loopw [] (fun w'=>∃ pos:Nat,w'=w.iter s pos∧pos≤s.size∧upB s.toList pos=true) (fun w'=>s.size-w'.iterPos w.heap.size)
    case atStart=>exact ⟨0,rfl,Nat.zero_le _,upB_zero _⟩
    case round =>
      obtain ⟨pos,rfl,hle,hup⟩:=hrel
      have HU:=Lib.hid hup
      clear hup
      by_cases hp:pos<s.size
      · have hg:=get_list s pos hp
        obtain ⟨r,p',hnx,hr⟩:∃ (r:Int) (p':Nat),(∀ ty,(Instr.next (.pointer (some ⟨w.heap.size,0,none⟩)) true ty).run Try.prog (w.iter s pos) = .ok (.tuple #[.bool true,.int .i64 pos,.int .i32 r]) (w.iter s p'))∧((r=(s[pos].toNat:Int)∧p'=pos+1)∨(128≤r∧128≤s[pos].toNat)):=by
          by_cases ha:s[pos].toNat<128
          · exact ⟨_,_,fun ty=>run_next_ascii w s pos ty hp ha,.inl ⟨rfl,rfl⟩⟩
          exact ⟨_,_,fun ty=>run_next_any w s pos ty hp,.inr ⟨by have:=(decode_high s pos hp (by omega)).1;omega,by omega⟩⟩
        have hcl:(97≤r∧r≤122)∨(48≤r∧r≤57)∨r=95∨r<48∨(57<r∧r<97∧r≠95)∨122<r:=by omega
        have hat:atB s.toList pos=(leB s[pos]||(decide (pos≠0)&&diB s[pos])):=by unfold atB;rw [hg]
        have hno:(128≤s[pos].toNat∨(r=(s[pos].toNat:Int)∧(r<48∨(57<r∧r<97∧r≠95)∨122<r)))→atB s.toList pos=false:=fun h=>by
          rw [hat]
          have:leB s[pos]=false:=by unfold leB;simp;omega
          have h2:diB s[pos]=false:=by unfold diB;simp;omega
          rw [this,h2];simp
        have HAT:=Lib.hid hat
        have HNO:=Lib.hid hno
        have HR:=Lib.hid hr
        clear hat hno hr hg
        rcases hcl with ⟨c1,c2⟩ | ⟨c1,c2⟩ | c1 | c1 | ⟨c1,c2,c3⟩ | c1
        · have hr:r=(s[pos].toNat:Int)∧p'=pos+1:=HR.out.elim id fun h=>absurd h.1 (by omega)
          obtain rfl:pos+1=p':=hr.2.symm
          have HA:=Lib.hid (show atB s.toList pos=true by rw [HAT.out];have:leB s[pos]=true:=(by unfold leB;simp;omega);rw [this];rfl)
          clear hr
          go_wp2
          all_goals
            go_roundw
            case rel=>exact ⟨pos+1,rfl,by omega,upB_succ HU.out HA.out⟩
            case measure=>simp;omega
        · have hr:r=(s[pos].toNat:Int)∧p'=pos+1:=HR.out.elim id fun h=>absurd h.1 (by omega)
          obtain rfl:pos+1=p':=hr.2.symm
          by_cases h0:pos=0
          · have HA:=Lib.hid (show atB s.toList pos=false by rw [HAT.out];have:leB s[pos]=false:=(by unfold leB;simp;omega);rw [this];simp [h0])
            have h0':(((pos:Nat):Int)==0)=true:=by simp [h0]
            clear hr h0
            go_wp2
            all_goals
              go_ret
              exact ⟨Zi (by rw [e.out,upB_no (el.out.symm ▸ hp) HA.out];simp),iterBelow _ _ _⟩
          have HA:=Lib.hid (show atB s.toList pos=true by rw [HAT.out];have:diB s[pos]=true:=(by unfold diB;simp;omega);rw [this];simp [h0])
          have h0':(((pos:Nat):Int)==0)=false:=by simp [h0]
          clear hr h0
          go_wp2
          all_goals
            go_roundw
            case rel=>exact ⟨pos+1,rfl,by omega,upB_succ HU.out HA.out⟩
            case measure=>simp;omega
        · have hr:r=(s[pos].toNat:Int)∧p'=pos+1:=HR.out.elim id fun h=>absurd h.1 (by omega)
          obtain rfl:pos+1=p':=hr.2.symm
          have c2:57<r:=by omega
          have c3:r<97:=by omega
          have c4:(r==95)=true:=by simp [c1]
          by_cases h0:pos=0
          · have HA:=Lib.hid (show atB s.toList pos=false by rw [HAT.out];have:leB s[pos]=false:=(by unfold leB;simp;omega);rw [this];simp [h0])
            have h0':(((pos:Nat):Int)==0)=true:=by simp [h0]
            clear hr h0 c1
            go_wp2
            all_goals
              go_ret
              exact ⟨Zi (by rw [e.out,upB_no (el.out.symm ▸ hp) HA.out];simp),iterBelow _ _ _⟩
          have HA:=Lib.hid (show atB s.toList pos=true by rw [HAT.out];have:diB s[pos]=true:=(by unfold diB;simp;omega);rw [this];simp [h0])
          have h0':(((pos:Nat):Int)==0)=false:=by simp [h0]
          clear hr h0 c1
          go_wp2
          all_goals
            go_roundw
            case rel=>exact ⟨pos+1,rfl,by omega,upB_succ HU.out HA.out⟩
            case measure=>simp;omega
        · have HA:=Lib.hid (HNO.out (HR.out.elim (fun h => .inr ⟨h.1,.inl c1⟩) fun h=>absurd h.1 (by omega)))
          have c4:(r==95)=false:=by simp;omega
          go_wp2
          all_goals
            go_ret
            exact ⟨Zi (by rw [e.out,upB_no (el.out.symm ▸ hp) HA.out];simp),iterBelow _ _ _⟩
        · have HA:=Lib.hid (HNO.out (HR.out.elim (fun h => .inr ⟨h.1,.inr (.inl ⟨c1,c2,c3⟩)⟩) fun h=>absurd h.1 (by omega)))
          have c4:(r==95)=false:=by simp;omega
          clear c3
          have c0:48≤r:=by omega
          have d1:decide (r≤57)=false:=by simp;omega
          go_wp2
          all_goals
            go_ret
            exact ⟨Zi (by rw [e.out,upB_no (el.out.symm ▸ hp) HA.out];simp),iterBelow _ _ _⟩
        have HA:=Lib.hid (HNO.out (HR.out.elim (fun h => .inr ⟨h.1,.inr (.inr c1)⟩) fun h => .inl h.2))
        have c4:(r==95)=false:=by simp;omega
        have c5:97≤r:=by omega
        have c6:48≤r:=by omega
        have c7:57<r:=by omega
        have d1:decide (r≤57)=false:=by simp;omega
        have d2:decide (r≤122)=false:=by simp;omega
        go_wp2
        all_goals
          go_ret
          exact ⟨Zi (by rw [e.out,upB_no (el.out.symm ▸ hp) HA.out];simp),iterBelow _ _ _⟩
      have hnx:∀ ty,(Instr.next (.pointer (some ⟨w.heap.size,0,none⟩)) true ty).run Try.prog (w.iter s pos)=_:=fun ty=>run_next_end w s pos ty hp
      go_wp2
      go_ret
      exact ⟨Zi (by rw [e.out,el.out,h3,decide_eq_true (by omega),decide_eq_true (by omega),show s.size=pos by omega,HU.out];rfl),(Below.refl _ _).alloc (Nat.le_refl _) _⟩
end Go.Proofs.Ytabgfofjgkibmaa
