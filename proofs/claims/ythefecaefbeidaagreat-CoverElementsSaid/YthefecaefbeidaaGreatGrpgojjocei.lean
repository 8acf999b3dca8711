import Derived.Test.YthefecaefbeidaaGreatProg
import Derived.WalkSpells
import Derived.WalkLawsBesides
import Derived.Deep.QuietTactic
import Derived.BigQuiet
import Derived.Laws.AppendOwnNone
import Derived.Deep.RegionWith
import Derived.StillTailTactics
import Derived.Deep.RegionHeld3
import Derived.Lib.AppendZeros
import Derived.Lib.Hide
import Derived.Lib.Walk
import Derived.LoopTactic
import Derived.Outline
import Derived.Laws.RangeString
import Derived.Laws.RangeAny
import Derived.Deep.DeepCutAuto
import Derived.Test.YthefecaefbeidaaGreatGrpahggjllk
import Derived.Test.YthefecaefbeidaaGreatGrpcdkhhigo
import Derived.Test.YthefecaefbeidaaGreatGrpkapnohjd
set_option linter.all false
namespace Go.Proofs.YthefecaefbeidaaGreat
open Go.RowKit Go.Deep
variable {J:World→Prop}
def fOff (P:Program) (S:TypeId) (f:Nat):Option Nat :=
 match P.underlying S with
 | some (.struct fs)=>match fs[f]? with
   | some fl=>match P.info? fl.type with
     | some x=>match Nat.blt 0 x.size with
       | true=>some fl.offset
       | false=>none
     | none=>none
   | none=>none
 | _=>none
variable {P:Program}
theorem fOff_sp {S:TypeId} {f n:Nat} (h:fOff P S f=some n):∃ fs fl z,P.underlying S=some (.struct fs)∧fs[f]? = some fl∧(P.info? fl.type).map (·.size)=some z∧0<z∧fl.offset=n:=by
 unfold fOff at h
 split at h
 ·rename_i fs hu
  split at h
  ·rename_i fl hf
   split at h
   ·rename_i x hx
    split at h
    ·rename_i hb
     exact ⟨fs,fl,x.size,hu,hf,by rw [hx];rfl,Nat.le_of_ble_eq_true hb,Option.some.inj h⟩
    cases h
   cases h
  cases h
 cases h
def lenX (cl:Call):Option (Operand × TypeId):=match cl with
 | ⟨.builtin .len,⟨[x]⟩,⟨[ty]⟩⟩=>some (x,ty)
 | _=>none
theorem lenX_sp {cl:Call} {p:Operand × TypeId} (h:lenX cl=some p):cl=⟨.builtin .len,#[p.1],#[p.2]⟩:=by
 unfold lenX at h
 split at h
 ·cases h;rfl
 cases h
def opA (P:Program) (h:AHeap) (t:ATm):Op→Option AV
 | .move x=>some (aev t x)
 | .assign x=>some (aev t x)
 | .fieldAddr S x f=>match fOff P S f with
   | some o=>match aev t x with
     | .box k off=>some (.box k (off+o))
     | .el cs off=>some (.el cs (off+o))
     | _=>none
   | none=>none
 | .load T x=>match P.underlying T with
   | some d=>match d.isRow with
     | false=>match aev t x with
       | .box k off=>match h k with
         | some Y=>Y.cells[off]?
         | none=>none
       | .el cs off=>cs[off]?
       | _=>none
     | true=>match aev t x with
       | .box k off=>match h k,P.info? T with
         | some Y,some i=>match Nat.blt 0 i.size&&Nat.beq ((Y.cells.drop off).take i.size).length i.size with
           | true=>some (.agg ((Y.cells.drop off).take i.size))
           | false=>none
         | _,_=>none
       | _=>none
   | none=>none
 | .unOp .not _ x=>match aev t x with
   | .v (.bool b)=>some (.v (.bool (!b)))
   | _=>none
 | .pick c x y=>match aev t c with
   | .v (.bool b)=>some (if b then aev t x else aev t y)
   | _=>none
 | .nilCheck x=>match aev t x with
   | .box k off=>some (.box k off)
   | .el cs off=>some (.el cs off)
   | _=>none
 | .extract x i=>match aev t x with
   | .tup cs=>cs[i]?
   | _=>none
 | .call cl=>match lenX cl with
   | some p=>match P.underlying p.2 with
     | some (.slice _)=>match aev t p.1 with
       | .sl _ n _=>some (.v (.int .i64 n))
       | _=>none
     | _=>none
   | none=>none
 | _=>none
def opX:Op→List Operand
 | .move x=>[x]
 | .assign x=>[x]
 | .fieldAddr _ x _=>[x]
 | .load _ x=>[x]
 | .unOp _ _ x=>[x]
 | .pick c x y=>[c,x,y]
 | .nilCheck x=>[x]
 | .extract x _=>[x]
 | .call cl=>match lenX cl with
   | some p=>[p.1]
   | none=>[]
 | _=>[]
def opRd (h:AHeap) (t:ATm):Op→List (Nat × ABlk)
 | .load _ x=>match aev t x with
   | .box k _=>match h k with
     | some Y=>[(k,Y)]
     | none=>[]
   | _=>[]
 | _=>[]
def opCl (h:AHeap) (t:ATm) (o:Op) (u:AV):Cl:=⟨(opX o).map fun x=>(x,aev t x),opRd h t o,u,.no⟩
variable {o:Oper}{u:AV}
theorem opA_sp {h:AHeap} {t:ATm} (hc:opA P h t o.op=some u):ASpec P J o ((opX o.op).map fun x=>(x,aev t x)) (opRd h t o.op) u .no∧RdL h (opRd h t o.op):=by
 generalize ho:o.op=p at hc ⊢
 cases p with
 | move x=>cases hc;exact ⟨sp_move x _ ho,trivial⟩
 | assign x=>cases hc;exact ⟨sp_assign x _ ho,trivial⟩
 | fieldAddr S x f =>
   simp only [opA] at hc
   split at hc
   ·rename_i n hn
    obtain ⟨fs,fl,z,h1,h2,h3,h4,h5⟩:=fOff_sp hn
    split at hc
    ·rename_i k off hx
     cases hc
     refine ⟨?_,trivial⟩
     show ASpec P J o [(x,aev t x)] [] _ .no
     rw [hx]
     exact ZcJ x ho h1 h2 h3 h4 (by rw [h5])
    ·rename_i cs off hx
     cases hc
     refine ⟨?_,trivial⟩
     show ASpec P J o [(x,aev t x)] [] _ .no
     rw [hx]
     exact ZaN x ho h1 h2 h3 h4 (by rw [h5])
    cases hc
   cases hc
 | load T x =>
   simp only [opA] at hc
   split at hc
   ·rename_i d hu
    split at hc
    ·rename_i hd
     split at hc
     ·rename_i k off hx
      split at hc
      ·rename_i Y hY
       show ASpec P J o [(x,aev t x)] (opRd h t (.load T x)) u .no∧RdL h (opRd h t (.load T x))
       rw [show opRd h t (.load T x)=[(k,Y)] by simp only [opRd,hx,hY],hx]
       exact ⟨Zaa x ho hu hd hc,hY,trivial⟩
      cases hc
     ·rename_i cs off hx
      show ASpec P J o [(x,aev t x)] (opRd h t (.load T x)) u .no∧RdL h (opRd h t (.load T x))
      rw [show opRd h t (.load T x)=[] by simp only [opRd,hx],hx]
      exact ⟨Ww x ho hu hd hc,trivial⟩
     cases hc
    rename_i hd
    split at hc
    ·rename_i k off hx
     split at hc
     ·rename_i Y i hY hi
      split at hc
      ·rename_i hb
       rw [Bool.and_eq_true] at hb
       cases hc
       show ASpec P J o [(x,aev t x)] (opRd h t (.load T x)) _ .no∧RdL h (opRd h t (.load T x))
       rw [show opRd h t (.load T x)=[(k,Y)] by simp only [opRd,hx,hY],hx]
       exact ⟨ZcI x ho hu hd (by rw [hi];rfl) (Nat.le_of_ble_eq_true hb.1) rfl (Nat.eq_of_beq_eq_true hb.2),hY,trivial⟩
      cases hc
     cases hc
    cases hc
   cases hc
 | unOp op ty x =>
   cases op with
   | not =>
     simp only [opA] at hc
     split at hc
     ·rename_i b hx
      cases hc
      refine ⟨?_,trivial⟩
      show ASpec P J o [(x,aev t x)] [] _ .no
      rw [hx]
      exact sp_not ho rfl
     cases hc
   | _=>cases hc
 | pick c x y =>
   simp only [opA] at hc
   split at hc
   ·rename_i b hx
    cases hc
    refine ⟨?_,trivial⟩
    show ASpec P J o [(c,aev t c),(x,aev t x),(y,aev t y)] [] _ .no
    rw [hx]
    exact sp_pick c x y b _ _ ho
   cases hc
 | nilCheck x =>
   simp only [opA] at hc
   split at hc
   ·rename_i k off hx
    cases hc
    refine ⟨?_,trivial⟩
    show ASpec P J o [(x,aev t x)] [] _ .no
    rw [hx]
    exact sp_nilBox x ho
   ·rename_i cs off hx
    cases hc
    refine ⟨?_,trivial⟩
    show ASpec P J o [(x,aev t x)] [] _ .no
    rw [hx]
    exact sp_nilEl x ho
   cases hc
 | extract x i =>
   simp only [opA] at hc
   split at hc
   ·rename_i cs hx
    refine ⟨?_,trivial⟩
    show ASpec P J o [(x,aev t x)] [] _ .no
    rw [hx]
    exact sp_extract x ho hc
   cases hc
 | call cl =>
   simp only [opA] at hc
   split at hc
   ·rename_i p hp
    split at hc
    ·rename_i e hu
     split at hc
     ·rename_i z n cs hx
      cases hc
      have e:=lenX_sp hp
      show ASpec P J o ((match lenX cl with | some p=>[p.1] | none=>[]).map fun x=>(x,aev t x)) [] _ .no∧True
      rw [hp]
      refine ⟨?_,trivial⟩
      show ASpec P J o [(p.1,aev t p.1)] [] _ .no
      rw [hx]
      exact sp_lenSl p.1 (by rw [ho,e]) hu
     cases hc
    cases hc
   cases hc
 | _=>cases hc
theorem Kz {t:ATm}:∀ l:List Operand,FitsL t (l.map fun x=>(x,aev t x))
 | []=>trivial
 | _::l=>⟨I0,Kz l⟩
section
variable {P:Program} {w0:Wb} {h:AHeap} {t:ATm} {Q:Exit→Act→World→Prop} {Ψ:AHeap→ATm→Prop} {ops:Array Oper} {o o2:Oper} {rest:List Oper} {cs:List Cl}
theorem tri_lose {t':ATm} {Φ:Act→World→Prop} (hn:t'.n=t.n) (hf:∀ i,t'.f i=t.f i∨t'.f i = .any) (H:ETri J w0 h t' Φ):ETri J w0 h t Φ:=fun ρ a w s =>
 H ρ a w ⟨s.wf,s.hH,s.bel,s.inv,s.hp,s.dom,s.pin,s.tl.trans hn.symm,fun j hj=>by
  rcases hf j with e | e
  ·rw [e];exact s.tm j (hn ▸ hj)
  rw [e];exact .anyR,s.df,s.gh⟩
theorem any_put {d d2:Option Tmp} {u v:AV} (i:Nat):(aput (aput t d .any) d2 u).f i=(aput (aput t d v) d2 u).f i∨(aput (aput t d .any) d2 u).f i = .any:=by
 have h1:∀ j,(aput t d .any).f j=(aput t d v).f j∨(aput t d .any).f j = .any:=fun j=>by
  cases d with
  | none=>exact .inl rfl
  | some x =>
    show (if j=x then _ else _)=(if j=x then _ else _)∨(if j=x then _ else _)=_
    by_cases e:j=x
    ·exact .inr (if_pos e)
    exact .inl ((if_neg e).trans (if_neg e).symm)
 cases d2 with
 | none=>exact h1 i
 | some y =>
   show (if i=y then _ else _)=(if i=y then _ else _)∨(if i=y then _ else _)=_
   by_cases e:i=y
   ·exact .inl ((if_pos e).trans (if_pos e).symm)
   simp only [if_neg e];exact h1 i
theorem wanted_put {d:Option Tmp} {v:AV} (hg:awanted ops o2 (aput t d .any)=some true):awanted ops o2 (aput t d v)=some true:=by
 unfold awanted at hg ⊢
 split
 ·rfl
 rename_i g want e
 rw [e] at hg
 simp only at hg ⊢
 split at hg
 ·cases hg
 rename_i e2 x hx
 have h2:(aput t d .any).get x = .any∨(aput t d v).get x=(aput t d .any).get x:=by
  unfold ATm.get
  rw [Ka,Ka]
  split
  ·cases d with
   | none=>exact .inr rfl
   | some i =>
     show (if x=i then _ else _)=_∨(if x=i then _ else _)=(if x=i then _ else _)
     by_cases e:x=i
     ·exact .inl (if_pos e)
     exact .inr ((if_neg e).trans (if_neg e).symm)
  exact .inl rfl
 rcases h2 with h2 | h2
 ·rw [h2] at hg;cases hg
 rw [← h2] at hg;exact hg
theorem oS (u:AV) (H:ETri J w0 h (aput t o.dst u) (wpList P ops Q rest)) (hc:opA P h t o.op=some u:=by kernel_rfl) (hg:awanted ops o t=some true:=by kernel_rfl):ETri J w0 h t (wpList P ops Q (o::rest)) :=
 KU hg (opA_sp hc).1 (Kz _) (opA_sp (J:=J) hc).2 trivial H
theorem oF (u:AV) (H:ETri J w0 h (aput (aput t o.dst .any) o2.dst u) (wpList P ops Q rest)) (hc:(opA P h t o.op).bind (fun v=>opA P h (aput t o.dst v) o2.op)=some u:=by kernel_rfl) (hg:awanted ops o t=some true:=by kernel_rfl) (hg2:awanted ops o2 (aput t o.dst .any)=some true:=by kernel_rfl):ETri J w0 h t (wpList P ops Q (o::o2::rest)):=by
 obtain ⟨v,h1,h2⟩:=Option.bind_eq_some_iff.1 hc
 exact oS v (oS u (tri_lose (by rw [Ka,Ka,Ka,Ka]) any_put H) h2 (wanted_put hg2)) h1 hg
theorem getD_of {α:Type} {x:Option α} {d:α} (h:x.isSome=true):x=some (x.getD d):=by
 cases x with
 | none=>cases h
 | some y=>rfl
theorem oW (H:ETri J w0 h (aput t o.dst ((opA P h t o.op).getD .any)) (wpList P ops Q rest)) (hc:(opA P h t o.op).isSome=true:=by kernel_rfl) (hg:awanted ops o t=some true:=by kernel_rfl):ETri J w0 h t (wpList P ops Q (o::rest)) :=
 oS _ H (getD_of hc) hg
def stE (h:AHeap) (t:ATm):Op→Ef
 | .store _ x y=>match aev t x with
   | .box k off=>match h k with
     | some (.box T0 cs) => .st k (.box T0 (setAll cs off (aev t y).cellsOf))
     | _ => .no
   | _ => .no
 | _ => .no
def stX:Op→List Operand
 | .store _ x y=>[x,y]
 | _=>[]
def stR (h:AHeap) (t:ATm):Op→List (Nat × ABlk)
 | .store _ x _=>match aev t x with
   | .box k _=>match h k with
     | some Y=>[(k,Y)]
     | none=>[]
   | _=>[]
 | _=>[]
def stO (P:Program) (h:AHeap) (t:ATm):Op→Bool
 | .store T x y=>match aev t x with
   | .box k off=>match h k with
     | some (.box _ cs)=>match P.info? T with
       | some i=>(aev t y).cellsOf.all AV.cell&&(Nat.beq (aev t y).cellsOf.length i.size&&Nat.ble (off+i.size) cs.length)
       | none=>false
     | _=>false
   | _=>false
 | _=>false
theorem WL {o:Oper} (hc:stO P h t o.op=true):ASpec P J o ((stX o.op).map fun x=>(x,aev t x)) (stR h t o.op) (.v undef) (stE h t o.op)∧RdL h (stR h t o.op)∧EfOk h (stE h t o.op)∧(stE h t o.op).slots t=t:=by
 generalize ho:o.op=p at hc ⊢
 cases p with
 | store T x y =>
   simp only [stO] at hc
   split at hc
   ·rename_i k off hx
    split at hc
    ·rename_i T0 cs hk
     split at hc
     ·rename_i i hi
      rw [Bool.and_eq_true,Bool.and_eq_true] at hc
      have e1:stE h t (.store T x y) = .st k (.box T0 (setAll cs off (aev t y).cellsOf)):=by simp only [stE,hx,hk]
      have e2:stR h t (.store T x y)=[(k,.box T0 cs)]:=by simp only [stR,hx,hk]
      rw [e1,e2]
      refine ⟨?_,⟨hk,trivial⟩,?_,rfl⟩
      ·show ASpec P J o [(x,aev t x),(y,aev t y)] _ _ _
       rw [hx]
       exact W9 x y ho (by rw [hi];rfl) hc.1 (Nat.eq_of_beq_eq_true hc.2.1) (Nat.le_of_ble_eq_true hc.2.2) rfl
      show (h k).isSome=true
      rw [hk];rfl
     cases hc
    cases hc
   cases hc
 | _=>cases hc
theorem oY (H:ETri J w0 ((stE h t o.op).heap h) (aput t o.dst (.v undef)) (wpList P ops Q rest)) (hc:stO P h t o.op=true:=by kernel_rfl) (hg:awanted ops o t=some true:=by kernel_rfl):ETri J w0 h t (wpList P ops Q (o::rest)) :=
 KU hg (WL hc).1 (Kz _) (WL (J:=J) hc).2.1 (WL (J:=J) hc).2.2.1 (by rw [(WL (J:=J) hc).2.2.2];exact H)
theorem dY (H:chainC P J ops Ψ rest cs ((stE h t o.op).heap h) (aput t o.dst (.v undef))) (hc:stO P h t o.op=true:=by kernel_rfl) (hg:awanted ops o t=some true:=by kernel_rfl):chainC P J ops Ψ (o::rest) (⟨(stX o.op).map fun x=>(x,aev t x),stR h t o.op,.v undef,stE h t o.op⟩::cs) h t :=
 dR (WL hc).1 (Kz _) (WL (J:=J) hc).2.1 (WL (J:=J) hc).2.2.1 (by rw [(WL (J:=J) hc).2.2.2];exact H) hg
theorem dS (u:AV) (H:chainC P J ops Ψ rest cs h (aput t o.dst u)) (hc:opA P h t o.op=some u:=by kernel_rfl) (hg:awanted ops o t=some true:=by kernel_rfl):chainC P J ops Ψ (o::rest) (opCl h t o.op u::cs) h t :=
 dR (opA_sp hc).1 (Kz _) (opA_sp (J:=J) hc).2 trivial H hg
theorem dW (H:chainC P J ops Ψ rest cs h (aput t o.dst ((opA P h t o.op).getD .any))) (hc:(opA P h t o.op).isSome=true:=by kernel_rfl) (hg:awanted ops o t=some true:=by kernel_rfl):chainC P J ops Ψ (o::rest) (opCl h t o.op ((opA P h t o.op).getD .any)::cs) h t :=
 dS _ H (getD_of hc) hg
def cmpA (t:ATm) (x y:Operand):Option (Int × Int):=match aev t x,aev t y with
 | .v (.int k a),.v (.int k' b)=>if k=k' then some (a,b) else none
 | _,_=>none
theorem Y3 {x y:Operand} {a b:Int} (hc:cmpA t x y=some (a,b)):∃ k,aev t x = .v (.int k a)∧aev t y = .v (.int k b):=by
 unfold cmpA at hc
 split at hc
 ·rename_i k a' k' b' h1 h2
  split at hc
  ·rename_i e
   subst e
   have:=Option.some.inj hc
   cases this
   exact ⟨_,h1,h2⟩
  cases hc
 cases hc
variable {S ty ty':TypeId} {x y:Operand} {d:Option Tmp} {ps:String} {af:Array Edge} {gd:Option (Nat × Bool)} {a b:Int} {r:Bool}
theorem oe (hr:decide (a=b)=r) (H:ETri J w0 h (aput t d (.v (.bool r))) (wpList P ops Q rest)) (hc:cmpA t x y=some (a,b):=by kernel_rfl) (hg:awanted ops ⟨d,.binOp .eql S x y ty,ty',ps,af,gd⟩ t=some true:=by kernel_rfl):ETri J w0 h t (wpList P ops Q (⟨d,.binOp .eql S x y ty,ty',ps,af,gd⟩::rest)):=by
 obtain ⟨k,h1,h2⟩:=Y3 hc
 exact KU hg (ZM rfl hr) ⟨.inl h1,.inl h2,trivial⟩ trivial trivial H
theorem on (hr:decide (a=b) = !r) (H:ETri J w0 h (aput t d (.v (.bool r))) (wpList P ops Q rest)) (hc:cmpA t x y=some (a,b):=by kernel_rfl) (hg:awanted ops ⟨d,.binOp .neq S x y ty,ty',ps,af,gd⟩ t=some true:=by kernel_rfl):ETri J w0 h t (wpList P ops Q (⟨d,.binOp .neq S x y ty,ty',ps,af,gd⟩::rest)):=by
 obtain ⟨k,h1,h2⟩:=Y3 hc
 exact KU hg (sp_neq rfl hr) ⟨.inl h1,.inl h2,trivial⟩ trivial trivial H
theorem dn (hr:decide (a=b) = !r) (H:chainC P J ops Ψ rest cs h (aput t d (.v (.bool r)))) (hc:cmpA t x y=some (a,b):=by kernel_rfl) (hg:awanted ops ⟨d,.binOp .neq S x y ty,ty',ps,af,gd⟩ t=some true:=by kernel_rfl):chainC P J ops Ψ (⟨d,.binOp .neq S x y ty,ty',ps,af,gd⟩::rest) (⟨[(x,aev t x),(y,aev t y)],[],.v (.bool r),.no⟩::cs) h t:=by
 obtain ⟨k,h1,h2⟩:=Y3 hc
 refine dR ?_ ⟨I0,I0,trivial⟩ trivial trivial H hg
 rw [h1,h2];exact sp_neq rfl hr
theorem ol (hr:decide (a<b)=r) (H:ETri J w0 h (aput t d (.v (.bool r))) (wpList P ops Q rest)) (hc:cmpA t x y=some (a,b):=by kernel_rfl) (hg:awanted ops ⟨d,.binOp .lss S x y ty,ty',ps,af,gd⟩ t=some true:=by kernel_rfl):ETri J w0 h t (wpList P ops Q (⟨d,.binOp .lss S x y ty,ty',ps,af,gd⟩::rest)):=by
 obtain ⟨k,h1,h2⟩:=Y3 hc
 exact KU hg (sp_lss rfl hr) ⟨.inl h1,.inl h2,trivial⟩ trivial trivial H
theorem dl (hr:decide (a<b)=r) (H:chainC P J ops Ψ rest cs h (aput t d (.v (.bool r)))) (hc:cmpA t x y=some (a,b):=by kernel_rfl) (hg:awanted ops ⟨d,.binOp .lss S x y ty,ty',ps,af,gd⟩ t=some true:=by kernel_rfl):chainC P J ops Ψ (⟨d,.binOp .lss S x y ty,ty',ps,af,gd⟩::rest) (⟨[(x,aev t x),(y,aev t y)],[],.v (.bool r),.no⟩::cs) h t:=by
 obtain ⟨k,h1,h2⟩:=Y3 hc
 refine dR ?_ ⟨I0,I0,trivial⟩ trivial trivial H hg
 rw [h1,h2];exact sp_lss rfl hr
theorem oq (hr:decide (a≤b)=r) (H:ETri J w0 h (aput t d (.v (.bool r))) (wpList P ops Q rest)) (hc:cmpA t x y=some (a,b):=by kernel_rfl) (hg:awanted ops ⟨d,.binOp .leq S x y ty,ty',ps,af,gd⟩ t=some true:=by kernel_rfl):ETri J w0 h t (wpList P ops Q (⟨d,.binOp .leq S x y ty,ty',ps,af,gd⟩::rest)):=by
 obtain ⟨k,h1,h2⟩:=Y3 hc
 exact KU hg (ZbT rfl hr) ⟨.inl h1,.inl h2,trivial⟩ trivial trivial H
theorem og (hr:decide (b<a)=r) (H:ETri J w0 h (aput t d (.v (.bool r))) (wpList P ops Q rest)) (hc:cmpA t x y=some (a,b):=by kernel_rfl) (hg:awanted ops ⟨d,.binOp .gtr S x y ty,ty',ps,af,gd⟩ t=some true:=by kernel_rfl):ETri J w0 h t (wpList P ops Q (⟨d,.binOp .gtr S x y ty,ty',ps,af,gd⟩::rest)):=by
 obtain ⟨k,h1,h2⟩:=Y3 hc
 exact KU hg (sp_gtr rfl hr) ⟨.inl h1,.inl h2,trivial⟩ trivial trivial H
theorem dg (hr:decide (b<a)=r) (H:chainC P J ops Ψ rest cs h (aput t d (.v (.bool r)))) (hc:cmpA t x y=some (a,b):=by kernel_rfl) (hg:awanted ops ⟨d,.binOp .gtr S x y ty,ty',ps,af,gd⟩ t=some true:=by kernel_rfl):chainC P J ops Ψ (⟨d,.binOp .gtr S x y ty,ty',ps,af,gd⟩::rest) (⟨[(x,aev t x),(y,aev t y)],[],.v (.bool r),.no⟩::cs) h t:=by
 obtain ⟨k,h1,h2⟩:=Y3 hc
 refine dR ?_ ⟨I0,I0,trivial⟩ trivial trivial H hg
 rw [h1,h2];exact sp_gtr rfl hr
theorem oh (hr:decide (b≤a)=r) (H:ETri J w0 h (aput t d (.v (.bool r))) (wpList P ops Q rest)) (hc:cmpA t x y=some (a,b):=by kernel_rfl) (hg:awanted ops ⟨d,.binOp .geq S x y ty,ty',ps,af,gd⟩ t=some true:=by kernel_rfl):ETri J w0 h t (wpList P ops Q (⟨d,.binOp .geq S x y ty,ty',ps,af,gd⟩::rest)):=by
 obtain ⟨k,h1,h2⟩:=Y3 hc
 exact KU hg (sp_geq rfl hr) ⟨.inl h1,.inl h2,trivial⟩ trivial trivial H
theorem dh (hr:decide (b≤a)=r) (H:chainC P J ops Ψ rest cs h (aput t d (.v (.bool r)))) (hc:cmpA t x y=some (a,b):=by kernel_rfl) (hg:awanted ops ⟨d,.binOp .geq S x y ty,ty',ps,af,gd⟩ t=some true:=by kernel_rfl):chainC P J ops Ψ (⟨d,.binOp .geq S x y ty,ty',ps,af,gd⟩::rest) (⟨[(x,aev t x),(y,aev t y)],[],.v (.bool r),.no⟩::cs) h t:=by
 obtain ⟨k,h1,h2⟩:=Y3 hc
 refine dR ?_ ⟨I0,I0,trivial⟩ trivial trivial H hg
 rw [h1,h2];exact sp_geq rfl hr
theorem oU (c:Int) (H:ETri J w0 h (aput t d (.v (.int .i64 c))) (wpList P ops Q rest)) (h1:aev t x = .v (.int .i64 a):=by rfl) (h2:aev t y = .v (.int .i64 b):=by rfl) (hc:a-b=c:=by omega) (l1 : -9223372036854775808≤c:=by omega) (l2:c≤9223372036854775807:=by omega) (hg:awanted ops ⟨d,.binOp .sub S x y ty,ty',ps,af,gd⟩ t=some true:=by kernel_rfl):ETri J w0 h t (wpList P ops Q (⟨d,.binOp .sub S x y ty,ty',ps,af,gd⟩::rest)) :=
 KU hg (sp_sub rfl (w64 hc l1 l2)) ⟨.inl h1,.inl h2,trivial⟩ trivial trivial H
theorem oV (c:Int) (H:ETri J w0 h (aput t d (.v (.int .i64 c))) (wpList P ops Q rest)) (h1:aev t x = .v (.int .i64 a):=by rfl) (h2:aev t y = .v (.int .i64 b):=by rfl) (hc:a+b=c:=by omega) (l1 : -9223372036854775808≤c:=by omega) (l2:c≤9223372036854775807:=by omega) (hg:awanted ops ⟨d,.binOp .add S x y ty,ty',ps,af,gd⟩ t=some true:=by kernel_rfl):ETri J w0 h t (wpList P ops Q (⟨d,.binOp .add S x y ty,ty',ps,af,gd⟩::rest)) :=
 KU hg (sp_add rfl (w64 hc l1 l2)) ⟨.inl h1,.inl h2,trivial⟩ trivial trivial H
theorem Zby {t:ATm}:∀ {xs:List Operand} {Xs:List AV},xs.map (aev t)=Xs→FitsL t (xs.zip Xs)
 | [],_,_=>trivial
 | x::xs,_,rfl=>⟨I0,Zby rfl⟩
variable {f:FuncId}{Ys:List AV}{U:AV}
theorem oK {xs:Array Operand} {ats:Array TypeId} (hC:Ctr P J f Ys u) (Xs:List AV) (hv:Xs.map (AV.view [])=Ys) (hU:u.res=U) (H:ETri J w0 h (aput t d U) (wpList P ops Q rest)) (ha:xs.toList.map (aev t)=Xs:=by kernel_rfl)
 (hf : (P.funcs[f]?).map (fun fn => (fn.name == "runtime.NumGoroutine") || fn.body.isNone) = some false := by kernel_rfl) (hfl : Xs.all AV.flat2 = true := by kernel_rfl) (hg : awanted ops ⟨d, .call { callee := .value (.func f), args := xs, argTypes := ats }, ty', ps, af, gd⟩ t = some true := by kernel_rfl) :
 ETri J w0 h t (wpList P ops Q (⟨d,.call { callee := .value (.func f),args:=xs,argTypes:=ats },ty',ps,af,gd⟩::rest)) :=
 KU hg (KW [] hC rfl hf (by rw [← ha];simp) hv hfl hU) ⟨I0,Zby ha⟩ trivial trivial H
theorem dk {xs:Array Operand} {ats:Array TypeId} (hC:Ctr P J f Ys u) (Xs:List AV) (hv:Xs.map (AV.view [])=Ys) (hU:u.res=U) (H:chainC P J ops Ψ rest cs h (aput t d U)) (ha:xs.toList.map (aev t)=Xs:=by kernel_rfl)
 (hf : (P.funcs[f]?).map (fun fn => (fn.name == "runtime.NumGoroutine") || fn.body.isNone) = some false := by kernel_rfl) (hfl : Xs.all AV.flat2 = true := by kernel_rfl) (hg : awanted ops ⟨d, .call { callee := .value (.func f), args := xs, argTypes := ats }, ty', ps, af, gd⟩ t = some true := by kernel_rfl) :
 chainC P J ops Ψ (⟨d,.call { callee := .value (.func f),args:=xs,argTypes:=ats },ty',ps,af,gd⟩::rest) (⟨(.func f,.v (.func (.func f) #[] #[]))::xs.toList.zip Xs,[],U,.no⟩::cs) h t :=
 dR (KW [] hC rfl hf (by rw [← ha];simp) hv hfl hU) ⟨I0,Zby ha⟩ trivial trivial H hg
theorem oZ (k:Nat) (z:Value) (H:ETri J w0 (fun j=>if j=k then some (.box S (z.cells.toList.map AV.v)) else h j) (aput t d (.box k 0)) (wpList P ops Q rest)) (hz:(P.info? S).bind (·.zero)=some z:=by kernel_rfl) (hk:((h k).isNone&&Nat.blt k hand)=true:=by kernel_rfl) (hg:awanted ops ⟨d,.alloc S,ty',ps,af,gd⟩ t=some true:=by kernel_rfl) :
 ETri J w0 h t (wpList P ops Q (⟨d,.alloc S,ty',ps,af,gd⟩::rest)) :=
 KU hg (sp_alloc rfl hz) trivial trivial hk H
theorem dz (k:Nat) (z:Value) (H:chainC P J ops Ψ rest cs (fun j=>if j=k then some (.box S (z.cells.toList.map AV.v)) else h j) (aput t d (.box k 0))) (hz:(P.info? S).bind (·.zero)=some z:=by kernel_rfl) (hk:((h k).isNone&&Nat.blt k hand)=true:=by kernel_rfl) (hg:awanted ops ⟨d,.alloc S,ty',ps,af,gd⟩ t=some true:=by kernel_rfl) :
 chainC P J ops Ψ (⟨d,.alloc S,ty',ps,af,gd⟩::rest) (⟨[],[],.box k 0,.new k (.box S (z.cells.toList.map AV.v))⟩::cs) h t :=
 dR (sp_alloc rfl hz) trivial trivial hk H hg
def ldS (P:Program) (T:TypeId):Bool:=match P.underlying T with
 | some d => !d.isRow
 | none=>false
theorem ldS_sp {T:TypeId} (h:ldS P T=true):∃ d,P.underlying T=some d∧d.isRow=false:=by
 unfold ldS at h
 split at h
 ·rename_i d hd;exact ⟨d,hd,by simpa using h⟩
 cases h
variable {ds:List AV}{off:Nat}
theorem oL (X:AV) (pf:ds[off]? = some X) (H:ETri J w0 h (aput t d X) (wpList P ops Q rest)) (hx:aev t x = .el ds off:=by kernel_rfl) (hd:ldS P S=true:=by kernel_rfl) (hg:awanted ops ⟨d,.load S x,ty',ps,af,gd⟩ t=some true:=by kernel_rfl):ETri J w0 h t (wpList P ops Q (⟨d,.load S x,ty',ps,af,gd⟩::rest)):=by
 obtain ⟨D,h1,h2⟩:=ldS_sp hd
 exact KU hg (Ww x rfl h1 h2 pf) ⟨.inl hx,trivial⟩ trivial trivial H
theorem dL (X:AV) (pf:ds[off]? = some X) (H:chainC P J ops Ψ rest cs h (aput t d X)) (hx:aev t x = .el ds off:=by kernel_rfl) (hd:ldS P S=true:=by kernel_rfl) (hg:awanted ops ⟨d,.load S x,ty',ps,af,gd⟩ t=some true:=by kernel_rfl):chainC P J ops Ψ (⟨d,.load S x,ty',ps,af,gd⟩::rest) (⟨[(x,.el ds off)],[],X,.no⟩::cs) h t:=by
 obtain ⟨D,h1,h2⟩:=ldS_sp hd
 exact dR (Ww x rfl h1 h2 pf) ⟨.inl hx,trivial⟩ trivial trivial H hg
theorem oX (k:Nat) (X:AV) (H:ETri J w0 (fun j=>if j=k then some (.box S X.cellsOf) else h j) (aput t d (.box k 0)) (wpList P ops Q rest)) (hx:aev t x=X:=by kernel_rfl) (hX:X.cellsOf.all AV.cell=true:=by kernel_rfl) (hk:((h k).isNone&&Nat.blt k hand)=true:=by kernel_rfl) (hg:awanted ops ⟨d,.box S x,ty',ps,af,gd⟩ t=some true:=by kernel_rfl) :
 ETri J w0 h t (wpList P ops Q (⟨d,.box S x,ty',ps,af,gd⟩::rest)) :=
 KU hg (sp_box x rfl hX) ⟨.inl hx,trivial⟩ trivial hk H
end
section
variable {P:Program} {w0:Wb} {h:AHeap} {t:ATm} {Q:Exit→Act→World→Prop} {p:Prop} {ops:Array Oper}
variable {n:Nat}
theorem tM {L:List (Nat × ABlk)} {T:List (Nat × AV)} (hp:p) (hn:t.n=n:=by rfl) (hL:L.map (fun p=>(h p.1).map (ABlk.wk (keepL L) h))=L.map (fun p=>some p.2):=by kernel_rfl) (hT:T.map (fun p=>(t.f p.1).wk3 (keepL L) h)=T.map (·.2):=by kernel_rfl):ETri J w0 h t (CutQ J w0 p (ofL L) (ofT n T) Q .normal):=Kq hp (Zs L T hn hL hT)
theorem eD (H:ETri J w0 h t (Q .normal)):chainC P J ops (fun h t=>ETri J w0 h t (Q .normal)) [] [] h t:=H
theorem tD {id:Nat} {l:List Oper} {cl:List Cl} (H:chainC P J l.toArray (fun h t=>ETri J w0 h t (Q .normal)) l cl h t) (hB:fastC l.toArray l cl 0 []=true:=by kernel_rfl) (hm:P.follows .mixedOrders=true:=by kernel_rfl):ETri J w0 h t ((Code.region id l.toArray true).wp P Q):=tri_drawM H hB hm
end
theorem pZ:∀ X∈([]:List AV),Plain X:=fun _ h=>by cases h
variable {X:AV}
theorem pN {l:List AV} (h:Plain X) (H:∀ Y∈l,Plain Y):∀ Y∈X::l,Plain Y:=fun Y hY=>by
 rcases List.mem_cons.1 hY with rfl | hY
 ·exact h
 exact H Y hY
theorem fT {α:Type} {f:α→List AV} {z:Nat} (hz:∀ x,(f x).length=z) (xs:List α) (i j:Nat) (h:i<xs.length:=by omega) (hX:(f xs[i])[j]? = some X:=by rfl) (hj:j<z:=by decide):(xs.flatMap f)[i*z+j]? = some X:=(KB hz xs i j h hj).trans hX
theorem cB {a b:Bool} (h:a=b):AV.v (.bool a)=AV.v (.bool b):=congrArg (fun x:Bool=>AV.v (.bool x)) h
section
variable {P:Program} {w0:Wb} {h:AHeap} {t:ATm} {Q Q2:Exit→Act→World→Prop} {ops:Array Oper} {K K2:Act→World→Prop} {x y z:Code} {l:List Oper} {id:Nat} {c:Operand}
theorem jA (H:ETri J w0 h t K):ETri J w0 h t (wpList P ops (Exit.then K Q) []):=Y1 (Zi H)
theorem jB (H:ETri J w0 h t (wpList P l.toArray (Exit.then (z.wp P Q) Q) l)):ETri J w0 h t ((Code.seq (.region id l.toArray false) z).wp P Q):=Zk (Za H)
theorem jC (H:ETri J w0 h t (y.wp P (Exit.then (z.wp P Q) Q))):ETri J w0 h t (Exit.then ((Code.seq y z).wp P Q) Q2 .normal):=Zi (Zk H)
theorem jD (H:ETri J w0 h t (y.wp P (Exit.then (z.wp P Q) Q))):ETri J w0 h t (wpList P ops (Exit.then ((Code.seq y z).wp P Q) Q2) []):=Y1 (Zi (Zk H))
theorem jE (H:ETri J w0 h t (Q .ret)):ETri J w0 h t (wpList P ops (Exit.then (Code.ret.wp P Q) Q2) []):=Y1 (Zi (YG H))
theorem jF (H:ETri J w0 h t K) (hc:aev t c = .v (.bool false):=by rfl):ETri J w0 h t (wpList P ops (Exit.then ((Code.cond c x .skip).wp P (Exit.then K Q)) Q2) []):=Y1 (Zi (ZK hc (Zq (Zi H))))
theorem jG (H:ETri J w0 h t (wpList P l.toArray (Exit.then (z.wp P Q) Q) l)) (hc:aev t c = .v (.bool true):=by rfl):ETri J w0 h t (wpList P ops (Exit.then ((Code.cond c (.seq (.region id l.toArray false) z) x).wp P Q) Q2) []):=Y1 (Zi (Yy hc (Zk (Za H))))
theorem jH (H:ETri J w0 h t (y.wp P Q)) (hc:aev t c = .v (.bool true):=by rfl):ETri J w0 h t (wpList P ops (Exit.then ((Code.cond c y x).wp P Q) Q2) []):=Y1 (Zi (Yy hc H))
theorem jI (H:ETri J w0 h t (x.wp P Q)) (hc:aev t c = .v (.bool false):=by rfl):ETri J w0 h t (wpList P ops (Exit.then ((Code.cond c y x).wp P Q) Q2) []):=Y1 (Zi (ZK hc H))
theorem jJ (H:ETri J w0 h t K) (hc:aev t c = .v (.bool false):=by rfl):ETri J w0 h t (Exit.then ((Code.cond c x .skip).wp P (Exit.then K Q)) Q2 .normal):=Zi (ZK hc (Zq (Zi H)))
theorem jK (H:ETri J w0 h t (wpList P l.toArray (Exit.then (z.wp P Q) Q) l)) (hc:aev t c = .v (.bool true):=by rfl):ETri J w0 h t ((Code.cond c (.seq (.region id l.toArray false) z) x).wp P Q):=Yy hc (Zk (Za H))
theorem jL (H:ETri J w0 h t K) (hc:aev t c = .v (.bool false):=by rfl):ETri J w0 h t ((Code.cond c x .skip).wp P (Exit.then K Q)):=ZK hc (Zq (Zi H))
theorem jM (H:ETri J w0 h t (x.wp P (Exit.then (y.wp P (Exit.then (z.wp P Q) Q)) (Exit.then (z.wp P Q) Q)))):ETri J w0 h t ((Code.seq (.seq x y) z).wp P Q):=Zk (Zk H)
theorem jN (H:ETri J w0 h t (Q .ret)):ETri J w0 h t (Code.ret.wp P (Exit.then K Q)):=YG (Zb H)
theorem jO (H:ETri J w0 h t (Q .normal)):ETri J w0 h t ((Code.exit id).wp P (Exit.then K (Exit.then K2 (Exit.inBlock id Q)))):=K9 (Zz (Zz (t_hit H)))
end
abbrev nz:AV := .v (.slice none 0 0)
abbrev bx (k:Nat):AV := .box k 0
theorem WJ {α:Type} {l:List α}:l≠[]↔0<(l.length:Int):=by
 cases l with
 | nil=>simp
 | cons a l=>simp
variable {q:Fm}{r:Ru}
theorem ZbP :YU r q.top=(decide (¬ r.kind=1∧(0<(r.gz.length:Int)∨0<(r.ex.length:Int)∨0<(r.fa.length:Int)∨0<(r.send.length:Int)))||(decide (¬ r.kind=1∧¬ r.kind=2∧¬ r.kind=3∧(¬ r.rd = -1∨¬ r.wr = -1))||(decide (¬ r.kind=2∧¬ r.kind=5∧(¬ r.pf=0∨¬ r.pt=0))||(decide ((¬ r.kind=3∧0<(r.resp.length:Int))∨(¬ r.kind=5∧¬ r.dir=0))||(decide (¬ r.kind=4∧(¬ r.pos=0∨0<(r.left.length:Int)∨0<(r.right.length:Int)))||decide (0<(r.pz.length:Int)∧¬ (r.kind=4∧q.top=4))))))):=by
 have e (a b:Prop) [Decidable a] [Decidable b] (x:Bool) (h:a↔b):(if a then true else x)=(decide b||x):=by
  by_cases g:a
  ·rw [if_pos g,decide_eq_true (h.1 g)];rfl
  rw [if_neg g,decide_eq_false (fun k=>g (h.2 k))];rfl
 unfold YU
 rw [e _ (¬ r.kind=1∧(0<(r.gz.length:Int)∨0<(r.ex.length:Int)∨0<(r.fa.length:Int)∨0<(r.send.length:Int))) _ (by rw [WJ,WJ,WJ,WJ]),e _ (¬ r.kind=1∧¬ r.kind=2∧¬ r.kind=3∧(¬ r.rd = -1∨¬ r.wr = -1)) _ (by omega),e _ (¬ r.kind=2∧¬ r.kind=5∧(¬ r.pf=0∨¬ r.pt=0)) _ (by omega),e _ ((¬ r.kind=3∧0<(r.resp.length:Int))∨(¬ r.kind=5∧¬ r.dir=0)) _ (by rw [WJ]),e _ (¬ r.kind=4∧(¬ r.pos=0∨0<(r.left.length:Int)∨0<(r.right.length:Int))) _ (by rw [WJ,WJ])]
 rw [decide_eq_decide.2 (show (r.pz≠[]∧¬(r.kind=4∧q.top=4))↔(0<(r.pz.length:Int)∧¬ (r.kind=4∧q.top=4)) by rw [WJ])]
abbrev Z6 (x0:Fm) (x1:Ru):List (Nat × ABlk):=[(1,.box 27 (cFm x0)),(2,.box 98 (cRu x1))]
set_option maxRecDepth 100000 in
set_option maxHeartbeats 6400000 in
theorem WV (hk:r.kind=1∨r.kind=2∨r.kind=3∨r.kind=4∨r.kind=5) (hq:FmOk q) (hr:RuOk r):Ctr Tryz.prog J 203 [.agg (cFm q),.agg (cRu r)] (bv (YU r q.top)):=by
 refine Zn Tryz.func203 rfl (pN (Zm (Z0 q)) (pN (Zm (Yg r)) pZ)) (n:=136) rfl (by simp) (fun w0 => ?_)
 refine kW 136 [] [(0,.agg (cFm q)),(1,.agg (cRu r))] (jB (oX 1 (.agg (cFm q)) (oX 2 (.agg (cRu r)) (oS bF (jD ?_)))))
 refine tD (dW (dS (iv r.kind) (dC (ZM rfl rfl) I0 I0 (dW (dS (iv r.kind) (dC (ZM rfl rfl) I0 I0 (dW (dS (iv r.kind) (dC (ZM rfl rfl) I0 I0 (dW (dS (iv r.kind) (dC (ZM rfl rfl) I0 I0 (dW (dS (iv r.kind) (dC (ZM rfl rfl) I0 I0 (dS (bv (decide (r.kind=1))) (dS (bv (decide (r.kind=2))) (dS (bv (decide (r.kind=3))) (dS (bv (decide (r.kind=4))) (dS (bv (decide (r.kind=5))) (eD ?_)))))))))))))))))))))
 refine kW 136 (Z6 q r) [(2,bx 1),(3,bx 2),(4,bF),(5,bv (decide (r.kind=1))),(6,bv (decide (r.kind=2))),(7,bv (decide (r.kind=3))),(8,bv (decide (r.kind=4))),(9,bv (decide (r.kind=5)))] (jC (Zk ?_))
 refine YK (True) (ofL [(1,.box 27 (cFm q)),(2,.box 98 (cRu r))]) (ofT 136 [(2,bx 1),(3,bx 2),(4,bF),(5,bv (decide (r.kind=1))),(6,bv (decide (r.kind=2))),(7,bv (decide (r.kind=3))),(8,bv (decide (r.kind=4))),(9,bv (decide (r.kind=5))),(50,bv (decide (¬ r.kind=1∧(0<(r.gz.length:Int)∨0<(r.ex.length:Int)∨0<(r.fa.length:Int)∨0<(r.send.length:Int)))))]) ?_ (fun _ => ?_)
 by_cases hs1:r.kind=1
 rw [dT hs1]
 refine kW 136 (Z6 q r) [(2,bx 1),(3,bx 2),(4,bF),(5,bT),(6,bv (decide (r.kind=2))),(7,bv (decide (r.kind=3))),(8,bv (decide (r.kind=4))),(9,bv (decide (r.kind=5)))] (Za (oW (oF bF (qK (qK (qK (qK (qK (qK (qK (qK (qK (qK (qK (qK (qK (qK (qK (qK (qK (qK (qK (qK ?_)))))))))))))))))))))))
 refine qK (qK (oS bF (kN 136 [(1,.box 27 (cFm q)),(2,.box 98 (cRu r))] [(2,bx 1),(3,bx 2),(4,bF),(5,bT),(6,bv (decide (r.kind=2))),(7,bv (decide (r.kind=3))),(8,bv (decide (r.kind=4))),(9,bv (decide (r.kind=5))),(50,bF)] ?_)))
 rw [show decide (¬ r.kind=1∧(0<(r.gz.length:Int)∨0<(r.ex.length:Int)∨0<(r.fa.length:Int)∨0<(r.send.length:Int)))=false from decide_eq_false (by omega)]
 exact tM T0
 rw [dF hs1]
 refine kW 136 (Z6 q r) [(2,bx 1),(3,bx 2),(4,bF),(5,bF),(6,bv (decide (r.kind=2))),(7,bv (decide (r.kind=3))),(8,bv (decide (r.kind=4))),(9,bv (decide (r.kind=5)))] ?_
 by_cases hs2:0<(r.gz.length:Int)
 refine Za (oW (oF bT (oW (oW (oW (og (dT hs2) (oS bT (qK (qK (qK (qK (oF bT (qK (qK (qK (qK (oF bT (qK (qK (qK (qK (oW (oS bT ?_)))))))))))))))))))))))
 refine kN 136 [(1,.box 27 (cFm q)),(2,.box 98 (cRu r))] [(2,bx 1),(3,bx 2),(4,bF),(5,bF),(6,bv (decide (r.kind=2))),(7,bv (decide (r.kind=3))),(8,bv (decide (r.kind=4))),(9,bv (decide (r.kind=5))),(50,bT)] ?_
 rw [show decide (¬ r.kind=1∧(0<(r.gz.length:Int)∨0<(r.ex.length:Int)∨0<(r.fa.length:Int)∨0<(r.send.length:Int)))=true from decide_eq_true (by omega)]
 exact tM T0
 by_cases hs3:0<(r.ex.length:Int)
 refine Za (oW (oF bT (oW (oW (oW (og (dF hs2) (oS bF (oW (oW (oW (og (dT hs3) (oF bT (qK (qK (qK (qK (oF bT (qK (qK (qK (qK (oW (oS bT ?_)))))))))))))))))))))))
 refine kN 136 [(1,.box 27 (cFm q)),(2,.box 98 (cRu r))] [(2,bx 1),(3,bx 2),(4,bF),(5,bF),(6,bv (decide (r.kind=2))),(7,bv (decide (r.kind=3))),(8,bv (decide (r.kind=4))),(9,bv (decide (r.kind=5))),(50,bT)] ?_
 rw [show decide (¬ r.kind=1∧(0<(r.gz.length:Int)∨0<(r.ex.length:Int)∨0<(r.fa.length:Int)∨0<(r.send.length:Int)))=true from decide_eq_true (by omega)]
 exact tM T0
 by_cases hs4:0<(r.fa.length:Int)
 refine Za (oW (oF bT (oW (oW (oW (og (dF hs2) (oS bF (oW (oW (oW (og (dF hs3) (oF bF (oW (oW (oW (og (dT hs4) (oF bT (qK (qK (qK (qK (oW (oS bT ?_)))))))))))))))))))))))
 refine kN 136 [(1,.box 27 (cFm q)),(2,.box 98 (cRu r))] [(2,bx 1),(3,bx 2),(4,bF),(5,bF),(6,bv (decide (r.kind=2))),(7,bv (decide (r.kind=3))),(8,bv (decide (r.kind=4))),(9,bv (decide (r.kind=5))),(50,bT)] ?_
 rw [show decide (¬ r.kind=1∧(0<(r.gz.length:Int)∨0<(r.ex.length:Int)∨0<(r.fa.length:Int)∨0<(r.send.length:Int)))=true from decide_eq_true (by omega)]
 exact tM T0
 by_cases hs5:0<(r.send.length:Int)
 refine Za (oW (oF bT (oW (oW (oW (og (dF hs2) (oS bF (oW (oW (oW (og (dF hs3) (oF bF (oW (oW (oW (og (dF hs4) (oF bF (oW (oW (oW (og (dT hs5) (oW (oS bT ?_)))))))))))))))))))))))
 refine kN 136 [(1,.box 27 (cFm q)),(2,.box 98 (cRu r))] [(2,bx 1),(3,bx 2),(4,bF),(5,bF),(6,bv (decide (r.kind=2))),(7,bv (decide (r.kind=3))),(8,bv (decide (r.kind=4))),(9,bv (decide (r.kind=5))),(50,bT)] ?_
 rw [show decide (¬ r.kind=1∧(0<(r.gz.length:Int)∨0<(r.ex.length:Int)∨0<(r.fa.length:Int)∨0<(r.send.length:Int)))=true from decide_eq_true (by omega)]
 exact tM T0
 refine Za (oW (oF bT (oW (oW (oW (og (dF hs2) (oS bF (oW (oW (oW (og (dF hs3) (oF bF (oW (oW (oW (og (dF hs4) (oF bF (oW (oW (oW (og (dF hs5) (oW (oS bF ?_)))))))))))))))))))))))
 refine kN 136 [(1,.box 27 (cFm q)),(2,.box 98 (cRu r))] [(2,bx 1),(3,bx 2),(4,bF),(5,bF),(6,bv (decide (r.kind=2))),(7,bv (decide (r.kind=3))),(8,bv (decide (r.kind=4))),(9,bv (decide (r.kind=5))),(50,bF)] ?_
 rw [show decide (¬ r.kind=1∧(0<(r.gz.length:Int)∨0<(r.ex.length:Int)∨0<(r.fa.length:Int)∨0<(r.send.length:Int)))=false from decide_eq_false (by omega)]
 exact tM T0
 refine Zi ?_
 by_cases hs6:(decide (¬ r.kind=1∧(0<(r.gz.length:Int)∨0<(r.ex.length:Int)∨0<(r.fa.length:Int)∨0<(r.send.length:Int))))=true
 rw [hs6]
 refine kW 136 (Z6 q r) [(2,bx 1),(3,bx 2),(4,bF),(5,bv (decide (r.kind=1))),(6,bv (decide (r.kind=2))),(7,bv (decide (r.kind=3))),(8,bv (decide (r.kind=4))),(9,bv (decide (r.kind=5))),(50,bT)] (jK (oS bT (jE (Zb ?_))))
 refine Zd Tryz.results203 (.tmp rfl) ?_
 exact cB ((by rw [ZbP];simp only [hs6,Bool.true_or,Bool.false_or,Bool.or_true,Bool.or_false]))
 have hs6f:(decide (¬ r.kind=1∧(0<(r.gz.length:Int)∨0<(r.ex.length:Int)∨0<(r.fa.length:Int)∨0<(r.send.length:Int))))=false:=by simpa using hs6
 rw [hs6f]
 refine kW 136 (Z6 q r) [(2,bx 1),(3,bx 2),(4,bF),(5,bv (decide (r.kind=1))),(6,bv (decide (r.kind=2))),(7,bv (decide (r.kind=3))),(8,bv (decide (r.kind=4))),(9,bv (decide (r.kind=5))),(50,bF)] (jL (jM ?_))
 refine YK (True) (ofL [(1,.box 27 (cFm q)),(2,.box 98 (cRu r))]) (ofT 136 [(2,bx 1),(3,bx 2),(4,bF),(6,bv (decide (r.kind=2))),(7,bv (decide (r.kind=3))),(8,bv (decide (r.kind=4))),(9,bv (decide (r.kind=5))),(70,bv (decide (¬ r.kind=1∧¬ r.kind=2∧¬ r.kind=3∧(¬ r.rd = -1∨¬ r.wr = -1))))]) ?_ (fun _ => ?_)
 by_cases hs7:r.kind=1
 rw [dT hs7]
 refine kW 136 [(1,.box 27 (cFm q)),(2,.box 98 (cRu r))] [(2,bx 1),(3,bx 2),(4,bF),(5,bT),(6,bv (decide (r.kind=2))),(7,bv (decide (r.kind=3))),(8,bv (decide (r.kind=4))),(9,bv (decide (r.kind=5))),(50,bF)] (Za (oW (oF bF (qK (qK (oF bF (qK (qK (oF bF (qK (qK (qK (qK (qK (qK (qK (qK (oS bF (kN 136 [(1,.box 27 (cFm q)),(2,.box 98 (cRu r))] [(2,bx 1),(3,bx 2),(4,bF),(6,bv (decide (r.kind=2))),(7,bv (decide (r.kind=3))),(8,bv (decide (r.kind=4))),(9,bv (decide (r.kind=5))),(70,bF)] ?_)))))))))))))))))))
 rw [show decide (¬ r.kind=1∧¬ r.kind=2∧¬ r.kind=3∧(¬ r.rd = -1∨¬ r.wr = -1))=false from decide_eq_false (by omega)]
 exact tM T0
 rw [dF hs7]
 refine kW 136 (Z6 q r) [(2,bx 1),(3,bx 2),(4,bF),(5,bF),(6,bv (decide (r.kind=2))),(7,bv (decide (r.kind=3))),(8,bv (decide (r.kind=4))),(9,bv (decide (r.kind=5))),(50,bF)] ?_
 by_cases hs8:r.kind=2
 rw [dT hs8]
 refine kW 136 [(1,.box 27 (cFm q)),(2,.box 98 (cRu r))] [(2,bx 1),(3,bx 2),(4,bF),(5,bF),(6,bT),(7,bv (decide (r.kind=3))),(8,bv (decide (r.kind=4))),(9,bv (decide (r.kind=5))),(50,bF)] (Za (oW (oF bT (oW (oW (oF bF (qK (qK (oF bF (qK (qK (qK (qK (qK (qK (qK (qK (oS bF (kN 136 [(1,.box 27 (cFm q)),(2,.box 98 (cRu r))] [(2,bx 1),(3,bx 2),(4,bF),(6,bT),(7,bv (decide (r.kind=3))),(8,bv (decide (r.kind=4))),(9,bv (decide (r.kind=5))),(70,bF)] ?_)))))))))))))))))))
 rw [show decide (¬ r.kind=1∧¬ r.kind=2∧¬ r.kind=3∧(¬ r.rd = -1∨¬ r.wr = -1))=false from decide_eq_false (by omega)]
 exact tM T0
 rw [dF hs8]
 refine kW 136 (Z6 q r) [(2,bx 1),(3,bx 2),(4,bF),(5,bF),(6,bF),(7,bv (decide (r.kind=3))),(8,bv (decide (r.kind=4))),(9,bv (decide (r.kind=5))),(50,bF)] ?_
 by_cases hs9:r.kind=3
 rw [dT hs9]
 refine kW 136 [(1,.box 27 (cFm q)),(2,.box 98 (cRu r))] [(2,bx 1),(3,bx 2),(4,bF),(5,bF),(6,bF),(7,bT),(8,bv (decide (r.kind=4))),(9,bv (decide (r.kind=5))),(50,bF)] (Za (oW (oF bT (oW (oW (oF bT (oW (oW (oF bF (qK (qK (qK (qK (qK (qK (qK (qK (oS bF (kN 136 [(1,.box 27 (cFm q)),(2,.box 98 (cRu r))] [(2,bx 1),(3,bx 2),(4,bF),(6,bF),(7,bT),(8,bv (decide (r.kind=4))),(9,bv (decide (r.kind=5))),(70,bF)] ?_)))))))))))))))))))
 rw [show decide (¬ r.kind=1∧¬ r.kind=2∧¬ r.kind=3∧(¬ r.rd = -1∨¬ r.wr = -1))=false from decide_eq_false (by omega)]
 exact tM T0
 rw [dF hs9]
 refine kW 136 (Z6 q r) [(2,bx 1),(3,bx 2),(4,bF),(5,bF),(6,bF),(7,bF),(8,bv (decide (r.kind=4))),(9,bv (decide (r.kind=5))),(50,bF)] ?_
 by_cases hs10:r.rd=(-1)
 by_cases hs11:r.wr=(-1)
 refine Za (oW (oF bT (oW (oW (oF bT (oW (oW (oF bT (oW (oW (on (dT' hs10) (oS bF (oW (oW (on (dT' hs11) (oW (oS bF (kN 136 [(1,.box 27 (cFm q)),(2,.box 98 (cRu r))] [(2,bx 1),(3,bx 2),(4,bF),(6,bF),(7,bF),(8,bv (decide (r.kind=4))),(9,bv (decide (r.kind=5))),(70,bF)] ?_))))))))))))))))))
 rw [show decide (¬ r.kind=1∧¬ r.kind=2∧¬ r.kind=3∧(¬ r.rd = -1∨¬ r.wr = -1))=false from decide_eq_false (by omega)]
 exact tM T0
 refine Za (oW (oF bT (oW (oW (oF bT (oW (oW (oF bT (oW (oW (on (dT' hs10) (oS bF (oW (oW (on (dF' hs11) (oW (oS bT (kN 136 [(1,.box 27 (cFm q)),(2,.box 98 (cRu r))] [(2,bx 1),(3,bx 2),(4,bF),(6,bF),(7,bF),(8,bv (decide (r.kind=4))),(9,bv (decide (r.kind=5))),(70,bT)] ?_))))))))))))))))))
 rw [show decide (¬ r.kind=1∧¬ r.kind=2∧¬ r.kind=3∧(¬ r.rd = -1∨¬ r.wr = -1))=true from decide_eq_true (by omega)]
 exact tM T0
 refine Za (oW (oF bT (oW (oW (oF bT (oW (oW (oF bT (oW (oW (on (dF' hs10) (oS bT (qK (qK (qK (oW (oS bT (kN 136 [(1,.box 27 (cFm q)),(2,.box 98 (cRu r))] [(2,bx 1),(3,bx 2),(4,bF),(6,bF),(7,bF),(8,bv (decide (r.kind=4))),(9,bv (decide (r.kind=5))),(70,bT)] ?_))))))))))))))))))
 rw [show decide (¬ r.kind=1∧¬ r.kind=2∧¬ r.kind=3∧(¬ r.rd = -1∨¬ r.wr = -1))=true from decide_eq_true (by omega)]
 exact tM T0
 refine Zi ?_
 by_cases hs12:(decide (¬ r.kind=1∧¬ r.kind=2∧¬ r.kind=3∧(¬ r.rd = -1∨¬ r.wr = -1)))=true
 rw [hs12]
 refine kW 136 (Z6 q r) [(2,bx 1),(3,bx 2),(4,bF),(6,bv (decide (r.kind=2))),(7,bv (decide (r.kind=3))),(8,bv (decide (r.kind=4))),(9,bv (decide (r.kind=5))),(70,bT)] (jK (oS bT (jE (Zb ?_))))
 refine Zd Tryz.results203 (.tmp rfl) ?_
 exact cB ((by rw [ZbP];simp only [hs6f,hs12,Bool.true_or,Bool.false_or,Bool.or_true,Bool.or_false]))
 have hs12f:(decide (¬ r.kind=1∧¬ r.kind=2∧¬ r.kind=3∧(¬ r.rd = -1∨¬ r.wr = -1)))=false:=by simpa using hs12
 rw [hs12f]
 refine kW 136 (Z6 q r) [(2,bx 1),(3,bx 2),(4,bF),(6,bv (decide (r.kind=2))),(7,bv (decide (r.kind=3))),(8,bv (decide (r.kind=4))),(9,bv (decide (r.kind=5))),(70,bF)] (jL (jM ?_))
 refine YK (True) (ofL [(1,.box 27 (cFm q)),(2,.box 98 (cRu r))]) (ofT 136 [(2,bx 1),(3,bx 2),(4,bF),(7,bv (decide (r.kind=3))),(8,bv (decide (r.kind=4))),(9,bv (decide (r.kind=5))),(86,bv (decide (¬ r.kind=2∧¬ r.kind=5∧(¬ r.pf=0∨¬ r.pt=0))))]) ?_ (fun _ => ?_)
 by_cases hs13:r.kind=2
 rw [dT hs13]
 refine kW 136 [(1,.box 27 (cFm q)),(2,.box 98 (cRu r))] [(2,bx 1),(3,bx 2),(4,bF),(6,bT),(7,bv (decide (r.kind=3))),(8,bv (decide (r.kind=4))),(9,bv (decide (r.kind=5))),(70,bF)] (Za (oW (oF bF (qK (qK (oF bF (qK (qK (qK (qK (qK (qK (qK (qK (oS bF (kN 136 [(1,.box 27 (cFm q)),(2,.box 98 (cRu r))] [(2,bx 1),(3,bx 2),(4,bF),(7,bv (decide (r.kind=3))),(8,bv (decide (r.kind=4))),(9,bv (decide (r.kind=5))),(86,bF)] ?_))))))))))))))))
 rw [show decide (¬ r.kind=2∧¬ r.kind=5∧(¬ r.pf=0∨¬ r.pt=0))=false from decide_eq_false (by omega)]
 exact tM T0
 rw [dF hs13]
 refine kW 136 (Z6 q r) [(2,bx 1),(3,bx 2),(4,bF),(6,bF),(7,bv (decide (r.kind=3))),(8,bv (decide (r.kind=4))),(9,bv (decide (r.kind=5))),(70,bF)] ?_
 by_cases hs14:r.kind=5
 rw [dT hs14]
 refine kW 136 [(1,.box 27 (cFm q)),(2,.box 98 (cRu r))] [(2,bx 1),(3,bx 2),(4,bF),(6,bF),(7,bv (decide (r.kind=3))),(8,bv (decide (r.kind=4))),(9,bT),(70,bF)] (Za (oW (oF bT (oW (oW (oF bF (qK (qK (qK (qK (qK (qK (qK (qK (oS bF (kN 136 [(1,.box 27 (cFm q)),(2,.box 98 (cRu r))] [(2,bx 1),(3,bx 2),(4,bF),(7,bv (decide (r.kind=3))),(8,bv (decide (r.kind=4))),(9,bT),(86,bF)] ?_))))))))))))))))
 rw [show decide (¬ r.kind=2∧¬ r.kind=5∧(¬ r.pf=0∨¬ r.pt=0))=false from decide_eq_false (by omega)]
 exact tM T0
 rw [dF hs14]
 refine kW 136 (Z6 q r) [(2,bx 1),(3,bx 2),(4,bF),(6,bF),(7,bv (decide (r.kind=3))),(8,bv (decide (r.kind=4))),(9,bF),(70,bF)] ?_
 by_cases hs15:r.pf=0
 by_cases hs16:r.pt=0
 refine Za (oW (oF bT (oW (oW (oF bT (oW (oW (on (dT' hs15) (oS bF (oW (oW (on (dT' hs16) (oW (oS bF (kN 136 [(1,.box 27 (cFm q)),(2,.box 98 (cRu r))] [(2,bx 1),(3,bx 2),(4,bF),(7,bv (decide (r.kind=3))),(8,bv (decide (r.kind=4))),(9,bF),(86,bF)] ?_)))))))))))))))
 rw [show decide (¬ r.kind=2∧¬ r.kind=5∧(¬ r.pf=0∨¬ r.pt=0))=false from decide_eq_false (by omega)]
 exact tM T0
 refine Za (oW (oF bT (oW (oW (oF bT (oW (oW (on (dT' hs15) (oS bF (oW (oW (on (dF' hs16) (oW (oS bT (kN 136 [(1,.box 27 (cFm q)),(2,.box 98 (cRu r))] [(2,bx 1),(3,bx 2),(4,bF),(7,bv (decide (r.kind=3))),(8,bv (decide (r.kind=4))),(9,bF),(86,bT)] ?_)))))))))))))))
 rw [show decide (¬ r.kind=2∧¬ r.kind=5∧(¬ r.pf=0∨¬ r.pt=0))=true from decide_eq_true (by omega)]
 exact tM T0
 refine Za (oW (oF bT (oW (oW (oF bT (oW (oW (on (dF' hs15) (oS bT (qK (qK (qK (oW (oS bT (kN 136 [(1,.box 27 (cFm q)),(2,.box 98 (cRu r))] [(2,bx 1),(3,bx 2),(4,bF),(7,bv (decide (r.kind=3))),(8,bv (decide (r.kind=4))),(9,bF),(86,bT)] ?_)))))))))))))))
 rw [show decide (¬ r.kind=2∧¬ r.kind=5∧(¬ r.pf=0∨¬ r.pt=0))=true from decide_eq_true (by omega)]
 exact tM T0
 refine Zi ?_
 by_cases hs17:(decide (¬ r.kind=2∧¬ r.kind=5∧(¬ r.pf=0∨¬ r.pt=0)))=true
 rw [hs17]
 refine kW 136 (Z6 q r) [(2,bx 1),(3,bx 2),(4,bF),(7,bv (decide (r.kind=3))),(8,bv (decide (r.kind=4))),(9,bv (decide (r.kind=5))),(86,bT)] (jK (oS bT (jE (Zb ?_))))
 refine Zd Tryz.results203 (.tmp rfl) ?_
 exact cB ((by rw [ZbP];simp only [hs6f,hs12f,hs17,Bool.true_or,Bool.false_or,Bool.or_true,Bool.or_false]))
 have hs17f:(decide (¬ r.kind=2∧¬ r.kind=5∧(¬ r.pf=0∨¬ r.pt=0)))=false:=by simpa using hs17
 rw [hs17f]
 refine kW 136 (Z6 q r) [(2,bx 1),(3,bx 2),(4,bF),(7,bv (decide (r.kind=3))),(8,bv (decide (r.kind=4))),(9,bv (decide (r.kind=5))),(86,bF)] (jL (jM ?_))
 refine YK (True) (ofL [(1,.box 27 (cFm q)),(2,.box 98 (cRu r))]) (ofT 136 [(2,bx 1),(3,bx 2),(4,bF),(8,bv (decide (r.kind=4))),(103,bv (decide ((¬ r.kind=3∧0<(r.resp.length:Int))∨(¬ r.kind=5∧¬ r.dir=0))))]) ?_ (fun _ => ?_)
 by_cases hs18:r.kind=3
 rw [dT hs18]
 refine kW 136 (Z6 q r) [(2,bx 1),(3,bx 2),(4,bF),(7,bT),(8,bv (decide (r.kind=4))),(9,bv (decide (r.kind=5))),(86,bF)] ?_
 by_cases hs19:r.kind=5
 rw [dT hs19]
 refine kW 136 [(1,.box 27 (cFm q)),(2,.box 98 (cRu r))] [(2,bx 1),(3,bx 2),(4,bF),(7,bT),(8,bv (decide (r.kind=4))),(9,bT),(86,bF)] (Za (oW (oF bF (qK (qK (qK (qK (oF bF (oW (oF bF (qK (qK (qK (oW (oS bF (kN 136 [(1,.box 27 (cFm q)),(2,.box 98 (cRu r))] [(2,bx 1),(3,bx 2),(4,bF),(8,bv (decide (r.kind=4))),(103,bF)] ?_))))))))))))))))
 rw [show decide ((¬ r.kind=3∧0<(r.resp.length:Int))∨(¬ r.kind=5∧¬ r.dir=0))=false from decide_eq_false (by omega)]
 exact tM T0
 rw [dF hs19]
 refine kW 136 (Z6 q r) [(2,bx 1),(3,bx 2),(4,bF),(7,bT),(8,bv (decide (r.kind=4))),(9,bF),(86,bF)] ?_
 by_cases hs20:r.dir=0
 refine Za (oW (oF bF (qK (qK (qK (qK (oF bF (oW (oF bT (oW (oW (on (dT' hs20) (oW (oS bF (kN 136 [(1,.box 27 (cFm q)),(2,.box 98 (cRu r))] [(2,bx 1),(3,bx 2),(4,bF),(8,bv (decide (r.kind=4))),(103,bF)] ?_)))))))))))))))
 rw [show decide ((¬ r.kind=3∧0<(r.resp.length:Int))∨(¬ r.kind=5∧¬ r.dir=0))=false from decide_eq_false (by omega)]
 exact tM T0
 refine Za (oW (oF bF (qK (qK (qK (qK (oF bF (oW (oF bT (oW (oW (on (dF' hs20) (oW (oS bT (kN 136 [(1,.box 27 (cFm q)),(2,.box 98 (cRu r))] [(2,bx 1),(3,bx 2),(4,bF),(8,bv (decide (r.kind=4))),(103,bT)] ?_)))))))))))))))
 rw [show decide ((¬ r.kind=3∧0<(r.resp.length:Int))∨(¬ r.kind=5∧¬ r.dir=0))=true from decide_eq_true (by omega)]
 exact tM T0
 rw [dF hs18]
 refine kW 136 (Z6 q r) [(2,bx 1),(3,bx 2),(4,bF),(7,bF),(8,bv (decide (r.kind=4))),(9,bv (decide (r.kind=5))),(86,bF)] ?_
 by_cases hs21:0<(r.resp.length:Int)
 refine Za (oW (oF bT (oW (oW (oW (og (dT hs21) (oF bT (qK (qK (qK (qK (qK (qK (qK (oS bT (kN 136 [(1,.box 27 (cFm q)),(2,.box 98 (cRu r))] [(2,bx 1),(3,bx 2),(4,bF),(8,bv (decide (r.kind=4))),(103,bT)] ?_))))))))))))))))
 rw [show decide ((¬ r.kind=3∧0<(r.resp.length:Int))∨(¬ r.kind=5∧¬ r.dir=0))=true from decide_eq_true (by omega)]
 exact tM T0
 by_cases hs22:r.kind=5
 rw [dT hs22]
 refine kW 136 [(1,.box 27 (cFm q)),(2,.box 98 (cRu r))] [(2,bx 1),(3,bx 2),(4,bF),(7,bF),(8,bv (decide (r.kind=4))),(9,bT),(86,bF)] (Za (oW (oF bT (oW (oW (oW (og (dF hs21) (oF bF (oW (oF bF (qK (qK (qK (oW (oS bF (kN 136 [(1,.box 27 (cFm q)),(2,.box 98 (cRu r))] [(2,bx 1),(3,bx 2),(4,bF),(8,bv (decide (r.kind=4))),(103,bF)] ?_))))))))))))))))
 rw [show decide ((¬ r.kind=3∧0<(r.resp.length:Int))∨(¬ r.kind=5∧¬ r.dir=0))=false from decide_eq_false (by omega)]
 exact tM T0
 rw [dF hs22]
 refine kW 136 (Z6 q r) [(2,bx 1),(3,bx 2),(4,bF),(7,bF),(8,bv (decide (r.kind=4))),(9,bF),(86,bF)] ?_
 by_cases hs23:r.dir=0
 refine Za (oW (oF bT (oW (oW (oW (og (dF hs21) (oF bF (oW (oF bT (oW (oW (on (dT' hs23) (oW (oS bF (kN 136 [(1,.box 27 (cFm q)),(2,.box 98 (cRu r))] [(2,bx 1),(3,bx 2),(4,bF),(8,bv (decide (r.kind=4))),(103,bF)] ?_)))))))))))))))
 rw [show decide ((¬ r.kind=3∧0<(r.resp.length:Int))∨(¬ r.kind=5∧¬ r.dir=0))=false from decide_eq_false (by omega)]
 exact tM T0
 refine Za (oW (oF bT (oW (oW (oW (og (dF hs21) (oF bF (oW (oF bT (oW (oW (on (dF' hs23) (oW (oS bT (kN 136 [(1,.box 27 (cFm q)),(2,.box 98 (cRu r))] [(2,bx 1),(3,bx 2),(4,bF),(8,bv (decide (r.kind=4))),(103,bT)] ?_)))))))))))))))
 rw [show decide ((¬ r.kind=3∧0<(r.resp.length:Int))∨(¬ r.kind=5∧¬ r.dir=0))=true from decide_eq_true (by omega)]
 exact tM T0
 refine Zi ?_
 by_cases hs24:(decide ((¬ r.kind=3∧0<(r.resp.length:Int))∨(¬ r.kind=5∧¬ r.dir=0)))=true
 rw [hs24]
 refine kW 136 (Z6 q r) [(2,bx 1),(3,bx 2),(4,bF),(8,bv (decide (r.kind=4))),(103,bT)] (jK (oS bT (jE (Zb ?_))))
 refine Zd Tryz.results203 (.tmp rfl) ?_
 exact cB ((by rw [ZbP];simp only [hs6f,hs12f,hs17f,hs24,Bool.true_or,Bool.false_or,Bool.or_true,Bool.or_false]))
 have hs24f:(decide ((¬ r.kind=3∧0<(r.resp.length:Int))∨(¬ r.kind=5∧¬ r.dir=0)))=false:=by simpa using hs24
 rw [hs24f]
 refine kW 136 (Z6 q r) [(2,bx 1),(3,bx 2),(4,bF),(8,bv (decide (r.kind=4))),(103,bF)] (jL (jM ?_))
 refine YK (True) (ofL [(1,.box 27 (cFm q)),(2,.box 98 (cRu r))]) (ofT 136 [(2,bx 1),(3,bx 2),(4,bF),(8,bv (decide (r.kind=4))),(122,bv (decide (¬ r.kind=4∧(¬ r.pos=0∨0<(r.left.length:Int)∨0<(r.right.length:Int)))))]) ?_ (fun _ => ?_)
 by_cases hs25:r.kind=4
 rw [dT hs25]
 refine kW 136 [(1,.box 27 (cFm q)),(2,.box 98 (cRu r))] [(2,bx 1),(3,bx 2),(4,bF),(8,bT),(103,bF)] (Za (oW (oF bF (qK (qK (qK (qK (qK (qK (qK (qK (qK (qK (qK (qK (qK (qK (qK (oS bF (kN 136 [(1,.box 27 (cFm q)),(2,.box 98 (cRu r))] [(2,bx 1),(3,bx 2),(4,bF),(8,bT),(122,bF)] ?_))))))))))))))))))))
 rw [show decide (¬ r.kind=4∧(¬ r.pos=0∨0<(r.left.length:Int)∨0<(r.right.length:Int)))=false from decide_eq_false (by omega)]
 exact tM T0
 rw [dF hs25]
 refine kW 136 (Z6 q r) [(2,bx 1),(3,bx 2),(4,bF),(8,bF),(103,bF)] ?_
 by_cases hs26:r.pos=0
 by_cases hs27:0<(r.left.length:Int)
 refine Za (oW (oF bT (oW (oW (on (dT' hs26) (oS bF (oW (oW (oW (og (dT hs27) (oF bT (qK (qK (qK (qK (oW (oS bT (kN 136 [(1,.box 27 (cFm q)),(2,.box 98 (cRu r))] [(2,bx 1),(3,bx 2),(4,bF),(8,bF),(122,bT)] ?_))))))))))))))))))
 rw [show decide (¬ r.kind=4∧(¬ r.pos=0∨0<(r.left.length:Int)∨0<(r.right.length:Int)))=true from decide_eq_true (by omega)]
 exact tM T0
 by_cases hs28:0<(r.right.length:Int)
 refine Za (oW (oF bT (oW (oW (on (dT' hs26) (oS bF (oW (oW (oW (og (dF hs27) (oF bF (oW (oW (oW (og (dT hs28) (oW (oS bT (kN 136 [(1,.box 27 (cFm q)),(2,.box 98 (cRu r))] [(2,bx 1),(3,bx 2),(4,bF),(8,bF),(122,bT)] ?_))))))))))))))))))
 rw [show decide (¬ r.kind=4∧(¬ r.pos=0∨0<(r.left.length:Int)∨0<(r.right.length:Int)))=true from decide_eq_true (by omega)]
 exact tM T0
 refine Za (oW (oF bT (oW (oW (on (dT' hs26) (oS bF (oW (oW (oW (og (dF hs27) (oF bF (oW (oW (oW (og (dF hs28) (oW (oS bF (kN 136 [(1,.box 27 (cFm q)),(2,.box 98 (cRu r))] [(2,bx 1),(3,bx 2),(4,bF),(8,bF),(122,bF)] ?_))))))))))))))))))
 rw [show decide (¬ r.kind=4∧(¬ r.pos=0∨0<(r.left.length:Int)∨0<(r.right.length:Int)))=false from decide_eq_false (by omega)]
 exact tM T0
 refine Za (oW (oF bT (oW (oW (on (dF' hs26) (oS bT (qK (qK (qK (qK (oF bT (qK (qK (qK (qK (oW (oS bT (kN 136 [(1,.box 27 (cFm q)),(2,.box 98 (cRu r))] [(2,bx 1),(3,bx 2),(4,bF),(8,bF),(122,bT)] ?_))))))))))))))))))
 rw [show decide (¬ r.kind=4∧(¬ r.pos=0∨0<(r.left.length:Int)∨0<(r.right.length:Int)))=true from decide_eq_true (by omega)]
 exact tM T0
 refine Zi ?_
 by_cases hs29:(decide (¬ r.kind=4∧(¬ r.pos=0∨0<(r.left.length:Int)∨0<(r.right.length:Int))))=true
 rw [hs29]
 refine kW 136 (Z6 q r) [(2,bx 1),(3,bx 2),(4,bF),(8,bv (decide (r.kind=4))),(122,bT)] (jK (oS bT (jE (Zb ?_))))
 refine Zd Tryz.results203 (.tmp rfl) ?_
 exact cB ((by rw [ZbP];simp only [hs6f,hs12f,hs17f,hs24f,hs29,Bool.true_or,Bool.false_or,Bool.or_true,Bool.or_false]))
 have hs29f:(decide (¬ r.kind=4∧(¬ r.pos=0∨0<(r.left.length:Int)∨0<(r.right.length:Int))))=false:=by simpa using hs29
 rw [hs29f]
 refine kW 136 (Z6 q r) [(2,bx 1),(3,bx 2),(4,bF),(8,bv (decide (r.kind=4))),(122,bF)] (jL (Zk ?_))
 by_cases hs30:0<(r.pz.length:Int)
 by_cases hs31:r.kind=4
 rw [dT hs31]
 refine kW 136 (Z6 q r) [(2,bx 1),(3,bx 2),(4,bF),(8,bT),(122,bF)] (Za (oW (oW (oW (og (dT hs30) (oS bT (oF bT (oF (iv q.top) (gC (ZM rfl rfl) I0 I0 (oW (oW (oF (bv (!decide (q.top=4))) (jE ?_)))))))))))))
 refine Zd Tryz.results203 (.tmp rfl) ?_
 have h6:decide (0<(r.pz.length:Int)∧¬ (r.kind=4∧q.top=4))=(!decide (q.top=4)):=(decide_eq_decide.2 (by omega)).trans decide_not
 exact cB ((by rw [ZbP,h6];simp only [hs6f,hs12f,hs17f,hs24f,hs29f,Bool.true_or,Bool.false_or,Bool.or_true,Bool.or_false]))
 rw [dF hs31]
 refine kW 136 (Z6 q r) [(2,bx 1),(3,bx 2),(4,bF),(8,bF),(122,bF)] (Za (oW (oW (oW (og (dT hs30) (oS bT (oF bF (qK (qK (qK (oW (oW (oF bT (jE ?_))))))))))))))
 refine Zd Tryz.results203 (.tmp rfl) ?_
 have h6:decide (0<(r.pz.length:Int)∧¬ (r.kind=4∧q.top=4))=true:=decide_eq_true (by omega)
 exact cB ((by rw [ZbP,h6];simp only [hs6f,hs12f,hs17f,hs24f,hs29f,Bool.true_or,Bool.false_or,Bool.or_true,Bool.or_false]))
 refine Za (oW (oW (oW (og (dF hs30) (oS bF (qK (qK (qK (qK (qK (qK (qK (oF bF (jE ?_))))))))))))))
 refine Zd Tryz.results203 (.tmp rfl) ?_
 have h6:decide (0<(r.pz.length:Int)∧¬ (r.kind=4∧q.top=4))=false:=decide_eq_false (by omega)
 exact cB ((by rw [ZbP,h6];simp only [hs6f,hs12f,hs17f,hs24f,hs29f,Bool.true_or,Bool.false_or,Bool.or_true,Bool.or_false]))
def cmpI:List Int→List Int→Int
 | [],[]=>0
 | [],_::_ => -1
 | _::_,[]=>1
 | x::xs,y::ys=>if x<y then -1 else if y<x then 1 else cmpI xs ys
def OwnV (lo:Nat) (w:World) (v:Value) (xs:List Int):Prop :=
 (v = .slice none 0 0∧xs=[])∨∃ g cap,v = .slice (some ⟨g,0,none⟩) xs.length cap∧xs.length≤cap∧cap≤maxLen∧OwnInts lo w g xs
variable {lo:Nat}{w:World}{v:Value}
theorem OwnV.ints {xs:List Int} (h:OwnV lo w v xs):IsInts lo w v xs:=by
 rcases h with ⟨rfl,rfl⟩ | ⟨g,cap,rfl,hl,hm,h1,h2,h3,cur,t,hg,hc⟩
 ·exact ⟨none,0,rfl,by simp,by simp [maxLen],by simp,.inl rfl⟩
 exact Wn hg h1 rfl hl hm h3 hc
theorem OwnV.below {lo:Nat} {w w':World} {v:Value} {xs:List Int} (h:OwnV lo w v xs) (hb:Below w.heap.size w w'):OwnV lo w' v xs:=by
 rcases h with h | ⟨g,cap,hv,hl,hm,h⟩
 ·exact .inl h
 exact .inr ⟨g,cap,hv,hl,hm,h.below hb⟩
theorem OwnV.mono {lo lo':Nat} {w:World} {v:Value} {xs:List Int} (h:OwnV lo w v xs) (hl':lo'≤lo):OwnV lo' w v xs:=by
 rcases h with h | ⟨g,cap,hv,hl,hm,h⟩
 ·exact .inl h
 exact .inr ⟨g,cap,hv,hl,hm,h.mono hl'⟩
theorem OwnV.shape {lo:Nat} {w:World} {v:Value} {xs:List Int} (h:OwnV lo w v xs):∃ a cap,v = .slice a xs.length cap:=h.ints.shape
def eqI (xs ys:List Int):Bool:=decide (xs=ys)
set_option maxHeartbeats 12800000
variable {w':World}
theorem row_still {B e size n:Nat} {xs:List Value} (h:w.ownsRow B e size v n xs) (hb:Below w.heap.size w w'):w'.ownsRow B e size v n xs:=by
 obtain ⟨h1,h2⟩:=h
 refine ⟨h1,?_⟩
 rcases h2 with h2 | ⟨g,cap,cur,hv,hg,hh,r⟩
 ·exact .inl h2
 exact .inr ⟨g,cap,cur,hv,hg,by rw [hb.block g (Array.getElem?_eq_some_iff.1 hh).1];exact hh,r⟩
theorem Zcd:∃ i:TypeInfo,Tryz.prog.info? 9=some i∧i.zero=some (.string ⟨#[]⟩)∧i.size=1∧i.bytes=16:=by
 have h:(Tryz.prog.info? 9).map (fun i=>(i.zero,i.size,i.bytes))=some (some (.string ⟨#[]⟩),1,16):=by kernel_rfl
 obtain ⟨i,hi,hz⟩:=Option.map_eq_some_iff.1 h
 simp only [Prod.mk.injEq] at hz
 exact ⟨i,hi,hz.1,hz.2.1,hz.2.2⟩
theorem grow_own (w:World) (n:Nat) (hn:n≤1000) :
 (w.drew.alloc (.cells (Builtin.zeroCells (Value.string ⟨#[]⟩).cells n++Builtin.zeroCells (Value.string ⟨#[]⟩).cells (grownCap w n 0 9-n)) 9)).ownsRow w.heap.size 9 1 (.slice (some ⟨w.heap.size,0,none⟩) 0 (grownCap w n 0 9)) 0 []:=by
 have h1:=grownCap_ge w n 0 9
 have h2:=grownCap_le_maxLen w n 0 9 (by unfold maxLen;omega)
 refine ⟨rfl,.inr ⟨w.heap.size,_,_,rfl,Nat.le_refl _,heap_alloc_new w.drew _,Nat.zero_le _,h2,?_,by simp⟩⟩
 rw [Array.size_append,size_zeroCells,size_zeroCells]
 show n*1+(_-n)*1=_*1
 omega
set_option maxRecDepth 100000 in
theorem Grow_nil (n:Nat) (hn:n≤1000) (w:World) :
 Calls Tryz.prog 225 #[.slice none 0 0,.int .i64 n] w fun e w'=>∃ a c,e = .returned (.slice a 0 c)∧w'.ownsRow w.heap.size 9 1 (.slice a 0 c) 0 []∧Below w.heap.size w w':=by
 by_cases h0:n=0
 ·subst h0
  go_enter Tryz.func225,Tryz.ntmps225
  go_wp2_with fail
  go_ret
  exact ⟨_,_,rfl,World.ownsRow_nil _ _ _ _,Below.refl _ _⟩
 have g1:(0:Int)<(n:Int):=by omega
 obtain ⟨i0,hi0,hz0,hz1,hz2⟩:=Zcd
 have R:=Lib.hid (Lib.run_append_nil_zeros (P:=Tryz.prog) w 22 3 22 9 i0 (.string ⟨#[]⟩) .i64 .i64 Tryz.underlying22 Tryz.underlying3 hi0 hz0 n (by omega) (by omega) (by omega) (by rw [hz2];omega))
 clear hi0 hz0 hz1 hz2
 go_enter Tryz.func225,Tryz.ntmps225
 go_wp2_with (at_builtin;refine Lib.wpList_append_run _ rfl (.tmp 20) (.tmp 21) 22 3 rfl _ _ rfl rfl _ _ R.out ?_)
 go_ret
 exact ⟨_,_,rfl,grow_own w n hn,(drewBelow w).trans ((Ze w.drew _).mono (by simp))⟩
variable {xs:List ByteArray}
theorem sl_src {ad:Addr} {n c:Nat} (h:IsSl 1 StrEl lo w (.slice (some ad) n c) xs) (w':World) (hb:Below w.heap.size w w') (j:Nat) (u:Value) (hj:(xs.map Value.string)[j]? = some u):w'.cell? (ad.add j)=some u:=by
 have hjl:j<xs.length:=by have:=(List.getElem?_eq_some_iff.1 hj).1;simpa using this
 obtain ⟨b,off,cs,ha,_,hbk,hl,hc,hel⟩:=h.at j hjl
 cases ha
 have h0:=hc 0 (by omega)
 rw [hel.1] at h0
 have:(xs.map Value.string)[j]? = some (.string xs[j]):=by simp [hjl]
 rw [this] at hj
 cases hj
 simp only [Nat.add_zero,Nat.mul_one] at h0
 have e:=(hb.cell (p:=⟨b,off+j,none⟩) hbk).trans h0
 by_cases j0:j=0
 ·subst j0;simpa [Addr.add] using e
 simpa [Addr.add,j0] using e
variable {n:Nat}
theorem row_sl (h:w.ownsRow lo 9 1 v n (xs.map Value.string)) (hs:∀ s∈xs,s.size≤maxLen):IsSl 1 StrEl lo w v xs:=by
 obtain ⟨hl,h2⟩:=h
 have hn:n=xs.length:=by simpa using hl.symm
 subst hn
 rcases h2 with ⟨rfl,h0⟩ | ⟨g,cap,cur,rfl,hb,hg,hn,hm,hc,ht⟩
 ·exact ⟨none,0,by rw [h0],by omega,by simp [maxLen],fun _=>rfl,.inl (List.eq_nil_of_length_eq_zero h0)⟩
 refine ⟨_,_,rfl,hn,hm,by simp,.inr ⟨g,0,rfl,hb,(Array.getElem?_eq_some_iff.1 hg).1,fun i hi=>⟨[.string xs[i]],rfl,fun j hj => ?_,rfl,hs _ (List.getElem_mem hi)⟩⟩⟩
 obtain rfl:j=0:=by omega
 have hcell:w.cell? ⟨g,0+i*1+0,none⟩=cur[i]? := by
  simp only [World.cell?,hg];simp
 rw [hcell,← Array.getElem?_toList,show cur.toList[i]? = (cur.toList.take (xs.length*1))[i]? by rw [List.getElem?_take_of_lt (by omega)],ht]
 simp [hi]
def lens (xss:List (List ByteArray)) (k:Nat):Nat:=(xss.take k).flatten.length
variable {k:Nat}
theorem ZbQ {xss:List (List ByteArray)} (h:k<xss.length):(xss.take (k+1)).flatten=(xss.take k).flatten++xss[k]:=by
 rw [List.take_succ_eq_append_getElem h,List.flatten_append];simp
theorem Zca {xss:List (List ByteArray)} (h:k<xss.length):lens xss (k+1)=lens xss k+xss[k].length:=by
 unfold lens;rw [ZbQ h,List.length_append]
theorem lens_le (xss:List (List ByteArray)) (k:Nat):lens xss k≤xss.flatten.length:=by
 unfold lens
 conv=>rhs;rw [← List.take_append_drop k xss,List.flatten_append,List.length_append]
 omega
theorem lens_all {xss:List (List ByteArray)} (h:k=xss.length):lens xss k=xss.flatten.length:=by
 unfold lens;rw [List.take_of_length_le (by omega)]
variable {base size:Nat}{e:TypeId}
theorem ZcQ {xs:List Value} (h:w.ownsRow base e size v n xs):∃ a c,v = .slice a n c:=by
 rcases h.2 with ⟨rfl,rfl⟩ | ⟨g,cap,_,rfl,_⟩
 ·exact ⟨_,_,rfl⟩
 exact ⟨_,_,rfl⟩
theorem Zaj {xs:List Value} (h:w.ownsRow base e size v n xs) (k:Nat) (hk:v.ownBlock=some k):base≤k:=by
 rcases h.2 with ⟨rfl,_⟩ | ⟨g,cap,_,rfl,hb,_⟩
 ·cases hk
 have:g=k:=by simpa [Value.ownBlock] using hk
 omega
set_option maxRecDepth 100000 in
theorem Zdj (b off k cap:Nat) (w:World) (xss:List (List ByteArray)) (hx:xss.length=k) (hk:k≤1000) (ht:xss.flatten.length≤1000) (hb:b<w.heap.size) (hz:∀ s∈xss.flatten,s.size≤maxLen)
 (hc:∀ i (hi:i<xss.length),∃ u,w.cell? ⟨b,off+i,none⟩=some u∧IsSl 1 StrEl lo w u xss[i]) :
 Calls Tryz.prog 193 #[.slice (some ⟨b,off,none⟩) k cap] w fun e w'=>∃ v',e = .returned v'∧IsSl 1 StrEl w.heap.size w' v' xss.flatten∧Below w.heap.size w w':=by
 have HC:=Lib.hid hc
 have HX:=Lib.hid hx
 have HT:=Lib.hid ht
 have HZ:=Lib.hid hz
 obtain ⟨i0,hi0,hz0,hz1,hz2⟩:=Zcd
 clear hc hx ht hz
 go_enter Tryz.func193,Tryz.ntmps193
 go_wp2_with fail
 go_loop [3,11] (fun v u=>∃ j:Nat,j≤k∧u = .int .i64 j∧v = .int .i64 (lens xss j)) (fun _ u=>k-(intOf u).toNat)
 case atStart=>exact ⟨0,Nat.zero_le _,rfl,rfl⟩
 case round =>
  obtain ⟨j,hj,rfl,rfl⟩:=hrel
  by_cases h1:j<k
  ·have hjx:j<xss.length:=by rw [HX.out];exact h1
   obtain ⟨u,c1,hu⟩:=HC.out j hjx
   obtain ⟨au,cu,rfl⟩:=hu.shape
   have LS:=Lib.hid (Zca hjx)
   have hle:lens xss j+xss[j].length≤1000:=by have:=lens_le xss (j+1);rw [LS.out] at this;have:=HT.out;omega
   clear hu
   go_wp2_with fail
   go_round
   case rel=>exact ⟨j+1,by omega,by go_num,by rw [LS.out];go_num⟩
   case measure=>simp [intOf];omega
  obtain rfl:j=k:=by omega
  have LA:=Lib.hid (lens_all HX.out.symm)
  go_wp2_with (go_at_call 225;(with_reducible refine (Grow_nil (lens xss j) (by rw [LA.out];exact HT.out) _).mono ?_);rintro e w1 ⟨a1,c1,rfl,hO,hb1⟩;have HO:=Lib.hid hO;have HB1:=Lib.hid hb1;clear hO)
  go_loopw [6,27] (fun v u wr=>∃ (i:Nat) (a:Option Addr) (c:Nat),i≤j∧u = .int .i64 i∧v = .slice a (lens xss i) c∧wr.ownsRow w.heap.size 9 1 (.slice a (lens xss i) c) (lens xss i) ((xss.take i).flatten.map Value.string)∧Below w.heap.size w wr) (fun _ u _=>j-(intOf u).toNat)
  case atStart=>exact ⟨0,a1,c1,Nat.zero_le _,rfl,rfl,HO.out,HB1.out⟩
  case round =>
   obtain ⟨i,a,c,hi,rfl,rfl,hown,hB⟩:=hrel
   have HOW:=Lib.hid hown
   have HB:=Lib.hid hB
   clear hown hB
   by_cases h2:i<j
   ·have hix:i<xss.length:=by rw [HX.out];exact h2
    obtain ⟨u,g1,hu⟩:=HC.out i hix
    have g2:=(HB.out.cell (p:=⟨b,off+i,none⟩) hb).trans g1
    have LS:=Lib.hid (Zca hix)
    have hle:lens xss i+xss[i].length≤1000:=by have:=lens_le xss (i+1);rw [LS.out] at this;have:=HT.out;omega
    have TF:=Lib.hid (ZbQ hix)
    obtain ⟨au,cu,rfl⟩:=hu.shape
    have HU:=Lib.hid hu
    have hcu:au=none→xss[i].length=0∧cu=0:=by
     obtain ⟨_,_,e,q1,_,q2,_⟩:=hu
     simp only [Value.slice.injEq] at e
     obtain ⟨rfl,_,rfl⟩:=e
     exact fun h=>by have:=q2 h;omega
    have HCU:=Lib.hid hcu
    clear hu hcu g1
    cases au with
    | none =>
      obtain ⟨l0,rfl⟩:=HCU.out rfl
      have L0:=Lib.hid l0
      rw [l0] at g2
      clear l0
      go_wp2_with (at_builtin;refine wpList_append_own_none rfl (.tmp 31) (.tmp 32) 22 rfl w.heap.size 9 i0 1 Tryz.underlying22 hi0 _ _ _ rfl HOW.out rfl ?_)
      go_roundw
      case rel =>
       have e1:lens xss (i+1)=lens xss i:=by rw [LS.out,L0.out];rfl
       have e2:(xss.take (i+1)).flatten=(xss.take i).flatten:=by rw [TF.out,List.eq_nil_of_length_eq_zero L0.out,List.append_nil]
       exact ⟨i+1,a,c,by omega,by go_num,by rw [e1],by rw [e1,e2];exact HOW.out,HB.out⟩
      case measure=>simp [intOf];omega
    | some ad =>
      have hmx:lens xss i+xss[i].length≤maxLen:=by unfold maxLen;omega
      go_wp2_with (at_builtin;refine wpList_append_own _ rfl (.tmp 31) (.tmp 32) 22 rfl w.heap.size 9 i0 (.string ⟨#[]⟩) 1 16 Tryz.underlying22 hi0 hz0 hz1 hz2 rfl (by decide) _ _ _ rfl HOW.out ad xss[i].length cu (xss[i].map Value.string) rfl (by simp) (sl_src HU.out wr HB.out) (by simp [Value.oneCell']) hmx (by omega) HB.out.size ?_;intro v' w3 hown1 hgrow1 _;obtain ⟨a3,c3,rfl⟩:=ZcQ hown1;have HO3:=Lib.hid hown1;have HB3:=Lib.hid (HB.out.grown hgrow1 HB.out.size (Zaj HOW.out));clear hown1 hgrow1)
      go_roundw
      case rel=>exact ⟨i+1,a3,c3,by omega,by go_num,by rw [LS.out],by rw [LS.out,TF.out,List.map_append];exact HO3.out,HB3.out⟩
      case measure=>simp [intOf];omega
   obtain rfl:i=j:=by omega
   go_wp2_with fail
   go_ret
   refine ⟨_,rfl,row_sl (n:=lens xss i) (xs:=xss.flatten) ?_ HZ.out,HB.out⟩
   have e2:(xss.take i).flatten=xss.flatten:=by rw [List.take_of_length_le (by rw [HX.out];exact Nat.le_refl _)]
   rw [← e2]
   exact HOW.out
set_option maxRecDepth 100000 in
theorem YF (s:ByteArray) (w:World) :
 Calls Tryz.prog 163 #[.string s] w fun e w'=>e = .returned (.bool (resB s.toList))∧w=w':=by
 have e:Hid (resB s.toList=resW.any (fun w=>s.toList==w)):=(rfl:resB _=_)
 go_enter Tryz.func163,Tryz.ntmps163
 go_wp2
 all_goals first
  | (exfalso;simp_all only [Bool.false_eq_true];done)
  | (go_ret;refine ⟨Zh ?_,rfl⟩;rw [e.out];unfold resW;simp only [List.any_cons,List.any_nil, *,Bool.or_true,Bool.true_or,Bool.or_false];done)
theorem Z9 (s:ByteArray):s.toList.length=s.size:=by rw [ByteArray.toList_eq];simp
theorem Zbw (s:ByteArray) (i:Nat) (h:i<s.size):s.toList.getD i 0=s[i]:=by
 rw [ByteArray.toList_eq];simp [List.getD,h];rfl
theorem iterBelow (w:World) (s:ByteArray) (n:Nat):Below w.heap.size w (w.iter s n):=(Below.refl _ _).alloc (Nat.le_refl _) _
theorem Yh (s:ByteArray) (w:World) (hs:s.size≤maxLen) :
 Calls Tryz.prog 116 #[.string s] w fun e w'=>e = .returned (.bool (nameB s.toList))∧Below w.heap.size w w':=by
 unfold maxLen at hs
 have e:Hid (nameB s.toList=(decide (1≤s.toList.length)&&decide (s.toList.length≤12) && !resB s.toList&&upB s.toList s.toList.length)):=(rfl:nameB _=_)
 have el:=Lib.hid (Z9 s)
 by_cases h1:s.size<1
 ·go_enter Tryz.func116,Tryz.ntmps116
  go_wp2_with (go_at_call 163;refine (YF _ _).mono ?_;rintro e w' ⟨rfl,rfl⟩)
  go_ret
  exact ⟨Zh (by rw [e.out,el.out,decide_eq_false (by omega)];rfl),Below.refl _ _⟩
 by_cases h2:12<s.size
 ·go_enter Tryz.func116,Tryz.ntmps116
  go_wp2_with (go_at_call 163;refine (YF _ _).mono ?_;rintro e w' ⟨rfl,rfl⟩)
  go_ret
  exact ⟨Zh (by rw [e.out,el.out,decide_eq_false (by omega:¬ s.size≤12)];simp),Below.refl _ _⟩
 cases h3:resB s.toList with
 | true =>
   go_enter Tryz.func116,Tryz.ntmps116
   go_wp2_with (go_at_call 163;refine (YF _ _).mono ?_;rintro e w' ⟨rfl,rfl⟩)
   go_ret
   exact ⟨Zh (by rw [e.out,h3];simp),Below.refl _ _⟩
 | false =>
   go_enter Tryz.func116,Tryz.ntmps116
   go_wp2_with (go_at_call 163;refine (YF _ _).mono ?_;rintro e w' ⟨rfl,rfl⟩)
   go_loopw [] (fun w'=>∃ pos:Nat,w'=w.iter s pos∧pos≤s.size∧upB s.toList pos=true) (fun w'=>s.size-w'.iterPos w.heap.size)
   case atStart=>exact ⟨0,rfl,Nat.zero_le _,upB_zero _⟩
   case round =>
    obtain ⟨pos,rfl,hle,hup⟩:=hrel
    have HU:=Lib.hid hup
    clear hup
    by_cases hp:pos<s.size
    ·have hg:=Zbw s pos hp
     obtain ⟨r,p',hnx,hr⟩:∃ (r:Int) (p':Nat),(∀ ty,(Instr.next (.pointer (some ⟨w.heap.size,0,none⟩)) true ty).run Tryz.prog (w.iter s pos) = .ok (.tuple #[.bool true,.int .i64 pos,.int .i32 r]) (w.iter s p'))∧((r=(s[pos].toNat:Int)∧p'=pos+1)∨(128≤r∧128≤s[pos].toNat)):=by
      by_cases ha:s[pos].toNat<128
      ·exact ⟨_,_,fun ty=>run_next_ascii w s pos ty hp ha,.inl ⟨rfl,rfl⟩⟩
      exact ⟨_,_,fun ty=>run_next_any w s pos ty hp,.inr ⟨by have:=(decode_high s pos hp (by omega)).1;omega,by omega⟩⟩
     have hcl:(97≤r∧r≤122)∨(48≤r∧r≤57)∨r=95∨r<48∨(57<r∧r<97∧r≠95)∨122<r:=by omega
     have hat:atB s.toList pos=(leB s[pos]||(decide (pos≠0)&&diB s[pos])):=by unfold atB;rw [hg]
     have hno:(128≤s[pos].toNat∨(r=(s[pos].toNat:Int)∧(r<48∨(57<r∧r<97∧r≠95)∨122<r)))→atB s.toList pos=false:=fun h=>by
      rw [hat]
      have:leB s[pos]=false:=by unfold leB;simp;omega
      have h2:diB s[pos]=false:=by unfold diB;simp;omega
      rw [this,h2];simp
     have HAT:=Lib.hid hat
     have HNO:=Lib.hid hno
     have HR:=Lib.hid hr
     clear hat hno hr hg
     rcases hcl with ⟨c1,c2⟩ | ⟨c1,c2⟩ | c1 | c1 | ⟨c1,c2,c3⟩ | c1
     ·have hr:r=(s[pos].toNat:Int)∧p'=pos+1:=HR.out.elim id fun h=>absurd h.1 (by omega)
      obtain rfl:pos+1=p':=hr.2.symm
      have HA:=Lib.hid (show atB s.toList pos=true by rw [HAT.out];have:leB s[pos]=true:=(by unfold leB;simp;omega);rw [this];rfl)
      clear hr
      go_wp2
      all_goals
       go_roundw
       case rel=>exact ⟨pos+1,rfl,by omega,Zbe HU.out HA.out⟩
       case measure=>simp;omega
     ·have hr:r=(s[pos].toNat:Int)∧p'=pos+1:=HR.out.elim id fun h=>absurd h.1 (by omega)
      obtain rfl:pos+1=p':=hr.2.symm
      by_cases h0:pos=0
      ·have HA:=Lib.hid (show atB s.toList pos=false by rw [HAT.out];have:leB s[pos]=false:=(by unfold leB;simp;omega);rw [this];simp [h0])
       have h0':((pos:Int)==0)=true:=by simp [h0]
       clear hr h0
       go_wp2
       all_goals
        go_ret
        exact ⟨Zh (by rw [e.out,ZbN (el.out.symm ▸ hp) HA.out];simp),iterBelow _ _ _⟩
      have HA:=Lib.hid (show atB s.toList pos=true by rw [HAT.out];have:diB s[pos]=true:=(by unfold diB;simp;omega);rw [this];simp [h0])
      have h0':((pos:Int)==0)=false:=by simp [h0]
      clear hr h0
      go_wp2
      all_goals
       go_roundw
       case rel=>exact ⟨pos+1,rfl,by omega,Zbe HU.out HA.out⟩
       case measure=>simp;omega
     ·have hr:r=(s[pos].toNat:Int)∧p'=pos+1:=HR.out.elim id fun h=>absurd h.1 (by omega)
      obtain rfl:pos+1=p':=hr.2.symm
      have c2:57<r:=by omega
      have c3:r<97:=by omega
      have c4:(r==95)=true:=by simp [c1]
      by_cases h0:pos=0
      ·have HA:=Lib.hid (show atB s.toList pos=false by rw [HAT.out];have:leB s[pos]=false:=(by unfold leB;simp;omega);rw [this];simp [h0])
       have h0':((pos:Int)==0)=true:=by simp [h0]
       clear hr h0 c1
       go_wp2
       all_goals
        go_ret
        exact ⟨Zh (by rw [e.out,ZbN (el.out.symm ▸ hp) HA.out];simp),iterBelow _ _ _⟩
      have HA:=Lib.hid (show atB s.toList pos=true by rw [HAT.out];have:diB s[pos]=true:=(by unfold diB;simp;omega);rw [this];simp [h0])
      have h0':((pos:Int)==0)=false:=by simp [h0]
      clear hr h0 c1
      go_wp2
      all_goals
       go_roundw
       case rel=>exact ⟨pos+1,rfl,by omega,Zbe HU.out HA.out⟩
       case measure=>simp;omega
     ·have HA:=Lib.hid (HNO.out (HR.out.elim (fun h => .inr ⟨h.1,.inl c1⟩) fun h=>absurd h.1 (by omega)))
      have c4:(r==95)=false:=by simp;omega
      go_wp2
      all_goals
       go_ret
       exact ⟨Zh (by rw [e.out,ZbN (el.out.symm ▸ hp) HA.out];simp),iterBelow _ _ _⟩
     ·have HA:=Lib.hid (HNO.out (HR.out.elim (fun h => .inr ⟨h.1,.inr (.inl ⟨c1,c2,c3⟩)⟩) fun h=>absurd h.1 (by omega)))
      have c4:(r==95)=false:=by simp;omega
      clear c3
      have c0:48≤r:=by omega
      have d1:decide (r≤57)=false:=by simp;omega
      go_wp2
      all_goals
       go_ret
       exact ⟨Zh (by rw [e.out,ZbN (el.out.symm ▸ hp) HA.out];simp),iterBelow _ _ _⟩
     have HA:=Lib.hid (HNO.out (HR.out.elim (fun h => .inr ⟨h.1,.inr (.inr c1)⟩) fun h => .inl h.2))
     have c4:(r==95)=false:=by simp;omega
     have c5:97≤r:=by omega
     have c6:48≤r:=by omega
     have c7:57<r:=by omega
     have d1:decide (r≤57)=false:=by simp;omega
     have d2:decide (r≤122)=false:=by simp;omega
     go_wp2
     all_goals
      go_ret
      exact ⟨Zh (by rw [e.out,ZbN (el.out.symm ▸ hp) HA.out];simp),iterBelow _ _ _⟩
    have hnx:∀ ty,(Instr.next (.pointer (some ⟨w.heap.size,0,none⟩)) true ty).run Tryz.prog (w.iter s pos)=_:=fun ty=>run_next_end w s pos ty hp
    go_wp2
    go_ret
    exact ⟨Zh (by rw [e.out,el.out,h3,decide_eq_true (by omega),decide_eq_true (by omega),show s.size=pos by omega,HU.out];rfl),(Below.refl _ _).alloc (Nat.le_refl _) _⟩
variable {s:ByteArray}
theorem hasN_succ (h:k<xs.length) (hk:hasN (xs.take k) s=false) (e:(s.toList==xs[k].toList)=false):hasN (xs.take (k+1)) s=false:=by
 have e':(xs[k].toList==s.toList)=false:=by rw [Bool.beq_comm];exact e
 unfold hasN at *;rw [List.take_succ_eq_append_getElem h,List.any_append,hk];simpa using e'
theorem hasN_yes (h:k<xs.length) (e:(s.toList==xs[k].toList)=true):hasN xs s=true:=by
 unfold hasN;rw [List.any_eq_true];exact ⟨xs[k],List.getElem_mem h,by rw [Bool.beq_comm];exact e⟩
theorem hasN_end (h:k=xs.length) (hk:hasN (xs.take k) s=false):hasN xs s=false:=by
 rwa [List.take_of_length_le (by omega)] at hk
theorem str_cell {b off n cap:Nat} (h:IsSl 1 StrEl lo w (.slice (some ⟨b,off,none⟩) n cap) xs) (k:Nat) (hk:k<xs.length):w.cell? ⟨b,off+k,none⟩=some (.string xs[k])∧xs[k].size≤maxLen:=by
 obtain ⟨b',off',cs,ha,_,_,_,hc,hel⟩:=h.at k hk
 cases ha
 have h0:=hc 0 (by omega)
 rw [hel.1] at h0
 simp only [Nat.add_zero,Nat.mul_one] at h0
 exact ⟨h0.trans rfl,hel.2⟩
theorem YL {α:Type} {P:Nat→World→List Value→α→Prop} {xs:List α} (h:IsSl size P lo w v xs):(xs=[]∧∃ a c,v = .slice a 0 c)∨∃ b off c,v = .slice (some ⟨b,off,none⟩) xs.length c∧b<w.heap.size∧lo≤b:=by
 obtain ⟨a,cap,rfl,_,_,_,hc⟩:=h
 rcases hc with rfl | ⟨b,off,rfl,hlo,hb,_⟩
 ·exact .inl ⟨rfl,_,_,rfl⟩
 exact .inr ⟨b,off,cap,rfl,hb,hlo⟩
theorem Index_any (s:ByteArray) (h:IsSl 1 StrEl lo w v xs) :
 Calls Tryz.prog 226 #[v,.string s] w fun e w'=>∃ i:Int,e = .returned (.int .i64 i)∧(decide (0≤i))=hasN xs s∧w'=w:=by
 have hn:=h.bound
 have H:=Lib.hid h
 rcases YL h with ⟨rfl,a,c,rfl⟩ | ⟨b,off,c,rfl,_⟩
 ·clear h
  go_enter Tryz.func226,Tryz.ntmps226
  go_wp2_with fail
  refine wp_loop_rounds 1 ?_
  rw [rounds_succ]
  go_wp2_with fail
  go_ret
  exact ⟨-1,rfl,rfl,rfl⟩
 generalize hN:xs.length=n at hn
 have HN:=Lib.hid hN
 rw [hN] at H
 clear h hN
 go_enter Tryz.func226,Tryz.ntmps226
 go_wp2_with fail
 go_loop [8] (fun u=>∃ k:Nat,k≤n∧u = .int .i64 k∧hasN (xs.take k) s=false) (fun u=>n-(intOf u).toNat)
 case atStart=>exact ⟨0,Nat.zero_le _,rfl,rfl⟩
 case round =>
  obtain ⟨k,hk,rfl,hs⟩:=hrel
  have HS:=Lib.hid hs
  clear hs
  by_cases h1:k<n
  ·have hkx:k<xs.length:=by rw [HN.out];exact h1
   obtain ⟨g1,_⟩:=str_cell H.out k hkx
   by_cases he:(s.toList==xs[k].toList)=true
   ·have HE:=Lib.hid (hasN_yes hkx he)
    go_wp2_with fail
    go_ret
    exact ⟨k,rfl,by rw [HE.out];simp,rfl⟩
   have he':(s.toList==xs[k].toList)=false:=by simpa using he
   have HE:=Lib.hid (hasN_succ hkx HS.out he')
   clear he
   go_wp2_with fail
   go_round
   case rel=>exact ⟨k+1,by omega,by go_num,HE.out⟩
   case measure=>simp [intOf];omega
  have HE:=Lib.hid (hasN_end (by rw [HN.out];omega) HS.out)
  go_wp2_with fail
  go_ret
  exact ⟨-1,rfl,by rw [HE.out];rfl,rfl⟩
theorem WU (s:ByteArray) (h:IsSl 1 StrEl lo w v xs) :
 Calls Tryz.prog 194 #[v,.string s] w fun e w'=>e = .returned (.bool (hasN xs s))∧w'=w:=by
 have H:=Lib.hid h
 clear h
 go_enter Tryz.func194,Tryz.ntmps194
 go_wp2_with (go_at_call 226;(with_reducible refine (Index_any s H.out).mono ?_);rintro e w1 ⟨i,rfl,hi,rfl⟩;have HI:=Lib.hid hi;clear hi)
 go_ret
 exact ⟨Zh (by rw [← HI.out]),rfl⟩
variable {a:Option Addr}{cap:Nat}
theorem IsSl.take' {α:Type} {P:Nat→World→List Value→α→Prop} {xs:List α} (h:IsSl size P lo w (.slice a n cap) xs) (k:Nat) (hk:k≤xs.length):IsSl size P lo w (.slice a k cap) (xs.take k):=by
 obtain ⟨a',cap',hv,h1,hm,hn,hc⟩:=h
 simp only [Value.slice.injEq] at hv
 obtain ⟨rfl,rfl,rfl⟩:=hv
 have e:(xs.take k).length=k:=by simp;omega
 refine ⟨a,cap,by rw [e],by omega,hm,hn,?_⟩
 rcases hc with rfl | ⟨b,off,ha,hlo,hb,hc⟩
 ·exact .inl (by simp)
 refine .inr ⟨b,off,ha,hlo,hb,fun i hi => ?_⟩
 obtain ⟨cs,g1,g2,g3⟩:=hc i (by omega)
 exact ⟨cs,g1,g2,by simpa using g3⟩
theorem sl_cap {α:Type} {P:Nat→World→List Value→α→Prop} {xs:List α} (h:IsSl size P lo w (.slice a n cap) xs):n≤cap∧n=xs.length:=by
 obtain ⟨a',cap',hv,h1,hm,hn,hc⟩:=h
 simp only [Value.slice.injEq] at hv
 omega
set_option maxRecDepth 100000 in
theorem WT {lo g k:Nat} (xss:List (List ByteArray)) (hx:xss.length=k) (hk:k≤1000) (ht:xss.flatten.length≤1000) (hb:g<w.heap.size) (hz:∀ s∈xss.flatten,s.size≤maxLen)
 (hc:∀ i (hi:i<xss.length),∃ u,w.cell? ⟨g,0+i,none⟩=some u∧IsSl 1 StrEl lo w u xss[i]) :
 Calls Tryz.prog 157 #[.slice (some ⟨g,0,none⟩) k k] w fun e w'=>e = .returned (.bool (nmOk xss.flatten xss.flatten.length))∧Below w.heap.size w w':=by
 have HC:=Lib.hid hc
 have HZ:=Lib.hid hz
 have HT:=Lib.hid ht
 clear hc hz ht
 go_enter Tryz.func157,Tryz.ntmps157
 go_upto_region 2 with (go_at_call 193;(with_reducible refine (Zdj g 0 k k _ xss hx hk HT.out hb HZ.out HC.out).mono ?_);rintro e w1 ⟨v',rfl,hv,hb1⟩;have HV:=Lib.hid hv;have HB1:=Lib.hid hb1;clear hv hb1)
 have hnb:=HV.out.bound
 rcases YL HV.out with ⟨hnil,a,c,rfl⟩ | ⟨b,off,c,rfl,hbw,_⟩
 ·have E:=Lib.hid (show nmOk xss.flatten xss.flatten.length=true by rw [hnil];rfl)
  clear hnil
  go_wp2_with fail
  refine wp_loop_rounds 1 ?_
  rw [rounds_succ]
  go_wp2_with fail
  go_ret
  exact ⟨Zh E.out.symm,HB1.out⟩
 generalize hN:xss.flatten=all at HV hnb HZ ⊢
 generalize hn:all.length=n at hnb
 have HALL:=Lib.hid hN
 have HN:=Lib.hid hn
 rw [hn] at HV
 have hcap:n≤c:=(sl_cap HV.out).1
 clear hN hn HC
 go_wp2_with fail
 go_loopw [10] (fun u wr=>∃ i:Nat,i≤n∧u = .int .i64 i∧nmOk all i=true∧Below w1.heap.size w1 wr) (fun u _=>n-(intOf u).toNat)
 case atStart=>exact ⟨0,Nat.zero_le _,rfl,rfl,Below.refl _ _⟩
 case round =>
  obtain ⟨i,hi,rfl,hs,hB⟩:=hrel
  have HS:=Lib.hid hs
  have HB:=Lib.hid hB
  clear hs hB
  have hBW:=Lib.hid (Zf HB1.out HB.out)
  by_cases h1:i<n
  ·have hix:i<all.length:=by rw [HN.out];exact h1
   obtain ⟨g1,hsz⟩:=str_cell HV.out i hix
   have g2:=(HB.out.cell (p:=⟨b,off+i,none⟩) hbw).trans g1
   have HSZ:=Lib.hid hsz
   have HNO:=Lib.hid (fun h=>ZcY (xs:=all) (n:=n) hix h1 h)
   have HYES:=Lib.hid (fun h h'=>Zb9 (xs:=all) hix HS.out h h')
   generalize hX:all[i]=x at g2 HSZ HNO HYES
   clear g1 hsz hX
   cases n0:nameB x.toList with
   | false =>
     have N0:=Lib.hid n0
     clear n0
     go_wp2_with (go_at_call 116;(with_reducible refine (Yh x _ HSZ.out).mono ?_);rw [N0.out];rintro e w2 ⟨rfl,hb2⟩;have HB2:=Lib.hid hb2;clear hb2)
     go_ret
     exact ⟨Zh (by rw [HALL.out,HN.out];exact (HNO.out (.inl N0.out)).symm),Zf hBW.out HB2.out⟩
   | true =>
     have N0:=Lib.hid n0
     clear n0
     cases d0:hasN (all.take i) x with
     | true =>
       have D0:=Lib.hid d0
       clear d0
       go_wp2_with (first | (go_at_call 116;(with_reducible refine (Yh x _ HSZ.out).mono ?_);rw [N0.out];rintro e w2 ⟨rfl,hb2⟩;have HB2:=Lib.hid hb2;clear hb2) | (go_at_call 194;(with_reducible refine (WU x ((HV.out.below StrEl.stays (Zf HB.out HB2.out)).take' i (by omega))).mono ?_);rw [D0.out];rintro e w3 ⟨rfl,rfl⟩))
       go_ret
       exact ⟨Zh (by rw [HALL.out,HN.out];exact (HNO.out (.inr D0.out)).symm),Zf hBW.out HB2.out⟩
     | false =>
       have D0:=Lib.hid d0
       clear d0
       go_wp2_with (first | (go_at_call 116;(with_reducible refine (Yh x _ HSZ.out).mono ?_);rw [N0.out];rintro e w2 ⟨rfl,hb2⟩;have HB2:=Lib.hid hb2;clear hb2) | (go_at_call 194;(with_reducible refine (WU x ((HV.out.below StrEl.stays (Zf HB.out HB2.out)).take' i (by omega))).mono ?_);rw [D0.out];rintro e w3 ⟨rfl,rfl⟩))
       go_roundw
       case rel=>exact ⟨i+1,by omega,by go_num,HYES.out N0.out D0.out,Zf HB.out HB2.out⟩
       case measure=>simp [intOf];omega
  obtain rfl:i=n:=by omega
  go_wp2_with fail
  go_ret
  exact ⟨Zh (by rw [HALL.out,HN.out];exact HS.out.symm),hBW.out⟩
end Go.Proofs.YthefecaefbeidaaGreat
