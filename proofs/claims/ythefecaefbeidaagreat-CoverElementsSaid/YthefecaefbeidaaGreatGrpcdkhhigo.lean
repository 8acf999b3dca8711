import Derived.Great.BuildSlice
import Derived.Laws.Small
import Derived.Laws.StructEq
import Derived.Test.YthefecaefbeidaaGreatProg
import Derived.WalkSpells
import Derived.WalkLawsBesides
import Derived.Deep.QuietTactic
import Derived.BigQuiet
import Derived.Lib.Hide
import Derived.LoopTactic
import Derived.WalkKit
import Derived.Laws.Tables
import Derived.Deep.OwnRows
import Derived.Test.YthefecaefbeidaaGreatGrpahggjllk
import Derived.Test.YthefecaefbeidaaGreatGrpkapnohjd
set_option linter.all false
namespace Go.Proofs.YthefecaefbeidaaGreat
open Go.RowKit Go.Deep
variable {J:World→Prop}
def AV.pu1:AV→Bool
 | .box _ _=>false
 | .own _=>false
 | .bsl _ _ _=>false
 | .agg _=>false
 | .tup _=>false
 | .clo _ _=>false
 | _=>true
theorem Rel.pu1 {ρ:Names} {B:Nat} {w:World} {X:AV} {x:Value} (h:Rel ρ B w X x) (hp:X.pu1=true):Pu (B ≤ ·) w (okOf ρ) X x:=by
 cases h with
 | pu h=>exact h
 | box h=>cases hp
 | own h=>cases hp
 | bsl h=>cases hp
 | agg hl h=>cases hp
 | tup hl h=>cases hp
 | clo hl h=>cases hp
theorem Zcj {z:Nat}:∀ (Xs:List AV),(∀ X∈Xs,X.cellsOf.length=z)→∀ k,(Xs.flatMap AV.cellsOf)[k]? = if k<Xs.length*z then (Xs[k / z]?).bind fun X=>X.cellsOf[k % z]? else none
 | [],_,k=>by simp
 | X::Xs,h,k=>by
   have hX:=h X (by simp)
   simp only [List.flatMap_cons,List.length_cons,Nat.add_mul,Nat.one_mul]
   by_cases hk:k<z
   ·rw [List.getElem?_append_left (by omega),if_pos (by omega),Nat.div_eq_of_lt hk,Nat.mod_eq_of_lt hk];rfl
   rw [List.getElem?_append_right (by omega),Zcj Xs (fun X hX=>h X (by simp [hX])),hX]
   by_cases hz:z=0
   ·subst hz;simp
   have e1:k / z=(k-z) / z+1:=by rw [← Nat.sub_add_cancel (show z≤k by omega),Nat.add_div_right _ (by omega)];simp
   have e2:k % z=(k-z) % z:=by rw [← Nat.mod_eq_sub_mod (by omega)]
   rw [e1,e2,List.getElem?_cons_succ]
   by_cases hlt:k<Xs.length*z+z
   ·rw [if_pos (by omega),if_pos hlt]
   rw [if_neg (by omega),if_neg hlt]
section
variable {P:Program} {o:Oper}
variable {t e z k:Nat}
theorem sp_build0 (fr:Bool) (ho:o.op = .buildSlice t 0 #[]) (hu:P.underlying t=some (.slice e)) (hi:(P.info? e).map (·.size)=some z):ASpec P J o [] [] (.own k) (.new k (.row fr e z 0 [])) :=
 Ws fun ρ B a w _ hB _ _ hk=>by
  obtain ⟨i,hi,hiz⟩:=Option.map_eq_some_iff.1 hi
  refine ⟨_,0,0,#[],e,?_,.own (nm := .at w.heap.size 0 0) (YJ _ _ _),[],⟨by simp,.inr ⟨w.heap.size,0,#[],rfl,rowB_le hB,heap_alloc_new w _,Nat.le_refl _,by simp [maxLen],by simp,by simp⟩⟩,rfl,by simp⟩
  have h0:Array.map (fun (_:Nat)=>(default:Value)) (Array.range 0) = #[]:=by apply Array.eq_empty_of_size_eq_zero;simp
  simp only [execOp,ho]
  exact Zw (by simp [Instr.buildSlice,run_underlying hu,sizeOf,typeInfo,hi,Instr.fill,newRow,Nm.val,h0])
variable {n:Nat}
theorem Wc {fr:Bool} {parts:Array (Nat × Operand)} (xs:List Operand) (Xs:List AV) (ho:o.op = .buildSlice t n parts) (hu:P.underlying t=some (.slice e)) (hi:(P.info? e).map (fun i=>(i.size,i.zero.map (·.cells.size)))=some (z,some z)) (h0:0<z) (hn0:0<n)
 (hp:parts.toList=xs.zipIdx.map fun p=>(p.2,p.1)) (hl:xs.length=n) (hX:Xs.length=n) (hz:Xs.all (fun X=>X.cellsOf.length==z&&X.cellsOf.all (fun c=>c.cell&&c.pu1))=true) (hs:n*z≤16777216)
 (hnew:fr=true→∀ d∈Xs.flatMap AV.cellsOf,d.isNew=true) {cs:List AV} (hcs:Yo fr (Xs.flatMap AV.cellsOf)=cs) :
 ASpec P J o (xs.zip Xs) [] (.own k) (.new k (.row fr e z n cs)) :=
 Ws fun ρ B a w hwf hB ha _ hk=>by
  subst hcs
  obtain ⟨i,hi,hj⟩:=Option.map_eq_some_iff.1 hi
  simp only [Prod.mk.injEq] at hj
  obtain ⟨j1,j2⟩:=hj
  obtain ⟨zv,hz1,hz2⟩:=Option.map_eq_some_iff.1 j2
  have hzz:∀ X∈Xs,X.cellsOf.length=z∧(∀ c∈X.cellsOf,c.cell=true∧c.pu1=true):=fun X hX=>by
   have:=List.all_eq_true.1 hz X hX
   simp only [Bool.and_eq_true,beq_iff_eq,List.all_eq_true] at this
   exact this
  have hrel:∀ j (h1:j<xs.length) (h2:j<Xs.length),Rel ρ B w Xs[j] (a.eval xs[j]):=fun j h1 h2=>ha (xs[j],Xs[j]) (by rw [List.mem_iff_getElem];exact ⟨j,by simp;omega,by simp⟩)
  have hcell:∀ j (h1:j<xs.length) (h2:j<Xs.length),(a.eval xs[j]).cells.size=z∧∀ l (hl:l<Xs[j].cellsOf.length),Pu (B ≤ ·) w (okOf ρ) Xs[j].cellsOf[l] ((a.eval xs[j]).cells.getD l undef):=fun j h1 h2=>by
   obtain ⟨q1,q2⟩:=hzz _ (List.getElem_mem h2)
   obtain ⟨r1,r2,r3⟩:=(hrel j h1 h2).cells (List.all_eq_true.2 fun c hc=>(q2 c hc).1)
   exact ⟨by omega,fun l hl=>(r3 l hl).pu1 (q2 _ (List.getElem_mem hl)).2⟩
  obtain ⟨r,f1,f2,f3⟩:=Great.fill_dense h0 (xs.map a.eval) 0 ((Array.range (n*i.size)).map (zv.cells[· % zv.cells.size]!)) (fun v hv=>by
   obtain ⟨x,hx,rfl⟩:=List.mem_map.1 hv
   obtain ⟨j,hj,rfl⟩:=List.getElem_of_mem hx
   exact (hcell j hj (by omega)).1) (by simp [hl,j1])
  have hrun:=run_buildSlice (P:=P) w t e n (parts.map fun (i,x)=>(i,a.eval x)) r i zv hu hi hz1 (by rw [j1];omega) (by rw [j1];have:=Nat.mul_pos hn0 h0;omega) (by
   rw [← f1,j1]
   congr 1
   rw [Array.toList_map,hp,List.map_map,List.zipIdx_map,List.map_map]
   rfl)
  have hrs:r.size=n*z:=by rw [f2];simp [j1]
  have hfl:(Xs.flatMap AV.cellsOf).length=n*z:=by
   have:∀ (Xs:List AV),(∀ X∈Xs,X.cellsOf.length=z)→(Xs.flatMap AV.cellsOf).length=Xs.length*z:=by
    intro Xs
    induction Xs with
    | nil=>intro _;simp
    | cons X Xs ih=>intro h;simp only [List.flatMap_cons,List.length_append,ih fun X hX=>h X (by simp [hX]),h X (by simp),List.length_cons,Nat.add_mul];omega
   rw [this Xs fun X hX=>(hzz X hX).1,hX]
  refine ⟨.slice (some ⟨w.heap.size,0,none⟩) n n,n,n,r,e,?_,.own (nm := .at w.heap.size n n) (YJ _ _ _),r.toList,⟨by simpa using hrs,.inr ⟨w.heap.size,n,r,rfl,rowB_le hB,heap_alloc_new w _,Nat.le_refl _,?_,hrs,by rw [List.take_of_length_le (by simp [hrs])]⟩⟩,by rw [Yd,hfl];simpa using hrs,fun j hj => ?_⟩
  ·simp only [execOp,ho]
   exact Zw hrun
  ·have:n*1≤n*z:=Nat.mul_le_mul_left n h0
   simp only [maxLen];omega
  have hj':j<n*z:=by rw [Yd,hfl] at hj;exact hj
  have hd:j / z<n:=(Nat.div_lt_iff_lt_mul h0).2 hj'
  have hm:j % z<z:=Nat.mod_lt _ h0
  have hx1:j / z<xs.length:=by omega
  have hX1:j / z<Xs.length:=by omega
  obtain ⟨c1,c2⟩:=hcell _ hx1 hX1
  have hcl:=(hzz _ (List.getElem_mem hX1)).1
  have hjf:j<(Xs.flatMap AV.cellsOf).length:=by omega
  have e1:(Xs.flatMap AV.cellsOf)[j]=Xs[j / z].cellsOf[j % z]'(by omega):=by
   have:=Zcj Xs (fun X hX=>(hzz X hX).1) j
   rw [List.getElem?_eq_getElem hjf,if_pos (by rw [hX];exact hj'),List.getElem?_eq_getElem hX1,Option.bind_some,List.getElem?_eq_getElem (by omega)] at this
   exact Option.some.inj this
  have e2:r.toList.getD j undef=(a.eval xs[j / z]).cells.getD (j % z) undef:=by
   have:=f3 j
   rw [if_pos ⟨by simp,by simp [hl];exact hj'⟩,Nat.sub_zero,List.getElem?_map,List.getElem?_eq_getElem hx1] at this
   simp only [Option.map_some,Option.bind_some] at this
   rw [List.getD_eq_getElem?_getD,Array.getElem?_toList,this,Array.getD_eq_getD_getElem?]
  have hp:=c2 (j % z) (by omega)
  rw [← e1,← e2] at hp
  have hrow:=Pu.row (fr:=fr) hnew hj hjf hp
  rw [e2] at hrow ⊢
  have hok:∀ b,okOf ρ b→b<w.heap.size→okOf (upd ρ k (.at w.heap.size n n)) b∧b<(w.alloc (.cells r e)).heap.size∧(w.alloc (.cells r e)).heap[b]? = w.heap[b]? := fun b hb hw=>ok_new hb hw
  exact hrow.mono (fun b hb hw=>⟨⟨(hok b hb.1 hw).1,fun e=>⟨(hb.2 e).1,Zbg (hok b hb.1 hw).2.2 (hb.2 e).2⟩⟩,(hok b hb.1 hw).2⟩) fun _ _ h=>h
end
section
variable {P:Program} {o:Oper} {t ty:TypeId} {x y:Operand}
variable {b c r:Bool}
theorem sp_beql (ho:o.op = .binOp .eql t x y ty) (ht:P.underlying t=some .bool) (hr:(b==c)=r):ASpec P J o [(x,.v (.bool b)),(y,.v (.bool c))] [] (.v (.bool r)) .no :=
 Ku ho fun w=>by subst hr;rw [Sem.run_bind,show (eqGuard .eql t x y (.bool b) (.bool c)).run P w = .ok () w from rfl,Result.andThen_ok,run_eql_bool w t b c ht]
theorem Wx (ho:o.op = .binOp .neq t x y ty) (ht:P.underlying t=some .bool) (hr:(b != c)=r):ASpec P J o [(x,.v (.bool b)),(y,.v (.bool c))] [] (.v (.bool r)) .no :=
 Ku ho fun w=>by subst hr;rw [Sem.run_bind,show (eqGuard .neq t x y (.bool b) (.bool c)).run P w = .ok () w from rfl,Result.andThen_ok,run_neq_bool w t b c ht];rfl
end
variable {k:Nat}
theorem Zy {α:Type} {g:α→AV} (xs:List α) (h:k<xs.length):(xs.map g)[k*1]? = some (g xs[k]):=by rw [Nat.mul_one];simp [h]
theorem W6 (xs:List ByteArray) (fr:Bool):Yo fr (xs.map sv)=xs.map sv:=by cases fr<;>simp [Yo,AV.unfr]
variable {f:FuncId}{args:List AV}{b r:Bool}
theorem Zj {P:Program} (h:Ctr P J f args (bv b)) (e:b=r):Ctr P J f args (bv r):=e ▸ h
def LnOk (l:Ln):Prop:=I64 l.c∧I64 l.n∧I64 l.t∧I64 l.f
def ThOk (g:Th):Prop:=I64 g.msg∧I64 g.coef∧I64 g.bd.c∧I64 g.bd.n∧I64 g.bd.t∧I64 g.bd.f
def InOk (xs:List Int):Prop:=∀ x∈xs,I64 x
structure RuOk (r:Ru):Prop where
 nm:r.nm.size≤maxLen
 kind:I64 r.kind
 frm:I64 r.frm
 «to»:I64 r.to
 pf:I64 r.pf
 pt:I64 r.pt
 resp:InOk r.resp
 gz:∀ g∈r.gz,ThOk g
 ex:InOk r.ex
 fa:InOk r.fa
 rd:I64 r.rd
 wr:I64 r.wr
 send:InOk r.send
 pos:I64 r.pos
 left:InOk r.left
 right:InOk r.right
 pz:InOk r.pz
 dir:I64 r.dir
 lresp:r.resp.length≤9223372036854775807
 lguards:r.gz.length≤9223372036854775807
structure FmOk (q:Fm):Prop where
 nm:q.nm.size≤maxLen
 top:I64 q.top
 sz:∀ s∈q.sz,s.size≤maxLen
 msgs:∀ s∈q.msgs,s.size≤maxLen
 vals:∀ s∈q.vals,s.size≤maxLen
 fz:I64 q.fz
 res:∀ l∈q.res,LnOk l
 init:InOk q.init
 lz:InOk q.lz
 rz:∀ r∈q.rz,RuOk r
 lstates:q.sz.length≤9223372036854775807
 lmsgs:q.msgs.length≤9223372036854775807
 lvals:q.vals.length≤9223372036854775807
 lres:q.res.length≤9223372036854775807
 linit:q.init.length≤9223372036854775807
 lleader:q.lz.length≤9223372036854775807
 lrules:q.rz.length≤9223372036854775807
variable {z lo:Nat}{w:World}{v:Value}
theorem IsSl.all {α:Type} {Q:Nat→World→List Value→α→Prop} {xs:List α} (h:IsSl z Q lo w v xs) {R:α→Prop} (hR:∀ cs x,Q lo w cs x→R x):∀ x∈xs,R x:=by
 intro x hx
 obtain ⟨i,hi,rfl⟩:=List.getElem_of_mem hx
 obtain ⟨a,cap,rfl⟩:=h.shape
 obtain ⟨_,_,cs,_,_,_,_,_,hq⟩:=h.at i hi
 exact hR _ _ hq
variable {xs:List Int}
theorem IsInts.ok (h:IsInts lo w v xs):InOk xs:=by
 obtain ⟨_,_,_,_,_,⟨h1,_⟩,_⟩:=h;exact h1
theorem IsInts.len (h:IsInts lo w v xs):xs.length≤9223372036854775807:=by
 obtain ⟨_,_,_,h1,h2,_⟩:=h;unfold maxLen at h2;omega
theorem RuEl.ok {lo:Nat} {w:World} {cs:List Value} {r:Ru} (h:RuEl lo w cs r):RuOk r:=by
 obtain ⟨v6,v7,v8,v9,v12,v14,v15,v16,rfl,h0,h1,h2,h3,h4,h5,h6,h7,h8,h9,h10,h11,h12,h13,h14,h15,h16,h17⟩:=h
 exact ⟨h0,h1,h2,h3,h4,h5,h6.ok,h7.all fun cs g hg=>hg.2,h8.ok,h9.ok,h10,h11,h12.ok,h13,h14.ok,h15.ok,h16.ok,h17,h6.len,h7.bound⟩
theorem IsFam.ok {lo:Nat} {w:World} {v:Value} {q:Fm} (h:IsFam lo w v q):FmOk q:=by
 obtain ⟨v2,v3,v4,v6,v7,v8,v9,e,h0,h1,h2,h3,h4,h5,h6,h7,h8,h9⟩:=h
 exact ⟨h0,h1,h2.all fun _ _ h=>h.2,h3.all fun _ _ h=>h.2,h4.all fun _ _ h=>h.2,h5,h6.all fun _ _ h=>h.2,h7.ok,h8.ok,h9.all fun _ _ h=>h.ok,h2.bound,h3.bound,h4.bound,h6.bound,h7.len,h8.len,h9.bound⟩
variable {cs:List AV}
theorem KE {F ok:Nat→Prop} (h:Pu F w ok (.agg cs) v):∃ vs:List Value,v = .agg vs.toArray∧vs.length=cs.length∧∀ j (hj:j<cs.length),Pu F w ok cs[j] (vs.getD j undef):=by
 cases h with
 | agg hl h =>
   rename_i vs
   exact ⟨vs.toList,rfl,by simpa using hl,fun j hj=>by have:=h j hj;simpa [Array.getD_eq_getD_getElem?,List.getD_eq_getElem?_getD] using this⟩
section
variable {F ok:Nat→Prop} {w:World} {lo:Nat}
variable {vs:List Value}
theorem cells18 (h:vs.length=18):vs=[vs.getD 0 undef,vs.getD 1 undef,vs.getD 2 undef,vs.getD 3 undef,vs.getD 4 undef,vs.getD 5 undef,vs.getD 6 undef,vs.getD 7 undef,vs.getD 8 undef,vs.getD 9 undef,vs.getD 10 undef,vs.getD 11 undef,vs.getD 12 undef,vs.getD 13 undef,vs.getD 14 undef,vs.getD 15 undef,vs.getD 16 undef,vs.getD 17 undef]:=by
 match vs,h with
 | [_,_,_,_,_,_,_,_,_,_,_,_,_,_,_,_,_,_],_=>rfl
theorem cells10 (h:vs.length=10):vs=[vs.getD 0 undef,vs.getD 1 undef,vs.getD 2 undef,vs.getD 3 undef,vs.getD 4 undef,vs.getD 5 undef,vs.getD 6 undef,vs.getD 7 undef,vs.getD 8 undef,vs.getD 9 undef]:=by
 match vs,h with
 | [_,_,_,_,_,_,_,_,_,_],_=>rfl
theorem cells6 (h:vs.length=6):vs=[vs.getD 0 undef,vs.getD 1 undef,vs.getD 2 undef,vs.getD 3 undef,vs.getD 4 undef,vs.getD 5 undef]:=by
 match vs,h with
 | [_,_,_,_,_,_],_=>rfl
theorem cells4 (h:vs.length=4):vs=[vs.getD 0 undef,vs.getD 1 undef,vs.getD 2 undef,vs.getD 3 undef]:=by
 match vs,h with
 | [_,_,_,_],_=>rfl
theorem cells1 (h:vs.length=1):vs=[vs.getD 0 undef]:=by
 match vs,h with
 | [_],_=>rfl
theorem th_of {g:Th} (hg:ThOk g) (hl:vs.length=6) (h:∀ j (hj:j<(cTh g).length),Pu F w ok (cTh g)[j] (vs.getD j undef)):ThEl lo w vs g:=by
 refine ⟨?_,hg⟩
 rw [cells6 hl,(h 0 (by simp [cTh])).v_inv,(h 1 (by simp [cTh])).v_inv,(h 2 (by simp [cTh])).v_inv,(h 3 (by simp [cTh])).v_inv,(h 4 (by simp [cTh])).v_inv,(h 5 (by simp [cTh])).v_inv]
theorem ln_of {g:Ln} (hg:LnOk g) (hl:vs.length=4) (h:∀ j (hj:j<(cLn g).length),Pu F w ok (cLn g)[j] (vs.getD j undef)):LnEl lo w vs g:=by
 refine ⟨?_,hg⟩
 rw [cells4 hl,(h 0 (by simp [cLn])).v_inv,(h 1 (by simp [cLn])).v_inv,(h 2 (by simp [cLn])).v_inv,(h 3 (by simp [cLn])).v_inv]
theorem ZaW {α:Type} {f:α→List AV} {xs:List α} (hz:∀ x,(f x).length=z) {Q:Nat→World→List Value→α→Prop} (hlo:∀ b,ok b→lo≤b) (R:α→Prop) (hR:∀ x∈xs,R x)
 (hQ:∀ (x:α) (vs:List Value),R x→vs.length=z→(∀ j (hj:j<(f x).length),Pu F w ok (f x)[j] (vs.getD j undef))→Q lo w vs x) (h:Pu F w ok (slA z f xs) v):IsSl z Q lo w v xs:=by
 have h1:=pu_sl hz (Q:=fun lo w vs x=>R x→Q lo w vs x) hlo (fun x vs hl hp hr=>hQ x vs hr hl hp) h
 obtain ⟨a,cap,hv,a1,a2,a3,a4⟩:=h1
 refine ⟨a,cap,hv,a1,a2,a3,?_⟩
 rcases a4 with a4 | ⟨b,off,b1,b2,b3,b4⟩
 ·exact .inl a4
 exact .inr ⟨b,off,b1,b2,b3,fun i hi=>by obtain ⟨cs,c1,c2,c3⟩:=b4 i hi;exact ⟨cs,c1,c2,c3 (hR _ (List.getElem_mem hi))⟩⟩
theorem lenTh (g:Th):(cTh g).length=6:=rfl
theorem lenLn (g:Ln):(cLn g).length=4:=rfl
theorem lenRu (g:Ru):(cRu g).length=18:=rfl
theorem lenStr (s:ByteArray):[sv s].length=1:=rfl
theorem Zbo {xs:List ByteArray} (hs:∀ s∈xs,s.size≤maxLen) (hlo:∀ b,ok b→lo≤b) (h:Pu F w ok (KV xs) v):IsSl 1 StrEl lo w v xs:=by
 have e0:∀ xs:List ByteArray,xs.map sv=xs.flatMap fun s=>[sv s]:=fun xs=>by
  induction xs with
  | nil=>rfl
  | cons x xs ih=>simp only [List.map_cons,List.flatMap_cons,ih];rfl
 have e:KV xs=slA 1 (fun s=>[sv s]) xs:=by unfold KV slA;rw [e0]
 rw [e] at h
 exact ZaW (f:=fun s=>[sv s]) lenStr hlo (fun s:ByteArray=>s.size≤maxLen) hs (fun s vs hs hl hp=>⟨by rw [cells1 hl,(hp 0 (by simp)).v_inv],hs⟩) h
theorem ru_of {r:Ru} (hr:RuOk r) (hlo:∀ b,ok b→lo≤b) (hl:vs.length=18) (h:∀ j (hj:j<(cRu r).length),Pu F w ok (cRu r)[j] (vs.getD j undef)):RuEl lo w vs r:=by
 have hz:(cRu r).length=18:=rfl
 refine ⟨vs.getD 6 undef,vs.getD 7 undef,vs.getD 8 undef,vs.getD 9 undef,vs.getD 12 undef,vs.getD 14 undef,vs.getD 15 undef,vs.getD 16 undef,?_,hr.nm,hr.kind,hr.frm,hr.to,hr.pf,hr.pt,Yt hr.resp hlo (h 6 (by omega)),ZaW lenTh hlo ThOk hr.gz (fun g vs hg hl hp=>th_of hg hl hp) (h 7 (by omega)),Yt hr.ex hlo (h 8 (by omega)),Yt hr.fa hlo (h 9 (by omega)),hr.rd,hr.wr,Yt hr.send hlo (h 12 (by omega)),hr.pos,Yt hr.left hlo (h 14 (by omega)),Yt hr.right hlo (h 15 (by omega)),Yt hr.pz hlo (h 16 (by omega)),hr.dir⟩
 have e:=cells18 hl
 rw [show vs.getD 0 undef = .string r.nm from (h 0 (by omega)).v_inv,show vs.getD 1 undef = .int .i64 r.kind from (h 1 (by omega)).v_inv,show vs.getD 2 undef = .int .i64 r.frm from (h 2 (by omega)).v_inv,show vs.getD 3 undef = .int .i64 r.to from (h 3 (by omega)).v_inv,show vs.getD 4 undef = .int .i64 r.pf from (h 4 (by omega)).v_inv,show vs.getD 5 undef = .int .i64 r.pt from (h 5 (by omega)).v_inv,show vs.getD 10 undef = .int .i64 r.rd from (h 10 (by omega)).v_inv,show vs.getD 11 undef = .int .i64 r.wr from (h 11 (by omega)).v_inv,show vs.getD 13 undef = .int .i64 r.pos from (h 13 (by omega)).v_inv,show vs.getD 17 undef = .int .i64 r.dir from (h 17 (by omega)).v_inv] at e
 exact e
variable {q:Fm}
theorem fam_of (hq:FmOk q) (hlo:∀ b,ok b→lo≤b) (h:Pu F w ok (.agg (cFm q)) v):IsFam lo w v q:=by
 obtain ⟨vs,rfl,hl,h⟩:=KE h
 have hz:(cFm q).length=10:=rfl
 refine ⟨vs.getD 2 undef,vs.getD 3 undef,vs.getD 4 undef,vs.getD 6 undef,vs.getD 7 undef,vs.getD 8 undef,vs.getD 9 undef,?_,hq.nm,hq.top,Zbo hq.sz hlo (h 2 (by omega)),Zbo hq.msgs hlo (h 3 (by omega)),Zbo hq.vals hlo (h 4 (by omega)),hq.fz,ZaW lenLn hlo LnOk hq.res (fun g vs hg hl hp=>ln_of hg hl hp) (h 6 (by omega)),Yt hq.init hlo (h 7 (by omega)),Yt hq.lz hlo (h 8 (by omega)),ZaW lenRu hlo RuOk hq.rz (fun r vs hr hl hp=>ru_of hr hlo hl hp) (h 9 (by omega))⟩
 have e:=cells10 (hl.trans hz)
 rw [show vs.getD 0 undef = .string q.nm from (h 0 (by omega)).v_inv,show vs.getD 1 undef = .int .i64 q.top from (h 1 (by omega)).v_inv,show vs.getD 5 undef = .int .i64 q.fz from (h 5 (by omega)).v_inv] at e
 exact congrArg (fun l:List Value=>Value.agg l.toArray) e
end
section
variable {P:Program} {f:FuncId}
variable {A u:AV}
theorem ctr1 (H:∀ (w:World) (v:Value),(∀ w',Below w.heap.size w w'→J w')→Pu (fun _=>True) w (fun b=>b<w.heap.size) A v→Calls P f #[v] w fun e w'=>∃ v,e = .returned v∧Pu (w.heap.size ≤ ·) w' (nw w' w.heap.size) u v∧Below w.heap.size w w'):Ctr P J f [A] u:=fun w vs hJ hl hv=>by
 obtain ⟨v,rfl⟩:∃ v,vs = #[v]:=by
  match vs,hl with
  | ⟨[v]⟩,_=>exact ⟨v,rfl⟩
 exact H w v hJ (hv 0 (by simp))
theorem ctr2 {A B u:AV} (H:∀ (w:World) (v v':Value),(∀ w',Below w.heap.size w w'→J w')→Pu (fun _=>True) w (fun b=>b<w.heap.size) A v→Pu (fun _=>True) w (fun b=>b<w.heap.size) B v'→Calls P f #[v,v'] w fun e w'=>∃ v,e = .returned v∧Pu (w.heap.size ≤ ·) w' (nw w' w.heap.size) u v∧Below w.heap.size w w'):Ctr P J f [A,B] u:=fun w vs hJ hl hv=>by
 obtain ⟨v,v',rfl⟩:∃ v v',vs = #[v,v']:=by
  match vs,hl with
  | ⟨[v,v']⟩,_=>exact ⟨v,v',rfl⟩
 exact H w v v' hJ (hv 0 (by simp)) (hv 1 (by simp))
theorem ctr3 {A B C u:AV} (H:∀ (w:World) (v v' v'':Value),(∀ w',Below w.heap.size w w'→J w')→Pu (fun _=>True) w (fun b=>b<w.heap.size) A v→Pu (fun _=>True) w (fun b=>b<w.heap.size) B v'→Pu (fun _=>True) w (fun b=>b<w.heap.size) C v''→Calls P f #[v,v',v''] w fun e w'=>∃ v,e = .returned v∧Pu (w.heap.size ≤ ·) w' (nw w' w.heap.size) u v∧Below w.heap.size w w'):Ctr P J f [A,B,C] u:=fun w vs hJ hl hv=>by
 obtain ⟨v,v',v'',rfl⟩:∃ v v' v'',vs = #[v,v',v'']:=by
  match vs,hl with
  | ⟨[v,v',v'']⟩,_=>exact ⟨v,v',v'',rfl⟩
 exact H w v v' v'' hJ (hv 0 (by simp)) (hv 1 (by simp)) (hv 2 (by simp))
variable {w':World}
theorem KR {r:Value} {e:Ending} (h:e = .returned r∧Below w.heap.size w w'):∃ v,e = .returned v∧Pu (w.heap.size ≤ ·) w' (nw w' w.heap.size) (.v r) v∧Below w.heap.size w w':=⟨r,h.1,.v r,h.2⟩
theorem ZaU {r:Value} {e:Ending} (h:e = .returned r∧w=w'):∃ v,e = .returned v∧Pu (w.heap.size ≤ ·) w' (nw w' w.heap.size) (.v r) v∧Below w.heap.size w w':=⟨r,h.1,.v r,by rw [← h.2];exact Below.refl _ _⟩
end
theorem fst1 {xs:List ByteArray}:KV xs=slA 1 (fun s=>[sv s]) xs:=by
 have e0:∀ xs:List ByteArray,xs.map sv=xs.flatMap fun s=>[sv s]:=fun xs=>by
  induction xs with
  | nil=>rfl
  | cons x xs ih=>simp only [List.map_cons,List.flatMap_cons,ih];rfl
 unfold KV slA;rw [e0]
def inB (lo hi n:Int):Bool:=decide (lo≤n)&&decide (n≤hi)
theorem ZI (n lo hi:Int) (w:World) :
 Calls Tryz.prog 155 #[.int .i64 n,.int .i64 lo,.int .i64 hi] w fun e w'=>e = .returned (.bool (inB lo hi n))∧w=w':=by
 have e:Hid (inB lo hi n=(decide (lo≤n)&&decide (n≤hi))):=(rfl:inB lo hi n=_)
 by_cases h1:lo≤n
 ·by_cases h2:n≤hi
  ·go_enter Tryz.func155,Tryz.ntmps155
   go_wp2
   go_ret
   exact ⟨Zh (by rw [e.out];simp;omega),rfl⟩
  go_enter Tryz.func155,Tryz.ntmps155
  go_wp2
  go_ret
  exact ⟨Zh (by rw [e.out];simp;omega),rfl⟩
 go_enter Tryz.func155,Tryz.ntmps155
 go_wp2
 go_ret
 exact ⟨Zh (by rw [e.out];simp;omega),rfl⟩
theorem Yb (n lo hi:Int) (w:World) :
 Calls Tryz.prog 125 #[.int .i64 n,.int .i64 lo,.int .i64 hi] w fun e w'=>e = .returned (.bool (inB lo hi n))∧w=w':=by
 have e:Hid (inB lo hi n=(decide (lo≤n)&&decide (n≤hi))):=(rfl:inB lo hi n=_)
 by_cases h1:lo≤n
 ·by_cases h2:n≤hi
  ·go_enter Tryz.func125,Tryz.ntmps125
   go_wp2
   go_ret
   exact ⟨Zh (by rw [e.out];simp;omega),rfl⟩
  go_enter Tryz.func125,Tryz.ntmps125
  go_wp2
  go_ret
  exact ⟨Zh (by rw [e.out];simp;omega),rfl⟩
 go_enter Tryz.func125,Tryz.ntmps125
 go_wp2
 go_ret
 exact ⟨Zh (by rw [e.out];simp;omega),rfl⟩
def faB (n:Int):Bool:=inB (-100) 100 n
theorem YZ (n:Int) (w:World):Calls Tryz.prog 196 #[.int .i64 n] w fun e w'=>e = .returned (.bool (faB n))∧w=w':=by
 go_enter Tryz.func196,Tryz.ntmps196
 go_wp2_with (go_at_call 155;refine (ZI _ _ _ _).mono ?_;rintro e w' ⟨rfl,rfl⟩)
 go_ret
 exact ⟨rfl,rfl⟩
theorem K6 (n:Int) (w:World):Calls Tryz.prog 125 #[.int .i64 n,.int .i64 (-100),.int .i64 100] w fun e w'=>e = .returned (.bool (faB n))∧w=w':=Yb _ _ _ _
def smL (c n t f:Int):Bool:=faB c&&faB n&&faB t&&faB f
theorem Kh (c n t f:Int) (w:World) :
 Calls Tryz.prog 160 #[.agg #[.int .i64 c,.int .i64 n,.int .i64 t,.int .i64 f]] w fun e w'=>e = .returned (.bool (!smL c n t f))∧Below w.heap.size w w':=by
 have e:Hid (smL c n t f=(faB c&&faB n&&faB t&&faB f)):=(rfl:smL c n t f=_)
 cases h1:faB c with
 | false =>
   go_enter Tryz.func160,Tryz.ntmps160
   go_wp2_with (go_at_call 196;refine (YZ _ _).mono ?_;rintro e w' ⟨rfl,rfl⟩)
   go_ret
   exact ⟨Zh (by rw [e.out,h1];rfl),Ze _ _⟩
 | true =>
   cases h2:faB n with
   | false =>
     go_enter Tryz.func160,Tryz.ntmps160
     go_wp2_with (go_at_call 196;refine (YZ _ _).mono ?_;rintro e w' ⟨rfl,rfl⟩)
     go_ret
     exact ⟨Zh (by rw [e.out,h1,h2];rfl),Ze _ _⟩
   | true =>
     cases h3:faB t with
     | false =>
       go_enter Tryz.func160,Tryz.ntmps160
       go_wp2_with (go_at_call 196;refine (YZ _ _).mono ?_;rintro e w' ⟨rfl,rfl⟩)
       go_ret
       exact ⟨Zh (by rw [e.out,h1,h2,h3];rfl),Ze _ _⟩
     | true =>
       go_enter Tryz.func160,Tryz.ntmps160
       go_wp2_with (go_at_call 196;refine (YZ _ _).mono ?_;rintro e w' ⟨rfl,rfl⟩)
       go_ret
       exact ⟨Zh (by rw [e.out,h1,h2,h3];rfl),Ze _ _⟩
theorem few_any (c n t f:Int) (w:World) :
 Calls Tryz.prog 168 #[.agg #[.int .i64 c,.int .i64 n,.int .i64 t,.int .i64 f]] w fun e w'=>e = .returned (.bool (smL c n t f))∧Below w.heap.size w w':=by
 have e:Hid (smL c n t f=(faB c&&faB n&&faB t&&faB f)):=(rfl:smL c n t f=_)
 cases h1:faB c with
 | false =>
   go_enter Tryz.func168,Tryz.ntmps168
   go_wp2_with (go_at_call 125;refine (K6 _ _).mono ?_;rintro e w' ⟨rfl,rfl⟩)
   go_ret
   exact ⟨Zh (by rw [e.out,h1];rfl),Ze _ _⟩
 | true =>
   cases h2:faB n with
   | false =>
     go_enter Tryz.func168,Tryz.ntmps168
     go_wp2_with (go_at_call 125;refine (K6 _ _).mono ?_;rintro e w' ⟨rfl,rfl⟩)
     go_ret
     exact ⟨Zh (by rw [e.out,h1,h2];rfl),Ze _ _⟩
   | true =>
     cases h3:faB t with
     | false =>
       go_enter Tryz.func168,Tryz.ntmps168
       go_wp2_with (go_at_call 125;refine (K6 _ _).mono ?_;rintro e w' ⟨rfl,rfl⟩)
       go_ret
       exact ⟨Zh (by rw [e.out,h1,h2,h3];rfl),Ze _ _⟩
     | true =>
       go_enter Tryz.func168,Tryz.ntmps168
       go_wp2_with (go_at_call 125;refine (K6 _ _).mono ?_;rintro e w' ⟨rfl,rfl⟩)
       go_ret
       exact ⟨Zh (by rw [e.out,h1,h2,h3];rfl),Ze _ _⟩
def ixB (n:Nat) (x:Int):Bool:=inB 0 ((n:Int)-1) x
theorem Zp (x:Int) (n:Nat) (hn:n≤9223372036854775807) (w:World) :
 Calls Tryz.prog 164 #[.int .i64 x,.int .i64 n] w fun e w'=>e = .returned (.bool (ixB n x))∧w=w':=by
 have hw:IntKind.i64.wrap ((n:Int)-1)=(n:Int)-1:=IntWalk.i64_in _ (by omega)
 go_enter Tryz.func164,Tryz.ntmps164
 go_wp2_with (go_at_call 155;refine (ZI _ _ _ _).mono ?_;rintro e w' ⟨rfl,rfl⟩)
 go_ret
 exact ⟨rfl,rfl⟩
def allK (n:Nat) (xs:List Int) (k:Nat):Bool:=(xs.take k).all (ixB n)
variable {n:Nat}
theorem Wt (h:k<xs.length) (hk:allK n xs k=true) (hp:ixB n xs[k]=true):allK n xs (k+1)=true:=by
 unfold allK at *;rw [List.take_succ_eq_append_getElem h,List.all_append,hk];simp [hp]
theorem Zdf (h:k<xs.length) (hp:ixB n xs[k]=false):allK n xs xs.length=false:=by
 unfold allK;rw [List.take_length,List.all_eq_false];exact ⟨xs[k],List.getElem_mem h,by simp [hp]⟩
def ascK (xs:List Int) (k:Nat):Bool:=(List.range k).all fun j=>decide (j=0)||decide (xs.getD (j-1) 0<xs.getD j 0)
theorem ascK_one (xs:List Int):ascK xs 1=true:=rfl
theorem Zct (hk:ascK xs k=true) (hp:xs.getD (k-1) 0<xs.getD k 0):ascK xs (k+1)=true:=by
 unfold ascK at *;rw [List.range_succ,List.all_append,hk];simp only [List.all_cons,List.all_nil,Bool.and_true,decide_eq_true hp,Bool.or_true]
theorem ascK_no (h:k<n) (h0:0<k) (hp:¬ xs.getD (k-1) 0<xs.getD k 0):ascK xs n=false:=by
 unfold ascK;rw [List.all_eq_false];exact ⟨k,List.mem_range.2 h,by rw [decide_eq_false (by omega:¬ k=0),decide_eq_false hp];simp⟩
def setE (n:Nat) (xs:List Int):Int:=if allK n xs xs.length=false then 5 else if ascK xs xs.length=false then 1 else 0
set_option maxHeartbeats 12800000
def tooB (q:Fm):Bool:=decide (6<q.sz.length)||decide (3<q.msgs.length)||decide (3<q.vals.length)||decide (4<q.res.length)||decide (8<q.rz.length)
variable {q:Fm}
theorem KS (h:IsFam lo w v q) :
 Calls Tryz.prog 156 #[v] w fun e w'=>e = .returned (.bool (tooB q))∧Below w.heap.size w w':=by
 obtain ⟨v2,v3,v4,v6,v7,v8,v9,rfl,h0,h1,h2,h3,h4,h5,h6,h7,h8,h9⟩:=h
 have E:Hid (tooB q=(decide (6<q.sz.length)||decide (3<q.msgs.length)||decide (3<q.vals.length)||decide (4<q.res.length)||decide (8<q.rz.length))):=(rfl:tooB q=_)
 have b2:q.sz.length≤9223372036854775807:=by exact h2.bound
 have b3:q.msgs.length≤9223372036854775807:=by exact h3.bound
 have b4:q.vals.length≤9223372036854775807:=by exact h4.bound
 have b6:q.res.length≤9223372036854775807:=by exact h6.bound
 have b7:q.init.length≤9223372036854775807:=by obtain ⟨_,_,_,hh,hm,_⟩:=h7;unfold maxLen at hm;omega
 have b8:q.lz.length≤9223372036854775807:=by obtain ⟨_,_,_,hh,hm,_⟩:=h8;unfold maxLen at hm;omega
 have b9:q.rz.length≤9223372036854775807:=by exact h9.bound
 obtain ⟨a2,c2,rfl⟩:=h2.shape
 obtain ⟨a3,c3,rfl⟩:=h3.shape
 obtain ⟨a4,c4,rfl⟩:=h4.shape
 obtain ⟨a6,c6,rfl⟩:=h6.shape
 obtain ⟨a7,c7,rfl⟩:=h7.shape
 obtain ⟨a8,c8,rfl⟩:=h8.shape
 obtain ⟨a9,c9,rfl⟩:=h9.shape
 clear h0 h1 h2 h3 h4 h5 h6 h7 h8 h9
 by_cases t0:6<q.sz.length
 ·have i0:(6:Int)<(q.sz.length:Int):=by omega
  go_enter Tryz.func156,Tryz.ntmps156
  go_wp2_with fail
  go_ret
  exact ⟨Zh (by rw [E.out,decide_eq_true t0];simp),Ze _ _⟩
 have i0:¬ (6:Int)<(q.sz.length:Int):=by omega
 by_cases t1:3<q.msgs.length
 ·have i1:(3:Int)<(q.msgs.length:Int):=by omega
  go_enter Tryz.func156,Tryz.ntmps156
  go_wp2_with fail
  go_ret
  exact ⟨Zh (by rw [E.out,decide_eq_true t1];simp),Ze _ _⟩
 have i1:¬ (3:Int)<(q.msgs.length:Int):=by omega
 by_cases t2:3<q.vals.length
 ·have i2:(3:Int)<(q.vals.length:Int):=by omega
  go_enter Tryz.func156,Tryz.ntmps156
  go_wp2_with fail
  go_ret
  exact ⟨Zh (by rw [E.out,decide_eq_true t2];simp),Ze _ _⟩
 have i2:¬ (3:Int)<(q.vals.length:Int):=by omega
 by_cases t3:4<q.res.length
 ·have i3:(4:Int)<(q.res.length:Int):=by omega
  go_enter Tryz.func156,Tryz.ntmps156
  go_wp2_with fail
  go_ret
  exact ⟨Zh (by rw [E.out,decide_eq_true t3];simp),Ze _ _⟩
 have i3:¬ (4:Int)<(q.res.length:Int):=by omega
 by_cases t4:8<q.rz.length
 ·have i4:(8:Int)<(q.rz.length:Int):=by omega
  go_enter Tryz.func156,Tryz.ntmps156
  go_wp2_with fail
  go_ret
  exact ⟨Zh (by rw [E.out,decide_eq_true t4];simp),Ze _ _⟩
 have i4:¬ (8:Int)<(q.rz.length:Int):=by omega
 go_enter Tryz.func156,Tryz.ntmps156
 go_wp2_with fail
 go_ret
 exact ⟨Zh (by rw [E.out,decide_eq_false t0,decide_eq_false t1,decide_eq_false t2,decide_eq_false t3,decide_eq_false t4];rfl),Ze _ _⟩
def fitB (kind top:Int):Bool:=if kind=1∨kind=2∨kind=3 then top==1 else if kind=4∨kind=5 then !(top==1) else false
theorem Zcb (kind top:Int) (w:World):Calls Tryz.prog 198 #[.int .i64 kind,.int .i64 top] w fun e w'=>e = .returned (.bool (fitB kind top))∧w=w':=by
 by_cases k1:kind=1
 ·subst k1
  go_enter Tryz.func198,Tryz.ntmps198
  go_wp2_with fail
  go_ret
  exact ⟨rfl,rfl⟩
 have j1:(kind==1)=false:=by rw [beq_eq_false_iff_ne];exact k1
 by_cases k2:kind=2
 ·subst k2
  go_enter Tryz.func198,Tryz.ntmps198
  go_wp2_with fail
  go_ret
  exact ⟨rfl,rfl⟩
 have j2:(kind==2)=false:=by rw [beq_eq_false_iff_ne];exact k2
 by_cases k3:kind=3
 ·subst k3
  go_enter Tryz.func198,Tryz.ntmps198
  go_wp2_with fail
  go_ret
  exact ⟨rfl,rfl⟩
 have j3:(kind==3)=false:=by rw [beq_eq_false_iff_ne];exact k3
 by_cases k4:kind=4
 ·subst k4
  go_enter Tryz.func198,Tryz.ntmps198
  go_wp2_with fail
  go_ret
  exact ⟨rfl,rfl⟩
 have j4:(kind==4)=false:=by rw [beq_eq_false_iff_ne];exact k4
 by_cases k5:kind=5
 ·subst k5
  go_enter Tryz.func198,Tryz.ntmps198
  go_wp2_with fail
  go_ret
  exact ⟨rfl,rfl⟩
 have j5:(kind==5)=false:=by rw [beq_eq_false_iff_ne];exact k5
 have E:=Lib.hid (show fitB kind top=false by unfold fitB;rw [if_neg (by omega),if_neg (by omega)])
 clear k1 k2 k3 k4 k5
 go_enter Tryz.func198,Tryz.ntmps198
 go_wp2_with fail
 go_ret
 exact ⟨Zh (by rw [E.out]),rfl⟩
end Go.Proofs.YthefecaefbeidaaGreat
namespace Go.Proofs.YthefecaefbeidaaGreat
def resW:List (List UInt8):=[[112,114,111,116,111,99,111,108],[116,111,112,111,108,111,103,121],[115,116,97,116,101,115],[109,101,115,115,97,103,101,115],[118,97,108,117,101,115],[102,97,117,108,116,115],[114,101,115,105,108,105,101,110,99,101],[105,110,105,116,105,97,108],[108,101,97,100,101,114],[114,117,108,101],[108,111,99,97,108],[112,97,105,114],[98,114,111,97,100,99,97,115,116],[110,101,105,103,104,98,111,114],[112,97,115,115],[119,104,101,110],[101,120,105,115,116,115],[102,111,114,97,108,108],[114,101,97,100],[119,114,105,116,101],[115,101,110,100],[97,108,108],[97,116],[102,105,114,115,116],[108,97,115,116],[108,101,102,116],[114,105,103,104,116],[112,97,114,101,110,116],[99,104,105,108,100],[112,114,111,112,101,114,116,121],[110,101,118,101,114],[101,118,101,110,116,117,97,108,108,121],[115,116,97,114,116],[99,111,117,110,116],[97,100,106,97,99,101,110,116],[103,111,97,108],[99,108,105,113,117,101],[108,105,110,101],[114,105,110,103],[116,114,101,101],[99,114,97,115,104],[111,109,105,115,115,105,111,110],[97,114,98,105,116,114,97,114,121]]
def resB (l:List UInt8):Bool:=resW.any (fun w=>l==w)
def leB (c:UInt8):Bool:=decide (97≤(c.toNat:Int))&&decide ((c.toNat:Int)≤122)
def diB (c:UInt8):Bool:=decide (48≤(c.toNat:Int))&&decide ((c.toNat:Int)≤57)||((c.toNat:Int)==95)
def atB (l:List UInt8) (i:Nat):Bool:=leB (l.getD i 0)||(decide (i≠0)&&diB (l.getD i 0))
def upB (l:List UInt8) (n:Nat):Bool:=(List.range n).all (atB l)
theorem upB_zero (l:List UInt8):upB l 0=true:=rfl
variable {n:Nat}
theorem Zbe {l:List UInt8} (h:upB l n=true) (h':atB l n=true):upB l (n+1)=true:=by
 unfold upB at *;rw [List.range_succ,List.all_append,h];simp [h']
variable {k:Nat}
theorem ZbN {l:List UInt8} (hk:k<n) (h':atB l k=false):upB l n=false:=by
 unfold upB;rw [List.all_eq_false];exact ⟨k,List.mem_range.2 hk,by simp [h']⟩
def nameB (l:List UInt8):Bool:=decide (1≤l.length)&&decide (l.length≤12) && !resB l&&upB l l.length
def reB (l:List UInt8) (n:Nat):Bool:=(l.take n).all fun c=>leB c||diB c
theorem reB_succ {l:List UInt8} (hn:n<l.length) (h:reB l n=true) (h':(leB l[n]||diB l[n])=true):reB l (n+1)=true:=by
 unfold reB at *;rw [List.take_succ_eq_append_getElem hn,List.all_append,h];simpa using h'
theorem reB_no {l:List UInt8} (hk:k<l.length) (h':(leB l[k]||diB l[k])=false):reB l l.length=false:=by
 unfold reB;rw [List.all_eq_false];exact ⟨l[k],by rw [List.take_length];exact List.getElem_mem hk,by simp [h']⟩
theorem W5 {l:List UInt8} (h0:0<l.length):upB l l.length=(leB l[0]&&reB l l.length):=by
 rw [Bool.eq_iff_iff]
 unfold upB reB
 rw [List.take_length,List.all_eq_true,Bool.and_eq_true,List.all_eq_true]
 constructor
 ·intro h
  refine ⟨?_,fun c hc => ?_⟩
  ·have:=h 0 (List.mem_range.2 h0);simpa [atB,h0] using this
  obtain ⟨i,hi,rfl⟩:=List.getElem_of_mem hc
  have:=h i (List.mem_range.2 hi)
  unfold atB at this
  simp only [List.getD_eq_getElem?_getD,List.getElem?_eq_getElem hi,Option.getD_some] at this
  revert this
  cases leB l[i]<;>cases diB l[i]<;>simp
 rintro ⟨h1,h2⟩ i hi
 have hi':=List.mem_range.1 hi
 have h3:=h2 l[i] (List.getElem_mem hi')
 unfold atB
 simp only [List.getD_eq_getElem?_getD,List.getElem?_eq_getElem hi',Option.getD_some]
 by_cases e:i=0
 ·subst e;simp [h1]
 simp only [ne_eq,e,not_false_eq_true,decide_true,Bool.true_and];exact h3
theorem ZbO {l:List UInt8} (h0:0<l.length) (h:leB l[0]=false):upB l l.length=false:=by rw [W5 h0,h];rfl
end Go.Proofs.YthefecaefbeidaaGreat
namespace Go.Proofs.YthefecaefbeidaaGreat
open Go.RowKit Go.Deep
def orE (a b:Int):Int:=if a=0 then b else a
theorem Zr (b:Int):orE 0 b=b:=if_pos rfl
theorem Y7 (a:Int):orE a 0=a:=by unfold orE;split<;>omega
theorem Yx {a:Int} (b:Int) (h:a≠0):orE a b=a:=if_neg h
theorem YY (n:Nat):setE n []=0:=by unfold setE allK ascK;simp
def hasN (xs:List ByteArray) (s:ByteArray):Bool:=xs.any fun x=>x.toList==s.toList
def nmOk (xs:List ByteArray) (k:Nat):Bool:=(List.range k).all fun i=>nameB (xs.getD i default).toList && !hasN (xs.take i) (xs.getD i default)
variable {k:Nat}
theorem Zb9 {xs:List ByteArray} (hk:k<xs.length) (h:nmOk xs k=true) (h1:nameB (xs[k].toList)=true) (h2:hasN (xs.take k) xs[k]=false):nmOk xs (k+1)=true:=by
 have e:xs.getD k default=xs[k]:=by simp [List.getD,List.getElem?_eq_getElem hk]
 unfold nmOk at *;rw [List.range_succ,List.all_append,h];simp only [List.all_cons,List.all_nil,Bool.and_true,e,h1,h2,Bool.not_false]
variable {n:Nat}
theorem ZcY {xs:List ByteArray} (hk:k<xs.length) (hn:k<n) (h:nameB (xs[k].toList)=false∨hasN (xs.take k) xs[k]=true):nmOk xs n=false:=by
 have e:xs.getD k default=xs[k]:=by simp [List.getD,List.getElem?_eq_getElem hk]
 unfold nmOk;rw [List.all_eq_false]
 refine ⟨k,List.mem_range.2 hn,?_⟩
 rw [e]
 rcases h with h | h<;>rw [h]<;>simp
def guE (msgs:Nat) (g:Th):Int:=if ixB msgs g.msg=false then 5 else if inB 1 100 g.coef=false then 1 else if smL g.bd.c g.bd.n g.bd.t g.bd.f=false then 4 else 0
def gusE (msgs:Nat):List Th→Int
 | []=>0
 | g::gs=>if guE msgs g=0 then gusE msgs gs else guE msgs g
def guardE (msgs:Nat) (gs:List Th):Int:=if gusE msgs gs=0 then (if 2<gs.length then 4 else 0) else gusE msgs gs
theorem KL (m:Nat):guardE m []=0:=rfl
def shE (vals:Nat) (rd wr:Int):Int:=if (rd ≠ -1∧ixB vals rd=false)∨(wr ≠ -1∧ixB vals wr=false) then 5 else 0
theorem shE_none (v:Nat):shE v (-1) (-1)=0:=by unfold shE;simp
def reE (n:Nat) (xs:List Int):Int:=if xs.length≠n then 1 else if allK n xs xs.length=false then 5 else 0
def posE (pos top:Int):Int:=if inB 0 2 pos=false∨(pos≠0∧top=3) then 1 else 0
def dirE (dir top:Int):Int:=if top=4 then (if dir=3∨dir=4 then 0 else 1) else (if dir=1∨dir=2 then 0 else 1)
def bare (r:Ru) (top:Int):Ru :=
 let r:={ r with frm:=0,«to»:=0 }
 if r.kind=1 then { r with gz:=[],ex:=[],fa:=[],send:=[],rd := -1,wr := -1 }
 else if r.kind=2 then { r with pf:=0,pt:=0,rd := -1,wr := -1 }
 else if r.kind=3 then { r with resp:=[],rd := -1,wr := -1 }
 else if r.kind=4 then (if top=4 then { r with pos:=0,left:=[],right:=[],pz:=[] } else { r with pos:=0,left:=[],right:=[] })
 else if r.kind=5 then { r with pf:=0,pt:=0,dir:=0 }
 else r
def samP (a b:Ru):Bool :=
 decide (a.kind=b.kind)&&decide (a.frm=b.frm)&&decide (a.to=b.to)&&decide (a.pf=b.pf)&&decide (a.pt=b.pt)&&decide (a.resp=b.resp)&&decide (a.gz=b.gz)&&decide (a.ex=b.ex)&&decide (a.fa=b.fa) &&
 decide (a.rd=b.rd)&&decide (a.wr=b.wr)&&decide (a.send=b.send)&&decide (a.pos=b.pos)&&decide (a.left=b.left)&&decide (a.right=b.right)&&decide (a.pz=b.pz)&&decide (a.dir=b.dir)
def plainR (kind:Int):Ru:=⟨⟨#[]⟩,kind,0,0,0,0,[],[],[],[],-1,-1,[],0,[],[],[],0⟩
def othB (r:Ru) (top:Int):Bool:=samP (bare r top) (plainR r.kind)
def stB (r:Ru) (n:Nat):Bool:=ixB n r.frm&&ixB n r.to&&ixB n r.pf&&ixB n r.pt
def partE (q:Fm) (r:Ru):Int :=
 if r.kind=3 then orE (reE q.sz.length r.resp) (shE q.vals.length r.rd r.wr)
 else if r.kind=2 then shE q.vals.length r.rd r.wr
 else if r.kind=1 then orE (guardE q.msgs.length r.gz) (orE (setE q.sz.length r.ex) (orE (setE q.sz.length r.fa) (orE (shE q.vals.length r.rd r.wr) (setE q.msgs.length r.send))))
 else if r.kind=4 then orE (setE q.sz.length r.left) (orE (setE q.sz.length r.right) (orE (setE q.sz.length r.pz) (posE r.pos q.top)))
 else dirE r.dir q.top
def hasR (rs:List Ru) (s:ByteArray):Bool:=rs.any fun r=>r.nm.toList==s.toList
def ruleE (q:Fm) (i:Nat) (r:Ru):Int :=
 if nameB r.nm.toList=false∨hasR (q.rz.take i) r.nm=true then 2
 else if fitB r.kind q.top=false∨othB r q.top=false then 6
 else if stB r q.sz.length=false then 5
 else partE q r
def YU (r:Ru) (top:Int):Bool :=
 if r.kind≠1∧(r.gz≠[]∨r.ex≠[]∨r.fa≠[]∨r.send≠[]) then true
 else if r.kind≠1∧r.kind≠2∧r.kind≠3∧(r.rd ≠ -1∨r.wr ≠ -1) then true
 else if r.kind≠2∧r.kind≠5∧(r.pf≠0∨r.pt≠0) then true
 else if (r.kind≠3∧r.resp≠[])∨(r.kind≠5∧r.dir≠0) then true
 else if r.kind≠4∧(r.pos≠0∨r.left≠[]∨r.right≠[]) then true
 else decide (r.pz≠[]∧¬ (r.kind=4∧top=4))
def rkindB (r:Ru) (top:Int):Bool:=inB 1 5 r.kind&&(decide (r.kind≤3)==decide (top=1)) && !YU r top
def rstB (r:Ru) (n:Nat):Bool:=ixB n r.frm&&ixB n r.to&&(!(decide (r.kind=2)||decide (r.kind=5))||(ixB n r.pf&&ixB n r.pt))
def rpartE (q:Fm) (r:Ru):Int :=
 orE (if r.kind=3 then reE q.sz.length r.resp else 0) <| orE (guardE q.msgs.length r.gz) <| orE (setE q.sz.length r.ex) <| orE (setE q.sz.length r.fa) <| orE (shE q.vals.length r.rd r.wr) <| orE (setE q.msgs.length r.send) <|
 orE (setE q.sz.length r.left) <| orE (setE q.sz.length r.right) <| orE (setE q.sz.length r.pz) <| orE (if r.kind=4 then posE r.pos q.top else 0) (if r.kind=5 then dirE r.dir q.top else 0)
def rruleE (q:Fm) (i:Nat) (r:Ru):Int :=
 if nameB r.nm.toList=false∨hasR (q.rz.take i) r.nm=true then 2
 else if rkindB r q.top=false then 6
 else if rstB r q.sz.length=false then 5
 else rpartE q r
theorem samP_iff (a b:Ru):samP a b=true↔a.kind=b.kind∧a.frm=b.frm∧a.to=b.to∧a.pf=b.pf∧a.pt=b.pt∧a.resp=b.resp∧a.gz=b.gz∧a.ex=b.ex∧a.fa=b.fa∧a.rd=b.rd∧a.wr=b.wr∧a.send=b.send∧a.pos=b.pos∧a.left=b.left∧a.right=b.right∧a.pz=b.pz∧a.dir=b.dir:=by
 unfold samP;simp only [Bool.and_eq_true,decide_eq_true_iff,and_assoc]
structure Emp (r:Ru) (top:Int):Prop where
 g:r.kind≠1→r.gz=[]∧r.ex=[]∧r.fa=[]∧r.send=[]
 s:r.kind≠1→r.kind≠2→r.kind≠3→r.rd = -1∧r.wr = -1
 p:r.kind≠2→r.kind≠5→r.pf=0∧r.pt=0
 b:r.kind≠3→r.resp=[]
 d:r.kind≠5→r.dir=0
 n:r.kind≠4→r.pos=0∧r.left=[]∧r.right=[]
 t:¬ (r.kind=4∧top=4)→r.pz=[]
theorem unused_emp (r:Ru) (top:Int):YU r top=false↔Emp r top:=by
 unfold YU
 constructor
 ·intro h
  split at h
  ·cases h
  rename_i h1
  split at h
  ·cases h
  rename_i h2
  split at h
  ·cases h
  rename_i h3
  split at h
  ·cases h
  rename_i h4
  split at h
  ·cases h
  rename_i h5
  rw [decide_eq_false_iff_not] at h
  simp only [not_and,not_or,Decidable.not_not] at h1 h2 h3 h4 h5 h
  exact ⟨h1,h2,h3,h4.1,h4.2,h5,fun hk=>Decidable.byContradiction fun hn=>by simp_all⟩
 rintro ⟨g,s,p,b,d,n,t⟩
 rw [if_neg (by rintro ⟨hk,h⟩;have:=g hk;simp_all),if_neg (by rintro ⟨h1,h2,h3,h⟩;have:=s h1 h2 h3;simp_all),if_neg (by rintro ⟨h1,h2,h⟩;have:=p h1 h2;simp_all),
  if_neg (by rintro (⟨h1,h⟩ | ⟨h1,h⟩)<;>simp_all),if_neg (by rintro ⟨h1,h⟩;have:=n h1;simp_all),decide_eq_false_iff_not]
 rintro ⟨h1,h2⟩
 exact h1 (t h2)
theorem ZcX (r:Ru) (top:Int) (hk:r.kind=1∨r.kind=2∨r.kind=3∨r.kind=4∨r.kind=5):othB r top=true↔Emp r top:=by
 unfold othB
 rw [samP_iff]
 obtain ⟨nm,kind,frm,tt,pf,pt,resp,gz,ex,fa,rd,wr,send,pos,left,right,pz,dir⟩:=r
 unfold bare plainR
 dsimp only at hk ⊢
 rcases hk with rfl | rfl | rfl | rfl | rfl
 ·simp only [if_pos]
  constructor
  ·rintro ⟨-,-,-,h1,h2,h3,-,-,-,-,-,-,h4,h5,h6,h7,h8⟩
   exact ⟨by simp,by simp,fun _ _=>⟨h1,h2⟩,fun _=>h3,fun _=>h8,fun _=>⟨h4,h5,h6⟩,fun _=>h7⟩
  rintro ⟨g,s,p,b,d,n,t⟩
  have:=p (by simp) (by simp);have:=n (by simp);have:=b (by simp);have:=d (by simp);have:=t (by simp)
  simp_all
 ·simp only [show ¬ ((2:Int)=1) by omega,if_pos,if_neg,not_false_eq_true]
  constructor
  ·rintro ⟨-,-,-,-,-,h3,h9,h10,h11,-,-,h12,h4,h5,h6,h7,h8⟩
   exact ⟨fun _=>⟨h9,h10,h11,h12⟩,by simp,by simp,fun _=>h3,fun _=>h8,fun _=>⟨h4,h5,h6⟩,fun _=>h7⟩
  rintro ⟨g,s,p,b,d,n,t⟩
  have:=g (by simp);have:=n (by simp);have:=b (by simp);have:=d (by simp);have:=t (by simp)
  simp_all
 ·simp only [show ¬ ((3:Int)=1) by omega,show ¬ ((3:Int)=2) by omega,if_pos,if_neg,not_false_eq_true]
  constructor
  ·rintro ⟨-,-,-,h1,h2,-,h9,h10,h11,-,-,h12,h4,h5,h6,h7,h8⟩
   exact ⟨fun _=>⟨h9,h10,h11,h12⟩,by simp,fun _ _=>⟨h1,h2⟩,by simp,fun _=>h8,fun _=>⟨h4,h5,h6⟩,fun _=>h7⟩
  rintro ⟨g,s,p,b,d,n,t⟩
  have:=g (by simp);have:=n (by simp);have:=p (by simp) (by simp);have:=d (by simp);have:=t (by simp)
  simp_all
 ·simp only [show ¬ ((4:Int)=1) by omega,show ¬ ((4:Int)=2) by omega,show ¬ ((4:Int)=3) by omega,if_pos,if_neg,not_false_eq_true]
  by_cases ht:top=4
  ·simp only [if_pos ht]
   constructor
   ·rintro ⟨-,-,-,h1,h2,h3,h9,h10,h11,h13,h14,h12,-,-,-,-,h8⟩
    exact ⟨fun _=>⟨h9,h10,h11,h12⟩,fun _ _ _=>⟨h13,h14⟩,fun _ _=>⟨h1,h2⟩,fun _=>h3,fun _=>h8,by simp,by simp [ht]⟩
   rintro ⟨g,s,p,b,d,n,t⟩
   have:=g (by simp);have:=s (by simp) (by simp) (by simp);have:=p (by simp) (by simp);have:=b (by simp);have:=d (by simp)
   simp_all
  simp only [if_neg ht]
  constructor
  ·rintro ⟨-,-,-,h1,h2,h3,h9,h10,h11,h13,h14,h12,-,-,-,h7,h8⟩
   exact ⟨fun _=>⟨h9,h10,h11,h12⟩,fun _ _ _=>⟨h13,h14⟩,fun _ _=>⟨h1,h2⟩,fun _=>h3,fun _=>h8,by simp,fun _=>h7⟩
  rintro ⟨g,s,p,b,d,n,t⟩
  have:=g (by simp);have:=s (by simp) (by simp) (by simp);have:=p (by simp) (by simp);have:=b (by simp);have:=d (by simp);have:=t (by simp [ht])
  simp_all
 simp only [show ¬ ((5:Int)=1) by omega,show ¬ ((5:Int)=2) by omega,show ¬ ((5:Int)=3) by omega,show ¬ ((5:Int)=4) by omega,if_pos,if_neg,not_false_eq_true]
 constructor
 ·rintro ⟨-,-,-,-,-,h3,h9,h10,h11,h13,h14,h12,h4,h5,h6,h7,-⟩
  exact ⟨fun _=>⟨h9,h10,h11,h12⟩,fun _ _ _=>⟨h13,h14⟩,by simp,fun _=>h3,by simp,fun _=>⟨h4,h5,h6⟩,fun _=>h7⟩
 rintro ⟨g,s,p,b,d,n,t⟩
 have:=g (by simp);have:=s (by simp) (by simp) (by simp);have:=b (by simp);have:=n (by simp);have:=t (by simp)
 simp_all
theorem Kf {kind top:Int} (h:fitB kind top=true):kind=1∨kind=2∨kind=3∨kind=4∨kind=5:=by
 unfold fitB at h;split at h
 ·omega
 split at h
 ·omega
 cases h
theorem fit_eq (r:Ru) (top:Int):(fitB r.kind top&&othB r top)=rkindB r top:=by
 unfold rkindB
 by_cases hk:r.kind=1∨r.kind=2∨r.kind=3∨r.kind=4∨r.kind=5
 ·have e:othB r top = !YU r top:=by
   rw [Bool.eq_iff_iff,ZcX r top hk,← unused_emp];simp
  have e2:inB 1 5 r.kind=true:=by unfold inB;simp;omega
  rw [e,e2,Bool.true_and]
  congr 1
  unfold fitB
  by_cases h3:r.kind≤3
  ·rw [if_pos (by omega),decide_eq_true h3];by_cases ht:top=1<;>simp [ht]
  rw [if_neg (by omega),if_pos (by omega),decide_eq_false h3];by_cases ht:top=1<;>simp [ht]
 have e2:inB 1 5 r.kind=false:=by unfold inB;simp;omega
 have e3:fitB r.kind top=false:=by unfold fitB;rw [if_neg (by omega),if_neg (by omega)]
 rw [e2,e3];simp
theorem rule_eq (q:Fm) (i:Nat) (r:Ru) (hs:q.sz≠[]):ruleE q i r=rruleE q i r:=by
 unfold ruleE rruleE
 have hn:0<q.sz.length:=List.length_pos_iff.2 hs
 by_cases h1:nameB r.nm.toList=false∨hasR (q.rz.take i) r.nm=true
 ·rw [if_pos h1,if_pos h1]
 rw [if_neg h1,if_neg h1]
 have hf:=fit_eq r q.top
 cases hr:rkindB r q.top with
 | false =>
   rw [hr] at hf
   rw [if_pos (by cases hA:fitB r.kind q.top<;>cases hB:othB r q.top<;>simp_all),if_pos rfl]
 | true =>
   rw [hr,Bool.and_eq_true] at hf
   obtain ⟨hf,ho⟩:=hf
   have hk:=Kf hf
   have he:=(ZcX r q.top hk).1 ho
   rw [if_neg (by rw [hf,ho];simp),if_neg (by simp:¬ (true=false))]
   obtain ⟨g,s,p,b,d,n,t⟩:=he
   have z0:ixB q.sz.length 0=true:=by unfold ixB inB;simp;omega
   have hst:stB r q.sz.length=rstB r q.sz.length:=by
    unfold stB rstB
    by_cases hk2:r.kind=2∨r.kind=5
    ·have:(decide (r.kind=2)||decide (r.kind=5))=true:=by simpa using hk2
     rw [this];simp [Bool.and_assoc]
    have e:=p (by omega) (by omega)
    have:(decide (r.kind=2)||decide (r.kind=5))=false:=by simpa using hk2
    rw [this,e.1,e.2,z0];simp
   rw [hst]
   by_cases hb:rstB r q.sz.length=false
   ·rw [if_pos hb,if_pos hb]
   rw [if_neg hb,if_neg hb]
   unfold partE rpartE
   rcases hk with hk | hk | hk | hk | hk
   ·have e1:=n (by omega);have e2:=t (by omega)
    rw [hk,e1.2.1,e1.2.2,e2]
    simp [YY,Zr,Y7]
   ·have e0:=g (by omega);have e1:=n (by omega);have e2:=t (by omega)
    rw [hk,e0.1,e0.2.1,e0.2.2.1,e0.2.2.2,e1.2.1,e1.2.2,e2]
    simp [YY,Zr,Y7,KL]
   ·have e0:=g (by omega);have e1:=n (by omega);have e2:=t (by omega)
    rw [hk,e0.1,e0.2.1,e0.2.2.1,e0.2.2.2,e1.2.1,e1.2.2,e2]
    simp [YY,Zr,Y7,KL]
   ·have e0:=g (by omega);have e1:=s (by omega) (by omega) (by omega)
    rw [hk,e0.1,e0.2.1,e0.2.2.1,e0.2.2.2,e1.1,e1.2]
    simp [YY,Zr,Y7,KL,shE_none]
   have e0:=g (by omega);have e1:=s (by omega) (by omega) (by omega);have e2:=n (by omega);have e3:=t (by omega)
   rw [hk,e0.1,e0.2.1,e0.2.2.1,e0.2.2.2,e1.1,e1.2,e2.2.1,e2.2.2,e3]
   simp [YY,Zr,KL,shE_none]
def addT (l:List Th) (g:Th):List Th:=if g∈l then l else l++[g]
def diffG (rs:List Ru):List Th:=rs.foldl (fun l r=>r.gz.foldl addT l) []
def rulesE (q:Fm):Nat→Nat→Int
 | _,0=>0
 | i,f+1=>if ruleE q i (q.rz.getD i default)=0 then rulesE q (i+1) f else ruleE q i (q.rz.getD i default)
def cliB (q:Fm):Bool:=decide (0<q.msgs.length)||decide (0<q.vals.length)||decide (0<q.res.length)||decide (q.fz≠0)
def valE (q:Fm):Int :=
 if nameB q.nm.toList=false then 2
 else if inB 1 4 q.top=false∨inB 0 3 q.fz=false then 1
 else if q.sz.length=0 then 1
 else if tooB q=true then 4
 else if nmOk (q.sz++(q.msgs++q.vals)) (q.sz++(q.msgs++q.vals)).length=false then 2
 else if (q.top≠1∧cliB q=true)∨(q.top=1∧0<q.lz.length) then 1
 else if (q.res.any fun l => !smL l.c l.n l.t l.f)=true then 4
 else orE (if q.init.length=0 then 1 else setE q.sz.length q.init) (orE (setE q.sz.length q.lz) (orE (rulesE q 0 q.rz.length) (if 3<(diffG q.rz).length then 4 else 0)))
set_option maxHeartbeats 12800000
variable {xs:List Int}
theorem setE_bad (h:k<xs.length) (hp:ixB n xs[k]=false):setE n xs=5:=by unfold setE;rw [if_pos (Zdf h hp)]
theorem setE_asc (ha:allK n xs xs.length=true) (h:k<xs.length) (h0:0<k) (hp:¬ xs.getD (k-1) 0<xs.getD k 0):setE n xs=1:=by
 unfold setE;rw [if_neg (by rw [ha];simp),if_pos (ascK_no h h0 hp)]
theorem setE_ok (ha:allK n xs xs.length=true) (hb:ascK xs xs.length=true):setE n xs=0:=by
 unfold setE;rw [if_neg (by rw [ha];simp),if_neg (by rw [hb];simp)]
theorem ascK_le (h:ascK xs k=true) (hn:n≤k):ascK xs n=true:=by
 unfold ascK at *
 rw [List.all_eq_true] at *
 exact fun j hj=>h j (List.mem_range.2 (by have:=List.mem_range.1 hj;omega))
theorem Zbi (b off m cap n:Nat) (w:World) (xs:List Int) (hx:xs.length=m) (hm:m≤9223372036854775807) (hn:n≤9223372036854775807)
 (hc:∀ i,i<m→w.cell? ⟨b,off+i,none⟩=some (.int .i64 (xs.getD i 0))) :
 Calls Tryz.prog 117 #[.slice (some ⟨b,off,none⟩) m cap,.int .i64 n] w fun e w'=>e = .returned (.int .i64 (setE n xs))∧∃ q,w'=w.drewN q:=by
 have HC:=Lib.hid hc
 have HX:=Lib.hid hx
 clear hc hx
 go_enter Tryz.func117,Tryz.ntmps117
 go_wp2_with fail
 go_loop [10] (fun u=>∃ k:Nat,k≤m∧u = .int .i64 k∧allK n xs k=true) (fun u=>m-(intOf u).toNat)
 case atStart=>exact ⟨0,Nat.zero_le _,rfl,rfl⟩
 case round =>
  obtain ⟨k,hk,rfl,hs⟩:=hrel
  have HS:=Lib.hid hs
  clear hs
  by_cases hlt:k<m
  ·have g1:=HC.out k hlt
   have hkx:k<xs.length:=by rw [HX.out];exact hlt
   have ex:xs.getD k 0=xs[k]:=by simp [List.getD,List.getElem?_eq_getElem hkx]
   have HE:=Lib.hid ex
   generalize hX:xs.getD k 0=x at g1 HE
   clear ex hX
   cases hp:ixB n x with
   | true =>
     have HP:=Lib.hid hp
     clear hp
     go_wp2_with (go_at_call 164;refine (Zp x n hn _).mono ?_;rintro e w1 ⟨rfl,rfl⟩;rw [HP.out])
     go_round
     case rel=>exact ⟨k+1,by omega,by go_num,Wt hkx HS.out (by rw [← HE.out];exact HP.out)⟩
     case measure=>simp [intOf];omega
   | false =>
     have HP:=Lib.hid hp
     clear hp
     go_wp2_with (go_at_call 164;refine (Zp x n hn _).mono ?_;rintro e w1 ⟨rfl,rfl⟩;rw [HP.out])
     go_ret
     exact ⟨Zt (by rw [setE_bad hkx (by rw [← HE.out];exact HP.out)]),0,rfl⟩
  have HA:Hid (allK n xs xs.length=true):=by show _=_;rw [HX.out];have:k=m:=by omega
                                             rw [← this];exact HS.out
  go_wp2_with fail
  go_loopw [7] (fun u wr=>∃ (k q:Nat),1≤k∧u = .int .i64 k∧(k≤m∨k=1)∧ascK xs k=true∧wr=w.drewN q) (fun u _=>m-(intOf u).toNat)
  case atStart=>exact ⟨1,0,Nat.le_refl _,rfl,.inr rfl,ascK_one xs,rfl⟩
  case round =>
   obtain ⟨k,q,hk1,rfl,hk2,hs,rfl⟩:=hrel
   have HS:=Lib.hid hs
   have HK:=Lib.hid hk2
   clear hs hk2
   by_cases hlt:k<m
   ·have g1:=HC.out k hlt
    have g2:=HC.out (k-1) (by omega)
    have e1:off+(k-1)=off+k-1:=by omega
    have ei:((k:Int)-1).toNat=k-1:=by omega
    have p1:(0:Int)≤(k:Int)-1:=by omega
    have p2:(k:Int)-1<(m:Int):=by omega
    have p3:(k:Int)<(m:Int):=by omega
    have wn:IntKind.i64.wrap ((k:Int)-1)=(k:Int)-1:=IntWalk.i64_in _ (by omega)
    generalize hX:xs.getD k 0=x at g1
    generalize hY:xs.getD (k-1) 0=y at g2
    have HX':=Lib.hid hX
    have HY':=Lib.hid hY
    clear hX hY e1
    by_cases hp:y<x
    ·have b1:decide (x≤y)=false:=by simpa using hp
     have HP:=Lib.hid hp
     clear hp
     go_wp2_with fail
     go_quiet (fail)
     go_wp2_with fail
     go_roundw
     case rel=>exact ⟨k+1,q+nq,by omega,by go_num,.inl (by omega),Zct HS.out (by rw [HX'.out,HY'.out];exact HP.out),by first | rfl | rw [World.drewN_drewN]⟩
     case measure=>simp [intOf];omega
    have b1:decide (x≤y)=true:=by simp;omega
    have HP:=Lib.hid hp
    clear hp
    go_wp2_with fail
    go_quiet (fail)
    go_wp2_with fail
    go_ret
    exact ⟨Zt (by rw [setE_asc HA.out (k:=k) (by rw [HX.out];exact hlt) hk1 (by rw [HX'.out,HY'.out];have:=HP.out;omega)]),q+nq,by first | rfl | rw [World.drewN_drewN]⟩
   have HE:=Lib.hid (setE_ok HA.out (ascK_le HS.out (by rw [HX.out];have:=HK.out;omega)))
   go_wp2_with fail
   go_ret
   exact ⟨Zt (by rw [HE.out]),q,rfl⟩
theorem ZaA (a:Option Addr) (cap n:Nat) (w:World) :
 Calls Tryz.prog 117 #[.slice a 0 cap,.int .i64 n] w fun e w'=>e = .returned (.int .i64 (setE n []))∧∃ q,w'=w.drewN q:=by
 rw [YY]
 go_enter Tryz.func117,Tryz.ntmps117
 go_wp2_with fail
 refine wp_loop_rounds 1 ?_
 rw [rounds_succ]
 go_wp2_with fail
 refine wp_loop_rounds 1 ?_
 rw [rounds_succ]
 go_wp2_with fail
 go_ret
 exact ⟨rfl,0,rfl⟩
variable {lo:Nat}{w:World}{v:Value}
theorem setError_q (n:Nat) (hn:n≤9223372036854775807) (h:IsInts lo w v xs) :
 Calls Tryz.prog 117 #[v,.int .i64 n] w fun e w'=>e = .returned (.int .i64 (setE n xs))∧∃ q,w'=w.drewN q:=by
 obtain ⟨a,cap,rfl,hl,hm,hi,hc⟩:=h
 unfold maxLen at hm
 rcases hc with rfl | ⟨b,off,rfl,_,_,hc⟩
 ·exact ZaA _ _ _ _
 exact Zbi _ _ _ _ _ _ _ rfl (by omega) hn hc
theorem YX (n:Nat) (hn:n≤9223372036854775807) (h:IsInts lo w v xs) :
 Calls Tryz.prog 117 #[v,.int .i64 n] w fun e w'=>e = .returned (.int .i64 (setE n xs))∧Below w.heap.size w w' :=
 (setError_q n hn h).mono fun _ _ ⟨h1,q,h2⟩=>⟨h1,by rw [h2];exact quietBelow (Below.refl _ _) q⟩
def someE (n:Nat) (xs:List Int):Int:=if xs.length=0 then 1 else setE n xs
theorem Kr (n:Nat) (hn:n≤9223372036854775807) (h:IsInts lo w v xs) :
 Calls Tryz.prog 119 #[v,.int .i64 n] w fun e w'=>e = .returned (.int .i64 (someE n xs))∧Below w.heap.size w w':=by
 have H:=Lib.hid h
 have hbd:xs.length≤9223372036854775807:=by obtain ⟨_,_,_,hh,hm,_⟩:=h;unfold maxLen at hm;omega
 obtain ⟨a,cap,rfl⟩:=h.shape
 clear h
 by_cases h0:xs.length=0
 ·have E:=Lib.hid (show someE n xs=1 from if_pos h0)
  have b0:((xs.length:Int)==0)=true:=by rw [h0];rfl
  clear h0
  go_enter Tryz.func119,Tryz.ntmps119
  go_wp2_with fail
  go_ret
  exact ⟨Zt (by rw [E.out]),Below.refl _ _⟩
 have E:=Lib.hid (show someE n xs=setE n xs from if_neg h0)
 have b0:((xs.length:Int)==0)=false:=by rw [beq_eq_false_iff_ne];omega
 clear h0
 go_enter Tryz.func119,Tryz.ntmps119
 go_wp2_with (go_at_call 117;refine (YX n hn H.out).mono ?_;rintro e w1 ⟨rfl,hb1⟩)
 go_ret
 exact ⟨Zt (by rw [E.out]),hb1⟩
theorem rSet_full (b off m cap n:Nat) (w:World) (xs:List Int) (hx:xs.length=m) (hm:m≤9223372036854775807) (hn:n≤9223372036854775807)
 (hc:∀ i,i<m→w.cell? ⟨b,off+i,none⟩=some (.int .i64 (xs.getD i 0))) :
 Calls Tryz.prog 123 #[.slice (some ⟨b,off,none⟩) m cap,.int .i64 n] w fun e w'=>e = .returned (.int .i64 (setE n xs))∧∃ q,w'=w.drewN q:=by
 have HC:=Lib.hid hc
 have HX:=Lib.hid hx
 clear hc hx
 go_enter Tryz.func123,Tryz.ntmps123
 go_wp2_with fail
 go_loop [5] (fun u=>∃ k:Nat,k≤m∧u = .int .i64 k∧allK n xs k=true) (fun u=>m-(intOf u).toNat)
 case atStart=>exact ⟨0,Nat.zero_le _,rfl,rfl⟩
 case round =>
  obtain ⟨k,hk,rfl,hs⟩:=hrel
  have HS:=Lib.hid hs
  clear hs
  by_cases hlt:k<m
  ·have g1:=HC.out k hlt
   have hkx:k<xs.length:=by rw [HX.out];exact hlt
   have ex:xs.getD k 0=xs[k]:=by simp [List.getD,List.getElem?_eq_getElem hkx]
   have HE:=Lib.hid ex
   generalize hX:xs.getD k 0=x at g1 HE
   clear ex hX
   cases hp:ixB n x with
   | true =>
     have HP:=Lib.hid hp
     clear hp
     go_wp2_with (go_at_call 125;refine (Yb x 0 ((n:Int)-1) _).mono ?_;rintro e w1 ⟨rfl,rfl⟩;rw [show inB 0 ((n:Int)-1) x=_ from HP.out])
     go_round
     case rel=>exact ⟨k+1,by omega,by go_num,Wt hkx HS.out (by rw [← HE.out];exact HP.out)⟩
     case measure=>simp [intOf];omega
   | false =>
     have HP:=Lib.hid hp
     clear hp
     go_wp2_with (go_at_call 125;refine (Yb x 0 ((n:Int)-1) _).mono ?_;rintro e w1 ⟨rfl,rfl⟩;rw [show inB 0 ((n:Int)-1) x=_ from HP.out])
     go_ret
     exact ⟨Zt (by rw [setE_bad hkx (by rw [← HE.out];exact HP.out)]),0,rfl⟩
  have HA:Hid (allK n xs xs.length=true):=by show _=_;rw [HX.out];have:k=m:=by omega
                                             rw [← this];exact HS.out
  go_wp2_with fail
  go_loopw [6] (fun u wr=>∃ (k q:Nat),1≤k∧u = .int .i64 k∧(k≤m∨k=1)∧ascK xs k=true∧wr=w.drewN q) (fun u _=>m-(intOf u).toNat)
  case atStart=>exact ⟨1,0,Nat.le_refl _,rfl,.inr rfl,ascK_one xs,rfl⟩
  case round =>
   obtain ⟨k,q,hk1,rfl,hk2,hs,rfl⟩:=hrel
   have HS:=Lib.hid hs
   have HK:=Lib.hid hk2
   clear hs hk2
   by_cases hlt:k<m
   ·have g1:=HC.out k hlt
    have g2:=HC.out (k-1) (by omega)
    have e1:off+(k-1)=off+k-1:=by omega
    have ei:((k:Int)-1).toNat=k-1:=by omega
    have p1:(0:Int)≤(k:Int)-1:=by omega
    have p2:(k:Int)-1<(m:Int):=by omega
    have p3:(k:Int)<(m:Int):=by omega
    have wn:IntKind.i64.wrap ((k:Int)-1)=(k:Int)-1:=IntWalk.i64_in _ (by omega)
    generalize hX:xs.getD k 0=x at g1
    generalize hY:xs.getD (k-1) 0=y at g2
    have HX':=Lib.hid hX
    have HY':=Lib.hid hY
    clear hX hY e1
    by_cases hp:y<x
    ·have b1:decide (x≤y)=false:=by simpa using hp
     have HP:=Lib.hid hp
     clear hp
     go_wp2_with fail
     go_quiet (fail)
     go_wp2_with fail
     go_roundw
     case rel=>exact ⟨k+1,q+nq,by omega,by go_num,.inl (by omega),Zct HS.out (by rw [HX'.out,HY'.out];exact HP.out),by first | rfl | rw [World.drewN_drewN]⟩
     case measure=>simp [intOf];omega
    have b1:decide (x≤y)=true:=by simp;omega
    have HP:=Lib.hid hp
    clear hp
    go_wp2_with fail
    go_quiet (fail)
    go_wp2_with fail
    go_ret
    exact ⟨Zt (by rw [setE_asc HA.out (k:=k) (by rw [HX.out];exact hlt) hk1 (by rw [HX'.out,HY'.out];have:=HP.out;omega)]),q+nq,by first | rfl | rw [World.drewN_drewN]⟩
   have HE:=Lib.hid (setE_ok HA.out (ascK_le HS.out (by rw [HX.out];have:=HK.out;omega)))
   go_wp2_with fail
   go_ret
   exact ⟨Zt (by rw [HE.out]),q,rfl⟩
theorem rSet_empty (a:Option Addr) (cap n:Nat) (w:World) :
 Calls Tryz.prog 123 #[.slice a 0 cap,.int .i64 n] w fun e w'=>e = .returned (.int .i64 (setE n []))∧∃ q,w'=w.drewN q:=by
 rw [YY]
 go_enter Tryz.func123,Tryz.ntmps123
 go_wp2_with fail
 refine wp_loop_rounds 1 ?_
 rw [rounds_succ]
 go_wp2_with fail
 refine wp_loop_rounds 1 ?_
 rw [rounds_succ]
 go_wp2_with fail
 go_ret
 exact ⟨rfl,0,rfl⟩
theorem rSet_q (n:Nat) (hn:n≤9223372036854775807) (h:IsInts lo w v xs) :
 Calls Tryz.prog 123 #[v,.int .i64 n] w fun e w'=>e = .returned (.int .i64 (setE n xs))∧∃ q,w'=w.drewN q:=by
 obtain ⟨a,cap,rfl,hl,hm,hi,hc⟩:=h
 unfold maxLen at hm
 rcases hc with rfl | ⟨b,off,rfl,_,_,hc⟩
 ·exact rSet_empty _ _ _ _
 exact rSet_full _ _ _ _ _ _ _ rfl (by omega) hn hc
theorem rSet_any (n:Nat) (hn:n≤9223372036854775807) (h:IsInts lo w v xs) :
 Calls Tryz.prog 123 #[v,.int .i64 n] w fun e w'=>e = .returned (.int .i64 (setE n xs))∧Below w.heap.size w w' :=
 (rSet_q n hn h).mono fun _ _ ⟨h1,q,h2⟩=>⟨h1,by rw [h2];exact quietBelow (Below.refl _ _) q⟩
section
variable {P:Program} {J:World→Prop} {o:Oper}
variable {ρ:Names}{B:Nat}{x:Value}
theorem Zcy {xs:List Value} (h:Rel ρ B w (.agg (xs.map AV.v)) x):x = .agg xs.toArray:=by
 obtain ⟨vs,rfl,hl,hc⟩:=h.agg_inv
 have e:vs.toList=xs:=by
  refine List.ext_getElem (by simpa using hl) fun i h1 h2 => ?_
  have h3:=hc i (by simpa using h2)
  simp only [List.getElem_map] at h3
  have h4:=h3.v_inv
  have h5:i<vs.size:=by simpa using h1
  simpa [Array.getD,h5] using h4
 rw [← e]
variable {T:TypeId}{cs:List AV}
theorem KQ {parts:Array (Nat × Operand)} (args:List (Operand × Value)) (cells:Array Value) (ho:o.op = .build T parts) (hp:parts.toList.map (·.2)=args.map (·.1))
 (hb:P.built T ((parts.toList.zip args).map fun p=>(p.1.1,p.2.2))=some cells) (hc:cells.toList.map AV.v=cs):ASpec P J o (args.map fun p=>(p.1,.v p.2)) [] (.agg cs) .no :=
 ZF fun ρ B a w _ ha _=>by
  subst hc
  have hl:parts.toList.length=args.length:=by simpa using congrArg List.length hp
  have e:(parts.map fun (i,x)=>(i,a.eval x)).toList=(parts.toList.zip args).map fun p=>(p.1.1,p.2.2):=by
   rw [Array.toList_map]
   refine List.ext_getElem (by simp at hl ⊢;omega) fun i h1 h2 => ?_
   have h3:i<parts.toList.length:=by simpa using h1
   have h4:i<args.length:=by omega
   have h5:parts.toList[i].2=args[i].1:=by
    have h7:(parts.toList.map (·.2))[i]'(by simpa using h3)=(args.map (·.1))[i]'(by simpa using h4):=by simp only [hp]
    simpa only [List.getElem_map] using h7
   have h6:=(ha (args[i].1,.v args[i].2) (List.mem_map_of_mem (f:=fun p:Operand × Value=>(p.1,AV.v p.2)) (List.getElem_mem h4))).v_inv
   simp only [List.getElem_map,List.getElem_zip]
   rw [← h6,← h5]
  refine ⟨.agg cells,?_,.pu (.agg (by simp) fun j hj => ?_)⟩
  ·simp only [execOp,ho]
   refine Zw (run_build w T _ cells ?_)
   rw [e];exact hb
  simp only [List.getElem_map,Array.getElem_toList]
  have:j<cells.size:=by simpa using hj
  simp only [Array.getD,this,dif_pos]
  exact .v _
end
section
variable {P:Program} {J:World→Prop} {o:Oper}
end
variable {J:World→Prop}
section
variable {P:Program} {o:Oper}
end
section
variable {P:Program} {w0:Wb} {h:AHeap} {t:ATm}
end
section
variable {P:Program} {o:Oper}
end
section
variable {P:Program} {w0:Wb} {ops:Array Oper} {o:Oper} {rest:List Oper} {Q:Exit→Act→World→Prop}
end
section
variable {ρ:Names} {B:Nat} {w w':World}
end
section
variable {P:Program} {o:Oper}
end
section
variable {w0:Wb} {ρ:Names} {h:AHeap} {t:ATm} {a:Act} {w:World} {k0 k:Nat} {nm:Nm}
end
section
variable {P:Program} {w0:Wb} {h:AHeap} {t:ATm}
end
def lent (k:Nat) (nm:Nm):Names:=⟨fun j=>if j=k then some nm else none,fun b=>∃ c n,nm = .at b c n⟩
def RetW (w0:Wb) (k:Nat) (Y':ABlk) (u:AV) (e:Ending) (w':World):Prop :=
 ∃ v ρ nm,e = .returned v∧(∀ j,j<hand→Names.f ρ j=none)∧(∀ j,hand≤j→Names.f ρ j=w0.N j)∧ρ.H=w0.H∧ρ k=some nm∧BlkR ρ w' w0.heap.size nm Y'∧Rel ρ w0.heap.size w' u v∧Bel w0 w'
section
variable {P:Program} {w0:Wb} {h:AHeap} {t:ATm} {k:Nat} {Y':ABlk}
variable {ρ:Names}{a:Act}{X u:AV}{x:Value}
theorem Sat.back (s:Sat J w0 ρ h t a w) (hk:hand≤k) (hY:(h k).map (ABlk.wk (keepL []) h)=some Y') (hr:Rel ρ w0.heap.size w X x) (hu:X.wk3 (keepL []) h=u):RetW w0 k Y' u (.returned x) w:=by
 subst hu
 obtain ⟨Y,hY0,rfl⟩:=Option.map_eq_some_iff.1 hY
 obtain ⟨nm,h1,h2⟩:=s.hp k Y hY0
 have hkb:keepL [] k=true:=by unfold keepL;rw [Bool.or_eq_true];exact .inr (Nat.ble_eq ▸ hk)
 refine ⟨x,kept (keepL []) ρ,nm,rfl,fun j hj=>kept_no ?_,fun j hj=>(Kg (by unfold keepL;rw [Bool.or_eq_true];exact .inr (Nat.ble_eq ▸ hj))).trans (s.pin j hj),s.hH,(Kg hkb).trans h1,?_,rel_wk3 s.wf s.hp hr,s.bel⟩
 ·unfold keepL
  simp only [List.any_nil,Bool.false_or]
  cases e:Nat.ble hand j with
  | false=>rfl
  | true=>have:=Nat.le_of_ble_eq_true e;omega
 cases Y with
 | box T cs =>
   obtain ⟨b,c,n,vs,rfl,q1,q2,q3⟩:=h2
   exact ⟨b,c,n,vs,rfl,q1,by simpa using q2,fun j hj=>by rw [List.getElem_map];exact Yz s.wf s.hp (q3 j (by simpa using hj))⟩
 | row fr e z n cs =>
   obtain ⟨xs,q1,q2,q3⟩:=h2
   refine ⟨xs,q1,q2,fun j hj=>(q3 j hj).weak fun b hb=>⟨fun k c n hk => ?_,hb.2⟩⟩
   dsimp only [kept] at hk
   split at hk
   ·exact hb.1 _ _ _ hk
   cases hk
end
variable {ρ:Names}{B:Nat}{X:AV}{x:Value}
theorem Rel.viewG {rd:List (Nat × ABlk)} {ok:Nat→Prop} (ho:∀ b,okOf ρ b→b<w.heap.size→ok b) (hr:∀ p∈rd,∃ nm,ρ p.1=some nm∧BlkR ρ w B nm p.2) (hn:∀ p∈rd,∀ b c n,ρ p.1=some (.at b c n)→ok b) (h:Rel ρ B w X x) (hf:X.flat1=true):Pu (fun _=>True) w ok (X.view1 rd) x:=by
 cases h with
 | pu h =>
   have lift:∀ {X:AV} {x:Value} {ok':Nat→Prop},(∀ b,ok' b→okOf ρ b)→Pu (B ≤ ·) w ok' X x→Pu (fun _=>True) w ok X x:=fun hs h=>h.mono (fun b hb hw=>⟨ho b (hs b hb) hw,hw,rfl⟩) fun _ _ _=>trivial
   cases h with
   | fr h=>exact lift (fun _ h=>h.1) h
   | old h=>exact lift (fun _ h=>h.1) h
   | any x=>exact .any x
   | v x=>exact .v x
   | agg hl h=>exact lift (fun _ h=>h) (Pu.agg hl h)
   | tup hl h=>exact lift (fun _ h=>h) (Pu.tup hl h)
   | clo hl h=>exact lift (fun _ h=>h) (Pu.clo hl h)
   | sl0 h2 hz=>exact .sl0 h2 hz
   | sl hc h1 h2 hb hw hq h=>exact lift (fun _ h=>h) (Pu.sl hc h1 h2 hb hw hq h)
   | el hb hw hq h=>exact lift (fun _ h=>h) (Pu.el hb hw hq h)
 | box h=>exact .any _
 | own h =>
   rename_i k nm
   simp only [AV.view1]
   split
   ·rename_i q fr e z n cs hq
    have hmem:=List.mem_of_find?_eq_some hq
    obtain ⟨nm',h1,h2⟩:=hr _ hmem
    have hqk:q=k:=by have:=List.find?_some hq;simpa using this
    have hn':=hn _ hmem
    rw [hqk,h] at h1
    cases h1
    refine Zat h2 (fun b c m e=>hn' b c m (by rw [hqk,h,e])) (fun b hb hw=>ho b hb.1 hw) fun _ _ _=>trivial
   exact .any _
 | bsl h=>exact .any _
 | agg hl h=>cases hf
 | tup hl h=>cases hf
 | clo hl h=>cases hf
section
variable {ρ:Names} {B B':Nat} {w':World} {k kc:Nat} {nm:Nm}
end
section
variable {ρ ρ':Names} {B B':Nat} {w':World}
end
inductive PlainW:AV→Prop
 | pl {X:AV} (h:Plain X):PlainW X
 | box (k o:Nat):PlainW (.box k o)
 | own (k:Nat):PlainW (.own k)
 | agg {cs:List AV} (h:∀ j (hj:j<cs.length),PlainW cs[j]):PlainW (.agg cs)
theorem PlainW.pu {F F' ok:Nat→Prop} {Z:AV} (hp:PlainW Z):∀ {x:Value},Pu F w ok Z x→Pu F' w ok Z x:=by
 induction hp with
 | pl h=>exact fun hx=>hx.plain h
 | box k o=>intro x hx;cases hx
 | own k=>intro x hx;cases hx
 | agg h ih=>intro x hx;cases hx with | agg hl hc=>exact .agg hl fun j hj=>ih j hj (hc j hj)
section
variable {ρ:Names} {B:Nat} {w:World} {rd:List (Nat × ABlk)} {k kc:Nat} {nm:Nm}
end
section
variable {P:Program} {o:Oper}
end
structure One (w0:Wb) (g:Nat):Prop where
 H:∀ b,w0.H b→b=g
 N:w0.N hand=some (.at g 0 0)
def two (k:Nat) (nm:Nm) (g:Nat):Names:=⟨fun j=>if j=k then some nm else if j=hand then some (.at g 0 0) else none,fun b=>b=g⟩
section
variable {ρ:Names} {k0 k g:Nat} {nm:Nm}
end
section
variable {ρ ρ':Names} {B B':Nat} {w:World} {k0 k:Nat} {nm:Nm}
end
section
variable {P:Program} {w0:Wb} {h:AHeap} {t:ATm}
end
section
variable {P:Program} {o:Oper}
def AV.rdB:AV→Bool
 | .v _=>true
 | .sl _ _ _=>true
 | .el _ _=>true
 | .fr _=>true
 | .old _ _=>true
 | .any=>true
 | _=>false
theorem Rel.rd (h:Rel ρ B w X x) (hr:X.rdB=true):Pu (B ≤ ·) w (okOf ρ) X x:=by
 cases h with
 | pu h=>exact h
 | _=>cases hr
variable {T:TypeId}
theorem sp_boxR (x:Operand) (ho:o.op = .box T x) (hc:X.cellsOf.all AV.cell=true) (hp:X.cellsOf.all AV.rdB=true):ASpec P J o [(x,X)] [] (.el X.cellsOf 0) .no:=by
 intro ρ B a w K Q hwf hB _ ha hr hn hk
 have h:=ha (x,X) (by simp)
 obtain ⟨h1,h2,h3⟩:=h.cells hc
 unfold Oper.wp
 rw [show (execOp a.eval o).run P w = .ok (.value (.pointer (some ⟨w.heap.size,0,none⟩))) (w.alloc (.cells (a.eval x).cells T)) by
  simp only [execOp,ho]
  exact Zw (by simp [Instr.box,newVar,newRow])]
 have hok:∀ b,okOf ρ b→b<w.heap.size→okOf ρ b∧b<(w.alloc (.cells (a.eval x).cells T)).heap.size∧(w.alloc (.cells (a.eval x).cells T)).heap[b]? = w.heap[b]? := fun b hb hw=>⟨hb,by simp;omega,heap_alloc_old w _ hw⟩
 refine hk ρ _ _ ⟨rfl,rfl,rfl,rfl,by simp,fun b hb _=>heap_alloc_old w _ hb,fun _ _ _=>rfl,(fun _ _ h=>by cases h),(fun _ _ h=>by cases h),.pu (.el (b:=w.heap.size) (off:=0) (f:=fun j=>(a.eval x).cells.getD j undef) (fun j c n hj=>by have:=(hwf.lo _ _ _ _ hj).2;omega) (by simp) (fun j hj => ?_) fun j hj => ?_),fun _ _ h=>nomatch h⟩
 ·have hj':j<(a.eval x).cells.size:=by rw [h1];exact hj
  rw [Nat.zero_add,Zv (heap_alloc_new w _) j (v:=(a.eval x).cells.getD j undef) (by simp [Array.getD,hj'])]
 exact ((h3 j hj).rd (List.all_eq_true.1 hp _ (List.getElem_mem hj))).mono hok fun _ _ h=>h
end
section
variable {P:Program} {w0:Wb} {o:Oper} {ops:Array Oper} {rest:List Oper} {Q:Exit→Act→World→Prop}
def AV.flatA:AV→Bool
 | .agg cs=>cs.all AV.flat1
 | .tup _=>false
 | .clo _ _=>false
 | _=>true
theorem Rel.apart {ok:Nat→Prop} (ho:∀ b,okOf ρ b→b<w.heap.size→ok b) (h:Rel ρ B w X x) (hf:X.flatA=true):Pu (fun _=>True) w ok (X.view []) x:=by
 cases X with
 | agg cs =>
   obtain ⟨vs,rfl,hl,hc⟩:=h.agg_inv
   exact .agg (by simpa using hl) fun j hj=>by
    rw [List.getElem_map]
    exact (hc j (by simpa using hj)).viewG (rd:=[]) ho (fun _ h=>by cases h) (fun _ h=>by cases h) (List.all_eq_true.1 hf _ (List.getElem_mem _))
 | tup cs=>cases hf
 | clo f cs=>cases hf
 | _=>exact h.viewG (rd:=[]) ho (fun _ h=>by cases h) (fun _ h=>by cases h) rfl
end
section
variable {P:Program} {o:Oper}
end
section
variable {P:Program} {w0:Wb} {h:AHeap} {t:ATm}
end
def clear (G:Nat→Option Nm) (b:Nat):Prop:=∀ i c n,G i≠some (.at b c n)
def InjG (G:Nat→Option Nm):Prop:=∀ i j b c d m n,G i=some (.at b c m)→G j=some (.at b d n)→i=j
def CtrA (P:Program) (J:World→Prop) (f:FuncId) (args:List AV) (u:AV):Prop :=
 ∀ (w:World) (vs:Array Value) (G:Nat→Option Nm),(∀ w',Below w.heap.size w w'→J w')→vs.size=args.length→InjG G→(∀ i b c n,G i=some (.at b c n)→b<w.heap.size) →
  (∀ j (hj:j<args.length),Pu (fun _=>True) w (fun b=>b<w.heap.size∧clear G b) args[j] (vs.getD j undef)) →
  Calls P f vs w fun e w'=>∃ v,e = .returned v∧Pu (fun _=>False) w' (clear G) u v∧Below w.heap.size w w'
def farN (N:Nat→Option Nm) (b:Nat):Prop:=∀ k c n,far≤k→N k≠some (.at b c n)
def RetA (w0:Wb) (u:AV) (e:Ending) (w':World):Prop:=∃ v,e = .returned v∧Pu (fun _=>False) w' (farN w0.N) u v∧Bel w0 w'
theorem Rel.viewCG {rd:List (Nat × ABlk)} {ok:Nat→Prop} (hwf:WF ρ B w) (ho:∀ b,okOf ρ b→b<w.heap.size→ok b) (hr:∀ p∈rd,∃ nm,ρ p.1=some nm∧BlkR ρ w B nm p.2) (hn:∀ p∈rd,∀ b c n,ρ p.1=some (.at b c n)→ok b) (h:Rel ρ B w X x) (hf:X.flat1=true):Pu (fun _=>True) w ok (X.viewC rd) x:=by
 cases X with
 | box k o =>
   simp only [AV.viewC]
   obtain ⟨b,c,n,h1,rfl⟩:=h.box_inv
   split
   ·rename_i q T cs hq
    have hm:=List.mem_of_find?_eq_some hq
    obtain ⟨nm',h1',b',c',n',vs,e,hg,hvs,hrel⟩:=hr _ hm
    have hqk:q=k:=by have:=List.find?_some hq;simpa using this
    have hn':=hn _ hm
    rw [hqk,h1] at h1'
    cases h1';cases e
    split
    ·rename_i hfl
     have:=Pu.el (F:=fun _=>True) (w:=w) (ok:=ok) (b:=b) (off:=0) (o:=o) (cs:=cs.map (AV.view1 rd)) (f:=fun j=>vs.getD j undef) (hn' b c n (by rw [hqk];exact h1)) (hwf.lo _ _ _ _ h1).2 (fun j hj => ?_) fun j hj => ?_
     ·simpa using this
     ·have hj':j<vs.size:=by rw [hvs];simpa using hj
      rw [Nat.zero_add,Zv hg j (v:=vs.getD j undef) (by simp [Array.getD,hj'])]
     rw [List.getElem_map]
     exact (hrel j (by simpa using hj)).viewG ho hr hn (List.all_eq_true.1 hfl _ (List.getElem_mem _))
    exact .any _
   exact .any _
 | agg cs=>cases hf
 | tup cs=>cases hf
 | clo f cs=>cases hf
 | v y=>exact h.viewG ho hr hn rfl
 | own k=>exact h.viewG ho hr hn rfl
 | sl z n cs=>exact h.viewG ho hr hn rfl
 | el cs o=>exact h.viewG ho hr hn rfl
 | fr X=>exact h.viewG ho hr hn rfl
 | any=>exact h.viewG ho hr hn rfl
 | old n X=>exact h.viewG ho hr hn rfl
 | bsl k o m=>exact h.viewG ho hr hn rfl
def AV.viewA (rd:List (Nat × ABlk)):AV→AV
 | .agg cs => .agg (cs.map (AV.view1 rd))
 | X=>X.viewC rd
theorem Rel.viewA {ρ:Names} {B:Nat} {w:World} {rd:List (Nat × ABlk)} {ok:Nat→Prop} (hwf:WF ρ B w) (ho:∀ b,okOf ρ b→b<w.heap.size→ok b) (hr:∀ p∈rd,∃ nm,ρ p.1=some nm∧BlkR ρ w B nm p.2) (hn:∀ p∈rd,∀ b c n,ρ p.1=some (.at b c n)→ok b) {X:AV} {x:Value} (h:Rel ρ B w X x) (hf:X.flatA=true):Pu (fun _=>True) w ok (X.viewA rd) x:=by
 cases X with
 | agg cs =>
   obtain ⟨vs,rfl,hl,hc⟩:=h.agg_inv
   exact .agg (by simpa using hl) fun j hj=>by
    rw [List.getElem_map]
    exact (hc j (by simpa using hj)).viewG ho hr hn (List.all_eq_true.1 hf _ (List.getElem_mem _))
 | tup cs=>cases hf
 | clo f cs=>cases hf
 | _=>exact h.viewCG hwf ho hr hn rfl
section
variable {P:Program} {w0:Wb} {h:AHeap} {t:ATm}
variable {a:Act}
theorem Sat.outA (s:Sat J w0 ρ h t a w) {rd:List (Nat × ABlk)} (hrd:rd.map (fun p=>h p.1)=rd.map (fun p=>some p.2)) (hlo:rd.all (fun p=>Nat.blt p.1 far)=true) (hr:Rel ρ w0.heap.size w X x) (hf:X.flatA=true) (hp:Plain (X.viewA rd)):Pu (fun _=>False) w (farN w0.N) (X.viewA rd) x:=by
 refine (hr.viewA (ok:=farN w0.N) s.wf (fun b hb _ k c n hk e=>hb k c n ((s.pin k (Nat.le_trans (by decide) hk)).trans e)) (fun p hp=>s.hp _ _ (List.map_inj_left.1 hrd p hp)) (fun p hp b c n hb k c' n' hk e => ?_) hf).plain hp
 have:=s.wf.inj _ _ _ _ _ _ _ hb ((s.pin k (Nat.le_trans (by decide) hk)).trans e)
 have h2:=List.all_eq_true.1 hlo p hp
 rw [Nat.blt_eq] at h2
 omega
variable {u:AV}
theorem Y4 {fn:Func} {r:ResultVar} (rd:List (Nat × ABlk)) (hr:fn.results = #[r]) (h1:ResV P h t r X) (hrd:rd.map (fun p=>h p.1)=rd.map (fun p=>some p.2)) (hlo:rd.all (fun p=>Nat.blt p.1 far)=true) (hf:X.flatA=true) (hp:Plain (X.viewA rd)) (hu:X.viewA rd=u):ETri J w0 h t (bodyPost P fn (RetA w0 u) .ret):=fun ρ a w s=>by
 subst hu
 obtain ⟨v,g1,g2⟩:=Zbn s h1
 refine ⟨s.df,v,?_,v,rfl,s.outA hrd hlo g2 hf hp,s.bel⟩
 unfold results
 rw [hr,Sem.run_bind,mapM_one (v:=v) (by cases r<;>exact g1)]
 rfl
def farG (G:Nat→Option Nm):Nat→Option Nm:=fun k=>if far≤k then G (k-far) else none
theorem Zas {G:Nat→Option Nm} {x:Nm} (h:farG G k=some x):far≤k∧G (k-far)=some x:=by
 unfold farG at h
 split at h
 ·rename_i e;exact ⟨e,h⟩
 cases h
theorem farG_clear {G:Nat→Option Nm} {b:Nat}:farN (farG G) b↔clear G b:=by
 constructor
 ·intro h i c n e
  refine h (i+far) c n (by omega) ?_
  unfold farG
  rw [if_pos (by omega),Nat.add_sub_cancel];exact e
 intro h k c n hk e
 exact h _ c n (Zas e).2
variable {f:FuncId}{args:List AV}
theorem Zc9 {fn:Func} {c:Code} (hf:P.funcs[f]? = some fn) (hb:fn.body=some c) (hpl:∀ X∈args,Plain X) (hnt:fn.ntmps=n) (hna:args.length≤n)
 (H:∀ w0,ETri J w0 (ofL []) (ofT n ((List.range args.length).zip args)) (c.wp P (bodyPost P fn (RetA w0 u)))):CtrA P J f args u:=fun w vs G hJ hl hi hw hv=>by
 refine (calls_of_wp hf hb (H ⟨w,fun _=>False,farG G⟩ ⟨farG G,fun _=>False⟩ _ w ⟨⟨fun j k b c d m n hj hk => ?_,fun k b c n hk => ?_⟩,rfl,Bel.refl _,(fun w' h=>hJ w' (h.below fun _ h=>h)),(fun _ _ h=>by cases h),fun k hk _=>if_neg (by have:=WY;omega),fun _ _=>rfl,by simp [hl,hnt,ofT];omega,fun i hi => ?_,rfl,fun _ _=>rfl⟩)).mono fun e w' ⟨v,q1,q2,q3⟩=>⟨v,q1,q2.weak fun b hb=>farG_clear.1 hb,q3.below fun _ h=>h⟩
 ·obtain ⟨h1,h2⟩:=Zas hj
  obtain ⟨h3,h4⟩:=Zas hk
  have:=hi _ _ _ _ _ _ _ h2 h4
  omega
 ·obtain ⟨h1,h2⟩:=Zas hk
  exact ⟨.inr (.inr h1),hw _ _ _ _ h2⟩
 simp only [ofT]
 cases hf:((List.range args.length).zip args).find? fun p=>p.1==i with
 | none=>exact .anyR
 | some p =>
   have hm:=List.mem_of_find?_eq_some hf
   have hk':p.1=i:=by have:=List.find?_some hf;simpa using this
   obtain ⟨j,hj,e⟩:=List.getElem_of_mem hm
   simp only [List.getElem_zip,List.getElem_range] at e
   subst e
   dsimp only at hk'
   subst hk'
   have hj1:j<args.length:=by simp at hj;omega
   simp only [Option.map_some,Option.getD_some]
   have:=(hv j hj1).plain (F':=(w.heap.size ≤ ·)) (hpl _ (List.getElem_mem hj1))
   have hj2:j<vs.size:=by omega
   have e:(vs++Array.replicate (fn.ntmps-vs.size) undef).getD j undef=vs.getD j undef:=by simp [Array.getD,hj2,Array.getElem_append_left hj2];omega
   rw [e]
   exact .pu (this.weak fun b hb k c n hk=>hb.2 _ c n (Zas hk).2)
end
section
variable {P:Program} {o:Oper}
variable {f:FuncId}{u:AV}
theorem sp_callA {c:Operand} {xs:Array Operand} {ats:Array TypeId} {Xs Ys:List AV} (hC:CtrA P J f Ys u) (ho:o.op = .call { callee := .value c,args:=xs,argTypes:=ats })
 (hf : (P.funcs[f]?).map (fun fn => (fn.name == "runtime.NumGoroutine") || fn.body.isNone) = some false) (hl : xs.size = Xs.length) (hv : Xs.map (AV.view []) = Ys) (hfl : Xs.all AV.flatA = true) :
 ASpec P J o ((c,.v (.func (.func f) #[] #[]))::xs.toList.zip Xs) [] u .no:=by
 subst hv
 intro ρ B a w K Q hwf hB hJ ha hr _ hk
 refine ZbM ho (ha (c,.v (.func (.func f) #[] #[])) (by simp)).v_inv hf ?_
 rw [Array.append_empty]
 refine (hC w (xs.map a.eval) ρ.f (fun w' h=>hJ w' (WS h)) (by simpa using hl) (fun i j b c d m n h1 h2=>hwf.inj _ _ _ _ _ _ _ h1 h2) (fun i b c n h=>(hwf.lo _ _ _ _ h).2) fun j hj => ?_).mono fun e w' ⟨v,he,hp,hb⟩=>⟨v,he,hk ρ w' v ⟨rfl,hb.os,hb.tape,hb.output,hb.size,fun b hb' _=>hb.block b hb',fun _ _ _=>rfl,(fun _ _ h=>by cases h),(fun _ _ h=>by cases h),.pu (hp.mono (fun b hb' hw=>⟨hb',hw,rfl⟩) fun b _ h=>h.elim),fun _ _ h=>nomatch h⟩⟩
 have hj1:j<Xs.length:=by simpa using hj
 have hj2:j<xs.size:=by omega
 rw [List.getElem_map]
 have hm:(xs[j],Xs[j])∈(c,AV.v (.func (.func f) #[] #[]))::xs.toList.zip Xs:=by
  refine List.mem_cons_of_mem _ ?_
  rw [List.mem_iff_getElem]
  exact ⟨j,by simp;omega,by simp⟩
 have:=(ha _ hm).apart (ok:=fun b=>b<w.heap.size∧clear ρ.f b) (fun b hb hw=>⟨hw,hb⟩) (List.all_eq_true.1 hfl _ (List.getElem_mem hj1))
 simpa [Array.getD,hj2] using this
end
section
variable {P:Program} {o:Oper}
variable {off:Nat}
theorem sp_nilBox (x:Operand) (ho:o.op = .nilCheck x):ASpec P J o [(x,.box k off)] [] (.box k off) .no :=
 ZF fun ρ B a w _ ha _=>by
  obtain ⟨b,c,n,h1,h2⟩:=(ha (x,.box k off) (by simp)).box_inv
  refine ⟨_,?_,.box (o:=off) h1⟩
  simp only [execOp,ho,h2]
  simp
variable {cs:List AV}
theorem sp_nilEl (x:Operand) (ho:o.op = .nilCheck x):ASpec P J o [(x,.el cs off)] [] (.el cs off) .no :=
 ZF fun ρ B a w _ ha _=>by
  have h:=ha (x,.el cs off) (by simp)
  have key:∀ v:Value,Rel ρ B w (.el cs off) v→∃ b j,v = .pointer (some ⟨b,j,none⟩):=fun v h=>by
   cases h with
   | pu h=>cases h with | el hb hw hf h=>exact ⟨_,_,rfl⟩
  have h2:=key _ h
  obtain ⟨b,j,h2⟩:=h2
  refine ⟨a.eval x,?_,h⟩
  simp only [execOp,ho,h2]
  simp
end
section
variable {P:Program} {o:Oper}
end
end Go.Proofs.YthefecaefbeidaaGreat
