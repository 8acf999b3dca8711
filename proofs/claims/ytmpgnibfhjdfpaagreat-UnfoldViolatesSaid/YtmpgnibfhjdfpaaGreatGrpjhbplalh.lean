import Derived.Deep.Quiet
import Derived.StillTail
import Derived.BigQuiet
import Derived.Test.YtmpgnibfhjdfpaaGreatProg
import Derived.ChangeArms
import Derived.ChangeMaps5
import Derived.Test.YtmpgnibfhjdfpaaGreatGrpaggajjjj
import Derived.Test.YtmpgnibfhjdfpaaGreatGrpnbibgnod
import Derived.Test.YtmpgnibfhjdfpaaGreatGrphhmpajpk
set_option linter.all false
namespace Go.Proofs.YtmpgnibfhjdfpaaGreat
open Go
section
variable {P:Program} {ops:Array Oper} {md:Region.Mode} {C:World->Prop}
def wpT (P:Program) (md:Region.Mode) (ops:Array Oper) (C:World->Prop) (n:Nat) (L:Array Bool->Act->Prop):Nat->Array Bool->Act->Prop
 | 0,seen,a=>L seen a
 | f+1,seen,a=>Region.ready md ops seen≠[]/\∀ i∈Region.ready md ops seen,i<n/\qOp P ops C i (wpT P md ops C n L f (seen.setIfInBounds i true)) a
variable {n g:Nat}
theorem wpT_any {L:Array Bool->Act->Prop} {Q:Exit->Act->World->Prop} (hL:∀ seen a,L seen a->∀ w,C w->wpAny P md ops Q g seen a w) :
 ∀ (f:Nat) (seen:Array Bool) (a:Act),wpT P md ops C n L f seen a->∀ w,C w->wpAny P md ops Q (f+g) seen a w:=by
 intro f
 induction f with
 | zero=>intro seen a h w hw;rw [Nat.zero_add];exact hL seen a h w hw
 | succ f ih =>
   intro seen a h w hw
   rw [show f+1+g=(f+g)+1 by omega]
   exact ⟨λh0=>absurd h0 h.1,λi hi=>wpOp_of_qOp hw (λa' w' hw' hk=>ih _ a' hk w' hw') (h.2 i hi).2⟩
variable {v:Value}
theorem wpT_take {n i:Nat} {oi:Oper} {L:Array Bool->Act->Prop} (hi:ops[i]? = some oi) (hsel:∀ (j:Nat) (o:Oper) cs b,ops[j]? = some o->o.op ≠ .select cs b)
 (hs:Region.sinkB md ops n=true) (hc:Region.chainB md ops n=true) (hn:n<ops.size) (hin:i<n) (hend:∀ seen a,L seen a->∀ j∈Region.ready md ops seen,n<=j) :
 ∀ (f:Nat) (seen:Array Bool) (a:Act),HeadInv md ops n seen ->
  (∀ j oj,ops[j]? = some oj->j≠i->seen.getD j true=false->(∀ e∈oj.after,Region.binds md e=true->e.on≠i)->oi.apart ops oj=true) ->
  i∈Region.ready md ops seen->YieldsIn P ops C oi v a->wpT P md ops C n L f (seen.setIfInBounds i true) (a.put oi.dst v)->wpT P md ops C n L (f+1) seen a:=by
 intro f
 induction f with
 | zero =>
   intro seen a inv hfree hr hy H
   have hun:=(mem_ready.1 hr).1
   refine ⟨List.ne_nil_of_mem hr,λj hj => ?_⟩
   have hjn:j<n:=Nat.lt_of_not_le λh=>tail_waits hs hc hn inv _ i rfl hin hun j h hj
   refine ⟨hjn,?_⟩
   by_cases hji:j=i
   ·subst hji;exact hy.qOp hi H
   have h1:=hend _ _ H j (ready_mono hj hji)
   omega
 | succ f ih =>
   intro seen a inv hfree hr hy H
   have hun:=(mem_ready.1 hr).1
   refine ⟨List.ne_nil_of_mem hr,λj hj => ?_⟩
   have hjn:j<n:=Nat.lt_of_not_le λh=>tail_waits hs hc hn inv _ i rfl hin hun j h hj
   refine ⟨hjn,?_⟩
   by_cases hji:j=i
   ·subst hji;exact hy.qOp hi H
   obtain ⟨hjun,oj,hoj,hall⟩:=mem_ready.1 hj
   have hno:∀ e∈oj.after,Region.binds md e=true->e.on≠i:=λe he hb heq=>by
    have h0:=hall e he hb
    rw [heq,getD_both hun] at h0
    cases h0
   have h1:=qOp_put hoj (hfree j oj hoj hji hjun hno) (λcs b=>hsel i oi cs b hi) (λcs b=>hsel j oj cs b hoj) hy (H.2 j (ready_mono hj hji)).2
   refine qOp_mono (λa' h2=>ih (seen.setIfInBounds j true) a' (inv.set hj hjn) (λk ok hk hki hunk hnk=>hfree k ok hk hki ?_ hnk) (ready_mono hr (Ne.symm hji)) h2.1 ?_) h1
   ·by_cases hjk:j=k
    ·subst hjk;exact hjun
    rwa [getD_set_ne true hjk] at hunk
   rw [Array.setIfInBounds_comm _ _ hji];exact h2.2
theorem wpT_lex {n g:Nat} {Lq:Act->Prop} (hsel:Region.noSelect ops=true) (hs:Region.sinkB md ops n=true) (hc:Region.chainB md ops n=true) (hn:n<ops.size) :
 ∀ (l:List Oper) (k:Nat) (seen:Array Bool) (a:Act),(∀ j,j<l.length->l[j]? = ops[k+j]?)->k+l.length=n->HeadInv md ops n seen->Region.lexHead md ops g l.length k seen=true ->
 wpQuiet P ops C Lq l a->wpT P md ops C n (λseen' a'=>Region.seqB md ops g n seen'=true/\Lq a') l.length seen a
 | [],k,seen,a,_,hk,_,hB,h=>by
   obtain rfl:k=n:=by simpa using hk
   exact ⟨by simpa [Region.lexHead] using hB,h⟩
 | o::l,k,seen,a,hl,hk,inv,hB,h=>by
   have h0:ops[k]? = some o:=by simpa using (hl 0 (by simp)).symm
   simp only [List.length_cons,Region.lexHead,Bool.and_eq_true] at hB
   have hkn:k<n:=by simp only [List.length_cons] at hk;omega
   have hr:k∈Region.ready md ops seen:=by simpa using hB.1.1
   obtain ⟨v,hy,hK⟩:=yieldsIn_of_qOp h0 (show qOp P ops C k (wpQuiet P ops C Lq l) a by unfold qOp;simp only [h0];exact h)
   exact wpT_take h0 (Region.noSelect_spec hsel) hs hc hn hkn (λseen' a' hL=>seqB_ready hL.1) l.length seen a inv (Region.free_spec h0 hB.1.2) hr hy
    (wpT_lex hsel hs hc hn l (k+1) _ _ (λj hj=>by have:=hl (j+1) (by simp;omega);simpa [Nat.add_assoc,Nat.add_comm 1 j] using this) (by simp only [List.length_cons] at hk;omega) (inv.set hr hkn) hB.2 hK)
variable {w:World}
theorem ZcY {id:Nat} {Q:Exit->Act->World->Prop} {a:Act} {l:List Oper} (n:Nat) (C:World->Prop) (hm:P.follows .mixedOrders=true) (hB:Region.lexTailB .any l.toArray n=true) (hC:C w.drew)
 (h:wpQuiet P l.toArray C (λa'=>∀ w',C w'->wpList P l.toArray Q (l.drop n) a' w') (l.take n) a):(Code.region id l.toArray true).wp P Q a w:=by
 simp only [Region.lexTailB,Bool.and_eq_true,decide_eq_true_eq] at hB
 obtain ⟨⟨⟨⟨hsel,hn⟩,hs⟩,hc⟩,hlex⟩:=hB
 have hn':n<l.length:=by simpa using hn
 have htl:(l.take n).length=n:=by simp;omega
 have hdl:(l.drop n).length=l.toArray.size-n:=by simp
 have inv0:HeadInv .any l.toArray n (Array.replicate l.toArray.size false) :=
  ⟨by simp,λj oj _ hl=>(by rw [getD_replicate_false] at hl;cases hl),λt _ ht=>getD_in (by simpa using ht) (getD_replicate_false _ _)⟩
 have H:=wpT_lex (md := .any) (g:=l.toArray.size-n) hsel hs hc hn (l.take n) 0 _ a (λj hj=>by
  have hj':j<n:=by rw [htl] at hj;exact hj
  simp [hj']) (by simpa using htl) inv0 (by rw [htl];exact hlex) h
 refine wp_region_any hm ?_
 have hA:=wpT_any (Q:=Q) (g:=l.toArray.size-n) (λseen a' hL w' hw'=>by
  have:=wpAny_of_seq (md := .any) (Q':=Q) (l.drop n) n seen a' w' (λj=>by simp [List.getElem?_drop]) (by rw [hdl];exact hL.1) (hL.2 w' hw')
  rwa [hdl] at this) _ _ _ H w.drew hC
 rw [htl,show n+(l.toArray.size-n)=l.toArray.size by omega] at hA
 exact hA
end
section
variable {P:Program} {ops:Array Oper} {C:World->Prop}
theorem WD {Q:Exit->Act->World->Prop}:∀ (l:List Oper) (a:Act) (w:World),C w->wpQuiet P ops C (λa'=>∀ w',C w'->Q .normal a' w') l a->wpList P ops Q l a w
 | [],_,w,hC,h=>h w hC
 | o::l,a,w,hC,h=>by
   refine wpList_step λK hK => ?_
   unfold wpQuiet at h
   split
   ·rename_i hw
    rw [if_pos hw] at h
    exact Oper.wp_of_quiet hC (λa' w' hC' hh=>hK _ _ (WD l a' w' hC' hh)) h
   rename_i hw
   rw [if_neg hw] at h
   exact hK _ _ (WD l _ w hC h)
end
end Go.Proofs.YtmpgnibfhjdfpaaGreat
namespace Go.Proofs.YtmpgnibfhjdfpaaGreat
open Go.RowKit Go.Deep Go.ChangeShapes Go.WideShapes Go.ChangeAt Go.Joins Tryz
theorem ZK:Tryz.prog.cellsOf 3=1:=by kernel_rfl
variable {w:World}{base n:Nat}{held:Bool}{v:Value}
theorem ZG {H:Type} {enc:TypeId × Value->H} {sp:Nat->Bool} {x:DataW H × List MemPlace} (h:DataW.trod enc Tryz.prog w base sp held n 3 [v]=some x):∃ c,v = .int .i64 c/\I64 c:=by
 obtain ⟨c,e1,_,e3⟩:=DataW.trod_int underlying3 h
 simp at e1
 exact ⟨c,e1,I64.of_wf e3⟩
theorem ZcQ:Tryz.prog.cellsOf 32=3:=by kernel_rfl
variable {cs:List Value}
set_option maxRecDepth 100000 in
theorem ZdY {H:Type} {enc:TypeId × Value->H} {sp:Nat->Bool} {x:DataW H × List MemPlace} (h:DataW.trod enc Tryz.prog w base sp held n 32 cs=some x) :
 ∃ c0 c1 c2,cs=[.int .i64 c0,.int .i64 c1,.int .i64 c2]/\I64 c0/\I64 c1/\I64 c2:=by
 obtain ⟨ys,m,_,_,hlen,_,hf⟩:=DataW.trod_struct underlying32 h
 rw [ZcQ] at hlen
 match cs,hlen with
 | [v0,v1,v2],_ =>
   have h0:DataW.trod enc Tryz.prog w base sp held m 3 (([v0,v1,v2].drop 0).take (Tryz.prog.cellsOf 3))=ys[0]? := hf 0 _ rfl
   have h1:DataW.trod enc Tryz.prog w base sp held m 3 (([v0,v1,v2].drop 1).take (Tryz.prog.cellsOf 3))=ys[1]? := hf 1 _ rfl
   have h2:DataW.trod enc Tryz.prog w base sp held m 3 (([v0,v1,v2].drop 2).take (Tryz.prog.cellsOf 3))=ys[2]? := hf 2 _ rfl
   rw [ZK] at h0 h1 h2
   simp only [List.drop_zero,List.take_succ_cons,List.take_zero] at h0
   simp only [List.drop_succ_cons,List.drop_zero,List.take_succ_cons,List.take_zero] at h1 h2
   have hx:∀ i,i<3->∃ y,ys[i]? = some y:=λi hi=>⟨ys[i]'(by simp at *;omega),List.getElem?_eq_getElem _⟩
   obtain ⟨y0,e0⟩:=hx 0 (by omega)
   rw [e0] at h0
   obtain ⟨c0,rfl,q0⟩:=ZG h0
   obtain ⟨y1,e1⟩:=hx 1 (by omega)
   rw [e1] at h1
   obtain ⟨c1,rfl,q1⟩:=ZG h1
   obtain ⟨y2,e2⟩:=hx 2 (by omega)
   rw [e2] at h2
   obtain ⟨c2,rfl,q2⟩:=ZG h2
   exact ⟨c0,c1,c2,rfl,q0,q1,q2⟩
theorem ZeN:Tryz.prog.cellsOf 116=4:=by kernel_rfl
set_option maxRecDepth 100000 in
theorem ZbW {H:Type} {enc:TypeId × Value->H} {sp:Nat->Bool} {x:DataW H × List MemPlace} (h:DataW.trod enc Tryz.prog w base sp held n 116 cs=some x) :
 ∃ c0 c1 c2 c3,cs=[.int .i64 c0,.int .i64 c1,.int .i64 c2,.int .i64 c3]/\I64 c0/\I64 c1/\I64 c2/\I64 c3:=by
 obtain ⟨ys,m,_,_,hlen,_,hf⟩:=DataW.trod_struct underlying116 h
 rw [ZeN] at hlen
 match cs,hlen with
 | [v0,v1,v2,v3],_ =>
   have h0:DataW.trod enc Tryz.prog w base sp held m 3 (([v0,v1,v2,v3].drop 0).take (Tryz.prog.cellsOf 3))=ys[0]? := hf 0 _ rfl
   have h1:DataW.trod enc Tryz.prog w base sp held m 3 (([v0,v1,v2,v3].drop 1).take (Tryz.prog.cellsOf 3))=ys[1]? := hf 1 _ rfl
   have h2:DataW.trod enc Tryz.prog w base sp held m 3 (([v0,v1,v2,v3].drop 2).take (Tryz.prog.cellsOf 3))=ys[2]? := hf 2 _ rfl
   have h3:DataW.trod enc Tryz.prog w base sp held m 3 (([v0,v1,v2,v3].drop 3).take (Tryz.prog.cellsOf 3))=ys[3]? := hf 3 _ rfl
   rw [ZK] at h0 h1 h2 h3
   simp only [List.drop_zero,List.take_succ_cons,List.take_zero] at h0
   simp only [List.drop_succ_cons,List.drop_zero,List.take_succ_cons,List.take_zero] at h1 h2 h3
   have hx:∀ i,i<4->∃ y,ys[i]? = some y:=λi hi=>⟨ys[i]'(by simp at *;omega),List.getElem?_eq_getElem _⟩
   obtain ⟨y0,e0⟩:=hx 0 (by omega)
   rw [e0] at h0
   obtain ⟨c0,rfl,q0⟩:=ZG h0
   obtain ⟨y1,e1⟩:=hx 1 (by omega)
   rw [e1] at h1
   obtain ⟨c1,rfl,q1⟩:=ZG h1
   obtain ⟨y2,e2⟩:=hx 2 (by omega)
   rw [e2] at h2
   obtain ⟨c2,rfl,q2⟩:=ZG h2
   obtain ⟨y3,e3⟩:=hx 3 (by omega)
   rw [e3] at h3
   obtain ⟨c3,rfl,q3⟩:=ZG h3
   exact ⟨c0,c1,c2,c3,rfl,q0,q1,q2,q3⟩
set_option maxHeartbeats 12800000
theorem Kg:Tryz.prog.cellsOf 9=1:=by kernel_rfl
theorem YF:Tryz.prog.cellsOf 24=1:=by kernel_rfl
theorem cells_ths:Tryz.prog.cellsOf 77=1:=by kernel_rfl
theorem ZaU:Tryz.prog.cellsOf 22=1:=by kernel_rfl
theorem cells_lns:Tryz.prog.cellsOf 23=1:=by kernel_rfl
theorem cells_rus:Tryz.prog.cellsOf 25=1:=by kernel_rfl
theorem cells_lnE:Tryz.prog.cellsOf 116=4:=by kernel_rfl
theorem ZeI:Tryz.prog.cellsOf 118=6:=by kernel_rfl
theorem ZeL:Tryz.prog.cellsOf 79=18:=by kernel_rfl
theorem ZcS:Tryz.prog.cellsOf 27=10:=by kernel_rfl
section
variable {H:Type} {enc:TypeId × Value->H} {w:World} {base:Nat} {sp:Nat->Bool} {held:Bool}
theorem KN {x:DataW H × List MemPlace} (h:DataW.trod enc Tryz.prog w base sp held n 9 cs=some x):∃ s,StrEl 0 w cs s:=by
 obtain ⟨s,hs,_,hn⟩:=DataW.trod_string underlying9 h
 exact ⟨s,hs,hn⟩
set_option maxRecDepth 100000 in
theorem th_of_trod {x:DataW H × List MemPlace} (h:DataW.trod enc Tryz.prog w base sp held n 118 cs=some x):∃ g,ThEl 0 w cs g:=by
 obtain ⟨ys,m,_,_,hlen,_,hf⟩:=DataW.trod_struct underlying118 h
 rw [ZeI] at hlen
 match cs,hlen with
 | [v0,v1,v2,v3,v4,v5],_ =>
   have h0:DataW.trod enc Tryz.prog w base sp held m 3 (([v0,v1,v2,v3,v4,v5].drop 0).take (Tryz.prog.cellsOf 3))=ys[0]? := hf 0 _ rfl
   have h1:DataW.trod enc Tryz.prog w base sp held m 3 (([v0,v1,v2,v3,v4,v5].drop 1).take (Tryz.prog.cellsOf 3))=ys[1]? := hf 1 _ rfl
   have h2:DataW.trod enc Tryz.prog w base sp held m 116 (([v0,v1,v2,v3,v4,v5].drop 2).take (Tryz.prog.cellsOf 116))=ys[2]? := hf 2 _ rfl
   rw [ZK] at h0 h1
   rw [ZeN] at h2
   simp only [List.drop_zero,List.take_succ_cons,List.take_zero] at h0
   simp only [List.drop_succ_cons,List.drop_zero,List.take_succ_cons,List.take_zero] at h1 h2
   have hx:∀ i,i<3->∃ y,ys[i]? = some y:=λi hi=>⟨ys[i]'(by simp at *;omega),List.getElem?_eq_getElem _⟩
   obtain ⟨y0,e0⟩:=hx 0 (by omega)
   rw [e0] at h0
   obtain ⟨y1,e1⟩:=hx 1 (by omega)
   rw [e1] at h1
   obtain ⟨y2,e2⟩:=hx 2 (by omega)
   rw [e2] at h2
   obtain ⟨a,rfl,ha⟩:=ZG h0
   obtain ⟨b,rfl,hb⟩:=ZG h1
   obtain ⟨c0,c1,c2,c3,e,q⟩:=ZbW h2
   simp only [List.cons.injEq,and_true] at e
   obtain ⟨rfl,rfl,rfl,rfl⟩:=e
   exact ⟨⟨a,b,⟨c0,c1,c2,c3⟩⟩,rfl,ha,hb,q⟩
theorem ln_of_trod {x:DataW H × List MemPlace} (h:DataW.trod enc Tryz.prog w base sp held n 116 cs=some x):∃ l,LnEl 0 w cs l:=by
 obtain ⟨c0,c1,c2,c3,e,q⟩:=ZbW h
 exact ⟨⟨c0,c1,c2,c3⟩,e,q⟩
set_option maxRecDepth 100000 in
theorem ru_of_trod {x:DataW H × List MemPlace} (h:DataW.trod enc Tryz.prog w base sp held n 79 cs=some x):∃ r,RuEl 0 w cs r:=by
 obtain ⟨ys,m,_,_,hlen,_,hf⟩:=DataW.trod_struct underlying79 h
 rw [ZeL] at hlen
 match cs,hlen with
 | [v0,v1,v2,v3,v4,v5,v6,v7,v8,v9,v10,v11,v12,v13,v14,v15,v16,v17],_ =>
   have h0:DataW.trod enc Tryz.prog w base sp held m 9 (([v0,v1,v2,v3,v4,v5,v6,v7,v8,v9,v10,v11,v12,v13,v14,v15,v16,v17].drop 0).take (Tryz.prog.cellsOf 9))=ys[0]? := hf 0 _ rfl
   rw [Kg] at h0
   have h1:DataW.trod enc Tryz.prog w base sp held m 3 (([v0,v1,v2,v3,v4,v5,v6,v7,v8,v9,v10,v11,v12,v13,v14,v15,v16,v17].drop 1).take (Tryz.prog.cellsOf 3))=ys[1]? := hf 1 _ rfl
   rw [ZK] at h1
   have h2:DataW.trod enc Tryz.prog w base sp held m 3 (([v0,v1,v2,v3,v4,v5,v6,v7,v8,v9,v10,v11,v12,v13,v14,v15,v16,v17].drop 2).take (Tryz.prog.cellsOf 3))=ys[2]? := hf 2 _ rfl
   rw [ZK] at h2
   have h3:DataW.trod enc Tryz.prog w base sp held m 3 (([v0,v1,v2,v3,v4,v5,v6,v7,v8,v9,v10,v11,v12,v13,v14,v15,v16,v17].drop 3).take (Tryz.prog.cellsOf 3))=ys[3]? := hf 3 _ rfl
   rw [ZK] at h3
   have h4:DataW.trod enc Tryz.prog w base sp held m 3 (([v0,v1,v2,v3,v4,v5,v6,v7,v8,v9,v10,v11,v12,v13,v14,v15,v16,v17].drop 4).take (Tryz.prog.cellsOf 3))=ys[4]? := hf 4 _ rfl
   rw [ZK] at h4
   have h5:DataW.trod enc Tryz.prog w base sp held m 3 (([v0,v1,v2,v3,v4,v5,v6,v7,v8,v9,v10,v11,v12,v13,v14,v15,v16,v17].drop 5).take (Tryz.prog.cellsOf 3))=ys[5]? := hf 5 _ rfl
   rw [ZK] at h5
   have h6:DataW.trod enc Tryz.prog w base sp held m 24 (([v0,v1,v2,v3,v4,v5,v6,v7,v8,v9,v10,v11,v12,v13,v14,v15,v16,v17].drop 6).take (Tryz.prog.cellsOf 24))=ys[6]? := hf 6 _ rfl
   rw [YF] at h6
   have h7:DataW.trod enc Tryz.prog w base sp held m 77 (([v0,v1,v2,v3,v4,v5,v6,v7,v8,v9,v10,v11,v12,v13,v14,v15,v16,v17].drop 7).take (Tryz.prog.cellsOf 77))=ys[7]? := hf 7 _ rfl
   rw [cells_ths] at h7
   have h8:DataW.trod enc Tryz.prog w base sp held m 24 (([v0,v1,v2,v3,v4,v5,v6,v7,v8,v9,v10,v11,v12,v13,v14,v15,v16,v17].drop 8).take (Tryz.prog.cellsOf 24))=ys[8]? := hf 8 _ rfl
   rw [YF] at h8
   have h9:DataW.trod enc Tryz.prog w base sp held m 24 (([v0,v1,v2,v3,v4,v5,v6,v7,v8,v9,v10,v11,v12,v13,v14,v15,v16,v17].drop 9).take (Tryz.prog.cellsOf 24))=ys[9]? := hf 9 _ rfl
   rw [YF] at h9
   have h10:DataW.trod enc Tryz.prog w base sp held m 3 (([v0,v1,v2,v3,v4,v5,v6,v7,v8,v9,v10,v11,v12,v13,v14,v15,v16,v17].drop 10).take (Tryz.prog.cellsOf 3))=ys[10]? := hf 10 _ rfl
   rw [ZK] at h10
   have h11:DataW.trod enc Tryz.prog w base sp held m 3 (([v0,v1,v2,v3,v4,v5,v6,v7,v8,v9,v10,v11,v12,v13,v14,v15,v16,v17].drop 11).take (Tryz.prog.cellsOf 3))=ys[11]? := hf 11 _ rfl
   rw [ZK] at h11
   have h12:DataW.trod enc Tryz.prog w base sp held m 24 (([v0,v1,v2,v3,v4,v5,v6,v7,v8,v9,v10,v11,v12,v13,v14,v15,v16,v17].drop 12).take (Tryz.prog.cellsOf 24))=ys[12]? := hf 12 _ rfl
   rw [YF] at h12
   have h13:DataW.trod enc Tryz.prog w base sp held m 3 (([v0,v1,v2,v3,v4,v5,v6,v7,v8,v9,v10,v11,v12,v13,v14,v15,v16,v17].drop 13).take (Tryz.prog.cellsOf 3))=ys[13]? := hf 13 _ rfl
   rw [ZK] at h13
   have h14:DataW.trod enc Tryz.prog w base sp held m 24 (([v0,v1,v2,v3,v4,v5,v6,v7,v8,v9,v10,v11,v12,v13,v14,v15,v16,v17].drop 14).take (Tryz.prog.cellsOf 24))=ys[14]? := hf 14 _ rfl
   rw [YF] at h14
   have h15:DataW.trod enc Tryz.prog w base sp held m 24 (([v0,v1,v2,v3,v4,v5,v6,v7,v8,v9,v10,v11,v12,v13,v14,v15,v16,v17].drop 15).take (Tryz.prog.cellsOf 24))=ys[15]? := hf 15 _ rfl
   rw [YF] at h15
   have h16:DataW.trod enc Tryz.prog w base sp held m 24 (([v0,v1,v2,v3,v4,v5,v6,v7,v8,v9,v10,v11,v12,v13,v14,v15,v16,v17].drop 16).take (Tryz.prog.cellsOf 24))=ys[16]? := hf 16 _ rfl
   rw [YF] at h16
   have h17:DataW.trod enc Tryz.prog w base sp held m 3 (([v0,v1,v2,v3,v4,v5,v6,v7,v8,v9,v10,v11,v12,v13,v14,v15,v16,v17].drop 17).take (Tryz.prog.cellsOf 3))=ys[17]? := hf 17 _ rfl
   rw [ZK] at h17
   simp only [List.drop_zero,List.take_succ_cons,List.take_zero] at h0
   simp only [List.drop_succ_cons,List.drop_zero,List.take_succ_cons,List.take_zero] at h1 h2 h3 h4 h5 h6 h7 h8 h9 h10 h11 h12 h13 h14 h15 h16 h17
   have hx:∀ i,i<18->∃ y,ys[i]? = some y:=λi hi=>⟨ys[i]'(by simp at *;omega),List.getElem?_eq_getElem _⟩
   obtain ⟨y0,e0⟩:=hx 0 (by omega)
   rw [e0] at h0
   obtain ⟨x0,r0,q0⟩:=KN (w:=w) h0
   simp only [List.cons.injEq,and_true] at r0
   subst r0
   obtain ⟨y1,e1⟩:=hx 1 (by omega)
   rw [e1] at h1
   obtain ⟨x1,rfl,q1⟩:=ZG h1
   obtain ⟨y2,e2⟩:=hx 2 (by omega)
   rw [e2] at h2
   obtain ⟨x2,rfl,q2⟩:=ZG h2
   obtain ⟨y3,e3⟩:=hx 3 (by omega)
   rw [e3] at h3
   obtain ⟨x3,rfl,q3⟩:=ZG h3
   obtain ⟨y4,e4⟩:=hx 4 (by omega)
   rw [e4] at h4
   obtain ⟨x4,rfl,q4⟩:=ZG h4
   obtain ⟨y5,e5⟩:=hx 5 (by omega)
   rw [e5] at h5
   obtain ⟨x5,rfl,q5⟩:=ZG h5
   obtain ⟨y6,e6⟩:=hx 6 (by omega)
   rw [e6] at h6
   obtain ⟨x6,q6⟩:=ZU underlying24 underlying3 ZK h6
   obtain ⟨y7,e7⟩:=hx 7 (by omega)
   rw [e7] at h7
   obtain ⟨x7,q7⟩:=Y6 underlying77 ZeI (by omega) (λ_ _ _ hh _=>th_of_trod hh) h7
   obtain ⟨y8,e8⟩:=hx 8 (by omega)
   rw [e8] at h8
   obtain ⟨x8,q8⟩:=ZU underlying24 underlying3 ZK h8
   obtain ⟨y9,e9⟩:=hx 9 (by omega)
   rw [e9] at h9
   obtain ⟨x9,q9⟩:=ZU underlying24 underlying3 ZK h9
   obtain ⟨y10,e10⟩:=hx 10 (by omega)
   rw [e10] at h10
   obtain ⟨x10,rfl,q10⟩:=ZG h10
   obtain ⟨y11,e11⟩:=hx 11 (by omega)
   rw [e11] at h11
   obtain ⟨x11,rfl,q11⟩:=ZG h11
   obtain ⟨y12,e12⟩:=hx 12 (by omega)
   rw [e12] at h12
   obtain ⟨x12,q12⟩:=ZU underlying24 underlying3 ZK h12
   obtain ⟨y13,e13⟩:=hx 13 (by omega)
   rw [e13] at h13
   obtain ⟨x13,rfl,q13⟩:=ZG h13
   obtain ⟨y14,e14⟩:=hx 14 (by omega)
   rw [e14] at h14
   obtain ⟨x14,q14⟩:=ZU underlying24 underlying3 ZK h14
   obtain ⟨y15,e15⟩:=hx 15 (by omega)
   rw [e15] at h15
   obtain ⟨x15,q15⟩:=ZU underlying24 underlying3 ZK h15
   obtain ⟨y16,e16⟩:=hx 16 (by omega)
   rw [e16] at h16
   obtain ⟨x16,q16⟩:=ZU underlying24 underlying3 ZK h16
   obtain ⟨y17,e17⟩:=hx 17 (by omega)
   rw [e17] at h17
   obtain ⟨x17,rfl,q17⟩:=ZG h17
   exact ⟨⟨x0,x1,x2,x3,x4,x5,x6,x7,x8,x9,x10,x11,x12,x13,x14,x15,x16,x17⟩,v6,v7,v8,v9,v12,v14,v15,v16,rfl,q0,q1,q2,q3,q4,q5,q6,q7,q8,q9,q10,q11,q12,q13,q14,q15,q16,q17⟩
set_option maxRecDepth 100000 in
theorem Zfq {x:DataW H × List MemPlace} (h:DataW.trod enc Tryz.prog w base sp held n 27 cs=some x):∃ v q,v = .agg cs.toArray/\IsFam 0 w v q:=by
 obtain ⟨ys,m,_,_,hlen,_,hf⟩:=DataW.trod_struct underlying27 h
 rw [ZcS] at hlen
 match cs,hlen with
 | [v0,v1,v2,v3,v4,v5,v6,v7,v8,v9],_ =>
   have h0:DataW.trod enc Tryz.prog w base sp held m 9 (([v0,v1,v2,v3,v4,v5,v6,v7,v8,v9].drop 0).take (Tryz.prog.cellsOf 9))=ys[0]? := hf 0 _ rfl
   rw [Kg] at h0
   have h1:DataW.trod enc Tryz.prog w base sp held m 3 (([v0,v1,v2,v3,v4,v5,v6,v7,v8,v9].drop 1).take (Tryz.prog.cellsOf 3))=ys[1]? := hf 1 _ rfl
   rw [ZK] at h1
   have h2:DataW.trod enc Tryz.prog w base sp held m 22 (([v0,v1,v2,v3,v4,v5,v6,v7,v8,v9].drop 2).take (Tryz.prog.cellsOf 22))=ys[2]? := hf 2 _ rfl
   rw [ZaU] at h2
   have h3:DataW.trod enc Tryz.prog w base sp held m 22 (([v0,v1,v2,v3,v4,v5,v6,v7,v8,v9].drop 3).take (Tryz.prog.cellsOf 22))=ys[3]? := hf 3 _ rfl
   rw [ZaU] at h3
   have h4:DataW.trod enc Tryz.prog w base sp held m 22 (([v0,v1,v2,v3,v4,v5,v6,v7,v8,v9].drop 4).take (Tryz.prog.cellsOf 22))=ys[4]? := hf 4 _ rfl
   rw [ZaU] at h4
   have h5:DataW.trod enc Tryz.prog w base sp held m 3 (([v0,v1,v2,v3,v4,v5,v6,v7,v8,v9].drop 5).take (Tryz.prog.cellsOf 3))=ys[5]? := hf 5 _ rfl
   rw [ZK] at h5
   have h6:DataW.trod enc Tryz.prog w base sp held m 23 (([v0,v1,v2,v3,v4,v5,v6,v7,v8,v9].drop 6).take (Tryz.prog.cellsOf 23))=ys[6]? := hf 6 _ rfl
   rw [cells_lns] at h6
   have h7:DataW.trod enc Tryz.prog w base sp held m 24 (([v0,v1,v2,v3,v4,v5,v6,v7,v8,v9].drop 7).take (Tryz.prog.cellsOf 24))=ys[7]? := hf 7 _ rfl
   rw [YF] at h7
   have h8:DataW.trod enc Tryz.prog w base sp held m 24 (([v0,v1,v2,v3,v4,v5,v6,v7,v8,v9].drop 8).take (Tryz.prog.cellsOf 24))=ys[8]? := hf 8 _ rfl
   rw [YF] at h8
   have h9:DataW.trod enc Tryz.prog w base sp held m 25 (([v0,v1,v2,v3,v4,v5,v6,v7,v8,v9].drop 9).take (Tryz.prog.cellsOf 25))=ys[9]? := hf 9 _ rfl
   rw [cells_rus] at h9
   simp only [List.drop_zero,List.take_succ_cons,List.take_zero] at h0
   simp only [List.drop_succ_cons,List.drop_zero,List.take_succ_cons,List.take_zero] at h1 h2 h3 h4 h5 h6 h7 h8 h9
   have hx:∀ i,i<10->∃ y,ys[i]? = some y:=λi hi=>⟨ys[i]'(by simp at *;omega),List.getElem?_eq_getElem _⟩
   obtain ⟨y0,e0⟩:=hx 0 (by omega)
   rw [e0] at h0
   obtain ⟨x0,r0,q0⟩:=KN (w:=w) h0
   simp only [List.cons.injEq,and_true] at r0
   subst r0
   obtain ⟨y1,e1⟩:=hx 1 (by omega)
   rw [e1] at h1
   obtain ⟨x1,rfl,q1⟩:=ZG h1
   obtain ⟨y2,e2⟩:=hx 2 (by omega)
   rw [e2] at h2
   obtain ⟨x2,q2⟩:=Y6 underlying22 Kg (by omega) (λ_ _ _ hh _=>KN hh) h2
   obtain ⟨y3,e3⟩:=hx 3 (by omega)
   rw [e3] at h3
   obtain ⟨x3,q3⟩:=Y6 underlying22 Kg (by omega) (λ_ _ _ hh _=>KN hh) h3
   obtain ⟨y4,e4⟩:=hx 4 (by omega)
   rw [e4] at h4
   obtain ⟨x4,q4⟩:=Y6 underlying22 Kg (by omega) (λ_ _ _ hh _=>KN hh) h4
   obtain ⟨y5,e5⟩:=hx 5 (by omega)
   rw [e5] at h5
   obtain ⟨x5,rfl,q5⟩:=ZG h5
   obtain ⟨y6,e6⟩:=hx 6 (by omega)
   rw [e6] at h6
   obtain ⟨x6,q6⟩:=Y6 underlying23 cells_lnE (by omega) (λ_ _ _ hh _=>ln_of_trod hh) h6
   obtain ⟨y7,e7⟩:=hx 7 (by omega)
   rw [e7] at h7
   obtain ⟨x7,q7⟩:=ZU underlying24 underlying3 ZK h7
   obtain ⟨y8,e8⟩:=hx 8 (by omega)
   rw [e8] at h8
   obtain ⟨x8,q8⟩:=ZU underlying24 underlying3 ZK h8
   obtain ⟨y9,e9⟩:=hx 9 (by omega)
   rw [e9] at h9
   obtain ⟨x9,q9⟩:=Y6 underlying25 ZeL (by omega) (λ_ _ _ hh _=>ru_of_trod hh) h9
   exact ⟨_,⟨x0,x1,x2,x3,x4,x5,x6,x7,x8,x9⟩,rfl,v2,v3,v4,v6,v7,v8,v9,rfl,q0,q1,q2,q3,q4,q5,q6,q7,q8,q9⟩
end
end Go.Proofs.YtmpgnibfhjdfpaaGreat
namespace Go.Proofs.YtmpgnibfhjdfpaaGreat
open Go.RowKit Go.Deep Tryz
set_option maxHeartbeats 12800000
theorem ZaQ (pos top:Int) (w:World):Calls Tryz.prog 136 #[.int .i64 pos,.int .i64 top] w λe w'=>e = .returned (.int .i64 (posE pos top))/\w=w':=by
 have E:Hid (posE pos top=if inB 0 2 pos=false\/(pos≠0/\top=3) then 1 else 0):=(rfl:posE pos top=_)
 cases h1:inB 0 2 pos with
 | false =>
   have H1:=Lib.hid h1
   clear h1
   go_enter func136,ntmps136
   go_wp2_with (go_at_call 88;refine (Z4 _ _ _ _).mono ?_;rintro e w' ⟨rfl,rfl⟩;rw [H1.out])
   go_ret
   exact ⟨ZA (by have:=H1.out;rw [E.out];simp [this]),rfl⟩
 | true =>
   have H1:=Lib.hid h1
   clear h1
   by_cases h2:pos=0
   ·subst h2
    go_enter func136,ntmps136
    go_wp2_with (go_at_call 88;refine (Z4 _ _ _ _).mono ?_;rintro e w' ⟨rfl,rfl⟩;rw [H1.out])
    go_ret
    exact ⟨ZA (by have:=H1.out;rw [E.out];simp [this]),rfl⟩
   have b2:(pos != 0)=true:=by simpa using h2
   have H2:=Lib.hid h2
   clear h2
   by_cases h3:top=3
   ·subst h3
    go_enter func136,ntmps136
    go_wp2_with (go_at_call 88;refine (Z4 _ _ _ _).mono ?_;rintro e w' ⟨rfl,rfl⟩;rw [H1.out])
    go_ret
    exact ⟨ZA (by have:=H2.out;rw [E.out];simp [this]),rfl⟩
   have b3:(top==3)=false:=by simpa using h3
   have H3:=Lib.hid h3
   clear h3
   go_enter func136,ntmps136
   go_wp2_with (go_at_call 88;refine (Z4 _ _ _ _).mono ?_;rintro e w' ⟨rfl,rfl⟩;rw [H1.out])
   go_ret
   exact ⟨ZA (by have h1:=H1.out;have h3:=H3.out;rw [E.out];simp [h1,h3]),rfl⟩
theorem ZaI (dir top:Int) (w:World):Calls Tryz.prog 137 #[.int .i64 dir,.int .i64 top] w λe w'=>e = .returned (.int .i64 (dirE dir top))/\w=w':=by
 have E:Hid (dirE dir top=if top=4 then (if dir=3\/dir=4 then 0 else 1) else (if dir=1\/dir=2 then 0 else 1)):=(rfl:dirE dir top=_)
 by_cases ht:top=4
 ·subst ht
  by_cases h1:dir=3
  ·subst h1
   go_enter func137,ntmps137
   go_wp2_with fail
   go_ret
   exact ⟨ZA (by rw [E.out];simp),rfl⟩
  have b1:(dir != 3)=true:=by simpa using h1
  have b1':(dir==3)=false:=by simpa using h1
  by_cases h2:dir=4
  ·subst h2
   go_enter func137,ntmps137
   go_wp2_with fail
   go_ret
   exact ⟨ZA (by rw [E.out];simp),rfl⟩
  have b2:(dir != 4)=true:=by simpa using h2
  have H:=Lib.hid (And.intro h1 h2)
  clear h1 h2
  go_enter func137,ntmps137
  go_wp2_with fail
  go_ret
  exact ⟨ZA (by have:=H.out;rw [E.out];simp [this]),rfl⟩
 have bt:(top==4)=false:=by simpa using ht
 have HT:=Lib.hid ht
 clear ht
 by_cases h1:dir=1
 ·subst h1
  go_enter func137,ntmps137
  go_wp2_with fail
  go_ret
  exact ⟨ZA (by have:=HT.out;rw [E.out];simp [this]),rfl⟩
 have b1:(dir != 1)=true:=by simpa using h1
 have b1':(dir==1)=false:=by simpa using h1
 by_cases h2:dir=2
 ·subst h2
  go_enter func137,ntmps137
  go_wp2_with fail
  go_ret
  exact ⟨ZA (by have:=HT.out;rw [E.out];simp [this]),rfl⟩
 have b2:(dir != 2)=true:=by simpa using h2
 have H:=Lib.hid (And.intro h1 h2)
 clear h1 h2
 go_enter func137,ntmps137
 go_wp2_with fail
 go_ret
 exact ⟨ZA (by have:=H.out;have t:=HT.out;rw [E.out];simp [this,t]),rfl⟩
variable {lo:Nat}{w:World}{v:Value}
theorem ZaP {xs:List Int} (n:Nat) (hn:n<=9223372036854775807) (h:IsInts lo w v xs) :
 Calls Tryz.prog 133 #[v,.int .i64 n] w λe w'=>e = .returned (.int .i64 (reE n xs))/\w=w':=by
 obtain ⟨a,cap,rfl,hl,hm,hi,hc⟩:=h
 unfold maxLen at hm
 by_cases hne:xs.length=n
 ·rcases hc with rfl | ⟨b,off,rfl,_,_,hc⟩
  ·obtain rfl:n=0:=by simpa using hne.symm
   go_enter func133,ntmps133
   go_wp2_with fail
   refine wp_loop_rounds 1 ?_
   rw [rounds_succ]
   go_wp2_with fail
   go_ret
   exact ⟨rfl,rfl⟩
  have HC:=Lib.hid hc
  have HE:Hid (reE n xs=if allK n xs xs.length=false then 5 else 0):=by show _=_;unfold reE;rw [if_neg (by simpa using hne)]
  have b1:((xs.length:Int)==(n:Int))=true:=by rw [hne];simp
  have b2:((xs.length:Int) != (n:Int))=false:=by rw [hne];simp
  clear hc hi hne
  go_enter func133,ntmps133
  go_wp2_with fail
  go_loop [13] (λu=>∃ k:Nat,k<=xs.length/\u = .int .i64 k/\allK n xs k=true) (λu=>xs.length-(intOf u).toNat)
  case atStart=>exact ⟨0,Nat.zero_le _,rfl,rfl⟩
  case round =>
   obtain ⟨k,hk,rfl,hs⟩:=hrel
   have HS:=Lib.hid hs
   clear hs
   by_cases hlt:k<xs.length
   ·have g1:=HC.out k hlt
    have ex:xs.getD k 0=xs[k]:=by simp [List.getD,List.getElem?_eq_getElem hlt]
    have HX:=Lib.hid ex
    generalize hX:xs.getD k 0=x at g1 HX
    clear ex hX
    cases hp:ixB n x with
    | true =>
      have HP:=Lib.hid hp
      clear hp
      go_wp2_with (go_at_call 98;refine (Zz x n hn _).mono ?_;rintro e w1 ⟨rfl,rfl⟩;rw [HP.out])
      go_round
      case rel=>exact ⟨k+1,by omega,by go_num,ZaL hlt HS.out (by rw [<- HX.out];exact HP.out)⟩
      case measure=>simp [intOf];omega
    | false =>
      have HP:=Lib.hid hp
      clear hp
      go_wp2_with (go_at_call 98;refine (Zz x n hn _).mono ?_;rintro e w1 ⟨rfl,rfl⟩;rw [HP.out])
      go_ret
      exact ⟨ZA (by rw [HE.out,if_pos (Zfy hlt (by rw [<- HX.out];exact HP.out))]),rfl⟩
   have hke:k=xs.length:=by omega
   have HF:=Lib.hid (show reE n xs=0 by rw [HE.out,if_neg (by rw [<- hke,HS.out];simp)])
   clear hke
   go_wp2_with fail
   go_ret
   exact ⟨ZA (by rw [HF.out]),rfl⟩
 have HE:=Lib.hid (show reE n xs=1 by unfold reE;rw [if_pos hne])
 have b1:((xs.length:Int)==(n:Int))=false:=by rw [beq_eq_false_iff_ne];omega
 have b2:((xs.length:Int) != (n:Int))=true:=by rw [bne,b1];rfl
 clear hne hc hi
 go_enter func133,ntmps133
 go_wp2_with fail
 go_ret
 exact ⟨ZA (by rw [HE.out]),rfl⟩
variable {cs:List Value}{r:Ru}
theorem ZbH (n:Nat) (hn:n<=9223372036854775807) (h:RuEl lo w cs r) :
 Calls Tryz.prog 134 #[.agg cs.toArray,.int .i64 n] w λe w'=>e = .returned (.int .i64 (shE n r.rd r.wr))/\Below w.heap.size w w':=by
 obtain ⟨v6,v7,v8,v9,v12,v14,v15,v16,rfl,_,_,_,_,_,_,_,_,_,_,_,_,_,_,_,_,_,_⟩:=h
 obtain ⟨nm,kind,frm,tt,pf,pt,resp,gz,ex,fa,rd,wr,send,pos,left,right,pz,dir⟩:=r
 dsimp only
 have E:Hid (shE n rd wr=if (rd ≠ -1/\ixB n rd=false)\/(wr ≠ -1/\ixB n wr=false) then 5 else 0):=(rfl:shE n rd wr=_)
 by_cases r0:rd = -1
 ·subst r0
  have R:=Lib.hid (show ¬ ((-1:Int) ≠ -1/\ixB n (-1)=false) by simp)
  by_cases w0:wr = -1
  ·subst w0
   go_enter func134,ntmps134
   go_wp2_with fail
   go_ret
   exact ⟨ZA (by rw [E.out];have t:=R.out;simp),Zm _ _⟩
  have c0:(wr != -1)=true:=by simpa using w0
  have W0:=Lib.hid w0
  clear w0
  cases w1:ixB n wr with
  | true =>
    have W1:=Lib.hid w1
    clear w1
    go_enter func134,ntmps134
    go_wp2_with (first | (go_at_call 98;(with_reducible refine (Zz wr n hn _).mono ?_);rintro e w1 ⟨rfl,rfl⟩;rw [W1.out]))
    go_ret
    exact ⟨ZA (by rw [E.out];have t:=R.out;have t1:=W1.out;simp [t1]),Zm _ _⟩
  | false =>
    have W1:=Lib.hid w1
    clear w1
    go_enter func134,ntmps134
    go_wp2_with (first | (go_at_call 98;(with_reducible refine (Zz wr n hn _).mono ?_);rintro e w1 ⟨rfl,rfl⟩;rw [W1.out]))
    go_ret
    exact ⟨ZA (by rw [E.out];have t:=R.out;have t1:=W1.out;have t2:=W0.out;simp [t1,t2]),Zm _ _⟩
 have b0:(rd != -1)=true:=by simpa using r0
 have R0:=Lib.hid r0
 clear r0
 cases r1:ixB n rd with
 | true =>
   have R1:=Lib.hid r1
   have R:=Lib.hid (show ¬ (rd ≠ -1/\ixB n rd=false) by rw [r1];simp)
   clear r1
   by_cases w0:wr = -1
   ·subst w0
    go_enter func134,ntmps134
    go_wp2_with (go_at_call 98;(with_reducible refine (Zz rd n hn _).mono ?_);rintro e w1 ⟨rfl,rfl⟩;rw [R1.out])
    go_ret
    exact ⟨ZA (by rw [E.out];have t:=R.out;simp [t]),Zm _ _⟩
   have c0:(wr != -1)=true:=by simpa using w0
   have W0:=Lib.hid w0
   clear w0
   cases w1:ixB n wr with
   | true =>
     have W1:=Lib.hid w1
     clear w1
     go_enter func134,ntmps134
     go_wp2_with (first | (go_at_call 98;(with_reducible refine (Zz rd n hn _).mono ?_);rintro e w1 ⟨rfl,rfl⟩;rw [R1.out]) | (go_at_call 98;(with_reducible refine (Zz wr n hn _).mono ?_);rintro e w1 ⟨rfl,rfl⟩;rw [W1.out]))
     go_ret
     exact ⟨ZA (by rw [E.out];have t:=R.out;have t1:=W1.out;simp [t,t1]),Zm _ _⟩
   | false =>
     have W1:=Lib.hid w1
     clear w1
     go_enter func134,ntmps134
     go_wp2_with (first | (go_at_call 98;(with_reducible refine (Zz rd n hn _).mono ?_);rintro e w1 ⟨rfl,rfl⟩;rw [R1.out]) | (go_at_call 98;(with_reducible refine (Zz wr n hn _).mono ?_);rintro e w1 ⟨rfl,rfl⟩;rw [W1.out]))
     go_ret
     exact ⟨ZA (by rw [E.out];have t:=R.out;have t1:=W1.out;have t2:=W0.out;simp [t1,t2]),Zm _ _⟩
 | false =>
   have R1:=Lib.hid r1
   clear r1
   go_enter func134,ntmps134
   go_wp2_with (go_at_call 98;(with_reducible refine (Zz rd n hn _).mono ?_);rintro e w1 ⟨rfl,rfl⟩;rw [R1.out])
   go_ret
   exact ⟨ZA (by rw [E.out];have t:=R0.out;have t1:=R1.out;simp [t,t1]),Zm _ _⟩
theorem ZbC (n:Nat) (hn:n<=9223372036854775807) (h:RuEl lo w cs r) :
 Calls Tryz.prog 122 #[.agg cs.toArray,.int .i64 n] w λe w'=>e = .returned (.bool (stB r n))/\Below w.heap.size w w':=by
 obtain ⟨v6,v7,v8,v9,v12,v14,v15,v16,rfl,_,_,_,_,_,_,_,_,_,_,_,_,_,_,_,_,_,_⟩:=h
 obtain ⟨nm,kind,frm,tt,pf,pt,resp,gz,ex,fa,rd,wr,send,pos,left,right,pz,dir⟩:=r
 dsimp only
 have E:Hid (stB ⟨nm,kind,frm,tt,pf,pt,resp,gz,ex,fa,rd,wr,send,pos,left,right,pz,dir⟩ n=(ixB n frm&&ixB n tt&&ixB n pf&&ixB n pt)):=(rfl:stB _ n=_)
 cases h0:ixB n frm with
 | false =>
   have H0:=Lib.hid h0
   clear h0
   go_enter func122,ntmps122
   go_wp2_with (first | (go_at_call 98;(with_reducible refine (Zz frm n hn _).mono ?_);rintro e w1 ⟨rfl,rfl⟩;rw [H0.out]))
   go_ret
   exact ⟨Zt (by have t0:=H0.out;rw [E.out];simp [t0]),Zm _ _⟩
 | true =>
   have H0:=Lib.hid h0
   clear h0
   cases h1:ixB n tt with
   | false =>
     have H1:=Lib.hid h1
     clear h1
     go_enter func122,ntmps122
     go_wp2_with (first | (go_at_call 98;(with_reducible refine (Zz frm n hn _).mono ?_);rintro e w1 ⟨rfl,rfl⟩;rw [H0.out]) | (go_at_call 98;(with_reducible refine (Zz tt n hn _).mono ?_);rintro e w1 ⟨rfl,rfl⟩;rw [H1.out]))
     go_ret
     exact ⟨Zt (by have t0:=H0.out;have t1:=H1.out;rw [E.out];simp [t0,t1]),Zm _ _⟩
   | true =>
     have H1:=Lib.hid h1
     clear h1
     cases h2:ixB n pf with
     | false =>
       have H2:=Lib.hid h2
       clear h2
       go_enter func122,ntmps122
       go_wp2_with (first | (go_at_call 98;(with_reducible refine (Zz frm n hn _).mono ?_);rintro e w1 ⟨rfl,rfl⟩;rw [H0.out]) | (go_at_call 98;(with_reducible refine (Zz tt n hn _).mono ?_);rintro e w1 ⟨rfl,rfl⟩;rw [H1.out]) | (go_at_call 98;(with_reducible refine (Zz pf n hn _).mono ?_);rintro e w1 ⟨rfl,rfl⟩;rw [H2.out]))
       go_ret
       exact ⟨Zt (by have t0:=H0.out;have t1:=H1.out;have t2:=H2.out;rw [E.out];simp [t0,t1,t2]),Zm _ _⟩
     | true =>
       have H2:=Lib.hid h2
       clear h2
       cases h3:ixB n pt with
       | false =>
         have H3:=Lib.hid h3
         clear h3
         go_enter func122,ntmps122
         go_wp2_with (first | (go_at_call 98;(with_reducible refine (Zz frm n hn _).mono ?_);rintro e w1 ⟨rfl,rfl⟩;rw [H0.out]) | (go_at_call 98;(with_reducible refine (Zz tt n hn _).mono ?_);rintro e w1 ⟨rfl,rfl⟩;rw [H1.out]) | (go_at_call 98;(with_reducible refine (Zz pf n hn _).mono ?_);rintro e w1 ⟨rfl,rfl⟩;rw [H2.out]) | (go_at_call 98;(with_reducible refine (Zz pt n hn _).mono ?_);rintro e w1 ⟨rfl,rfl⟩;rw [H3.out]))
         go_ret
         exact ⟨Zt (by have t0:=H0.out;have t1:=H1.out;have t2:=H2.out;have t3:=H3.out;rw [E.out];simp [t0,t1,t2,t3]),Zm _ _⟩
       | true =>
         have H3:=Lib.hid h3
         clear h3
         go_enter func122,ntmps122
         go_wp2_with (first | (go_at_call 98;(with_reducible refine (Zz frm n hn _).mono ?_);rintro e w1 ⟨rfl,rfl⟩;rw [H0.out]) | (go_at_call 98;(with_reducible refine (Zz tt n hn _).mono ?_);rintro e w1 ⟨rfl,rfl⟩;rw [H1.out]) | (go_at_call 98;(with_reducible refine (Zz pf n hn _).mono ?_);rintro e w1 ⟨rfl,rfl⟩;rw [H2.out]) | (go_at_call 98;(with_reducible refine (Zz pt n hn _).mono ?_);rintro e w1 ⟨rfl,rfl⟩;rw [H3.out]))
         go_ret
         exact ⟨Zt (by have t0:=H0.out;have t1:=H1.out;have t2:=H2.out;have t3:=H3.out;rw [E.out];simp [t0,t1,t2,t3]),Zm _ _⟩
theorem gusE_drop {m:Nat} {gs:List Th} {k:Nat} (h:k<gs.length) (h0:guE m gs[k]=0):gusE m (gs.drop k)=gusE m (gs.drop (k+1)):=by
 rw [List.drop_eq_getElem_cons h,gusE,if_pos h0]
theorem gusE_bad {m:Nat} {gs:List Th} {k:Nat} (h:k<gs.length) (h0:guE m gs[k]≠0):gusE m (gs.drop k)=guE m gs[k]:=by
 rw [List.drop_eq_getElem_cons h,gusE,if_neg h0]
variable {gs:List Th}
theorem ZbZ (n:Nat) (hn:n<=9223372036854775807) (h:IsSl 6 ThEl lo w v gs) :
 Calls Tryz.prog 135 #[v,.int .i64 n] w λe w'=>e = .returned (.int .i64 (guardE n gs))/\Below w.heap.size w w':=by
 have H:=Lib.hid h
 have hbd:=h.bound
 obtain ⟨a,cap,rfl⟩:=h.shape
 clear h
 have E:Hid (guardE n gs=if gusE n gs=0 then (if 2<gs.length then 4 else 0) else gusE n gs):=(rfl:guardE n gs=_)
 go_enter func135,ntmps135
 go_wp2_with fail
 go_loopw [9] (λu wr=>∃ k:Nat,k<=gs.length/\u = .int .i64 k/\gusE n (gs.drop k)=gusE n gs/\Below w.heap.size w wr) (λu _=>gs.length-(intOf u).toNat)
 case atStart=>exact ⟨0,Nat.zero_le _,rfl,rfl,Below.refl _ _⟩
 case round =>
  obtain ⟨k,hk,rfl,hs,hB⟩:=hrel
  have HS:=Lib.hid hs
  have HB:=Lib.hid hB
  by_cases hlt:k<gs.length
  ·obtain ⟨b,off,cs,rfl,_,hbw,_,hc,hg⟩:=H.out.at k hlt
   have HG:=Lib.hid (@gusE_drop n gs k hlt)
   have HG':=Lib.hid (@gusE_bad n gs k hlt)
   generalize hgk:gs[k]'hlt=g at hg HG HG'
   obtain ⟨msg,coef,⟨c,nn,t,f⟩⟩:=g
   obtain ⟨rfl,_⟩:=hg
   have g0:=keep1 (show w.cell? ⟨b,off+k*6,none⟩=some (.int .i64 msg) from hc 0 (by omega)) hB
   have g1:=keep1 (show w.cell? ⟨b,off+k*6+1,none⟩=some (.int .i64 coef) from hc 1 (by omega)) hB
   have g2:=keep1 (show w.cell? ⟨b,off+k*6+2,none⟩=some (.int .i64 c) from hc 2 (by omega)) hB
   have g3:=keep1 (show w.cell? ⟨b,off+k*6+3,none⟩=some (.int .i64 nn) from hc 3 (by omega)) hB
   have g4:=keep1 (show w.cell? ⟨b,off+k*6+4,none⟩=some (.int .i64 t) from hc 4 (by omega)) hB
   have g5:=keep1 (show w.cell? ⟨b,off+k*6+5,none⟩=some (.int .i64 f) from hc 5 (by omega)) hB
   have HE:Hid (guE n ⟨msg,coef,⟨c,nn,t,f⟩⟩=if ixB n msg=false then 5 else if inB 1 100 coef=false then 1 else if smL c nn t f=false then 4 else 0):=(rfl:guE n _=_)
   have hbr:b<wr.heap.size:=ZaV g0
   clear hs hB hc hgk
   cases m1:ixB n msg with
   | false =>
     have M1:=Lib.hid m1
     clear m1
     go_wp2_with (first | (go_at_call 98;(with_reducible refine (Zz msg n hn _).mono ?_);rintro e w1 ⟨rfl,rfl⟩;rw [M1.out]))
     go_ret
     exact ⟨ZA (by have t1:=M1.out;have q:guE n ⟨msg,coef,⟨c,nn,t,f⟩⟩=5:=(by rw [HE.out];simp [t1]);rw [E.out,<- HS.out,HG'.out (by rw [q];omega),q];rfl),Zq HB.out (Zm _ _)⟩
   | true =>
     have M1:=Lib.hid m1
     clear m1
     cases m2:inB 1 100 coef with
     | false =>
       have M2:=Lib.hid m2
       clear m2
       go_wp2_with (first | (go_at_call 98;(with_reducible refine (Zz msg n hn _).mono ?_);rintro e w1 ⟨rfl,rfl⟩;rw [M1.out]) | (go_at_call 88;(with_reducible refine (Z4 coef 1 100 _).mono ?_);rintro e w1 ⟨rfl,rfl⟩;rw [M2.out]))
       go_ret
       exact ⟨ZA (by have t1:=M1.out;have t2:=M2.out;have q:guE n ⟨msg,coef,⟨c,nn,t,f⟩⟩=1:=(by rw [HE.out];simp [t1,t2]);rw [E.out,<- HS.out,HG'.out (by rw [q];omega),q];rfl),Zq HB.out (Zm _ _)⟩
     | true =>
       have M2:=Lib.hid m2
       clear m2
       cases m3:smL c nn t f with
       | false =>
         have M3:=Lib.hid m3
         clear m3
         go_wp2_with (first | (go_at_call 98;(with_reducible refine (Zz msg n hn _).mono ?_);rintro e w1 ⟨rfl,rfl⟩;rw [M1.out]) | (go_at_call 88;(with_reducible refine (Z4 coef 1 100 _).mono ?_);rintro e w1 ⟨rfl,rfl⟩;rw [M2.out]) | (go_at_call 93;(with_reducible refine (YE c nn t f _).mono ?_);rintro e w2 ⟨rfl,hb2⟩;rw [M3.out]))
         go_ret
         exact ⟨ZA (by have t1:=M1.out;have t2:=M2.out;have t3:=M3.out;have q:guE n ⟨msg,coef,⟨c,nn,t,f⟩⟩=4:=(by rw [HE.out];simp [t1,t2,t3]);rw [E.out,<- HS.out,HG'.out (by rw [q];omega),q];rfl),Zq HB.out (Zq (Zm _ _) hb2)⟩
       | true =>
         have M3:=Lib.hid m3
         have HZ:=Lib.hid (show gusE n (gs.drop (k+1))=gusE n gs by rw [<- HS.out];exact (HG.out (by rw [HE.out,M1.out,M2.out,m3];simp)).symm)
         clear m3
         go_wp2_with (first | (go_at_call 98;(with_reducible refine (Zz msg n hn _).mono ?_);rintro e w1 ⟨rfl,rfl⟩;rw [M1.out]) | (go_at_call 88;(with_reducible refine (Z4 coef 1 100 _).mono ?_);rintro e w1 ⟨rfl,rfl⟩;rw [M2.out]) | (go_at_call 93;(with_reducible refine (YE c nn t f _).mono ?_);rintro e w2 ⟨rfl,hb2⟩;rw [M3.out]))
         go_roundw
         case rel=>exact ⟨k+1,by omega,by go_num,HZ.out,Zq HB.out (Zq (Zm _ _) hb2)⟩
         case measure=>simp [intOf];omega
  have HZ:=Lib.hid (show gusE n gs=0 by rw [<- HS.out,List.drop_eq_nil_of_le (by omega)];rfl)
  clear hs hB
  by_cases h2:2<gs.length
  ·have b2:(2:Int)<(gs.length:Int):=by omega
   go_wp2_with fail
   go_ret
   exact ⟨ZA (by rw [E.out,if_pos HZ.out,if_pos h2]),HB.out⟩
  have b2:¬ (2:Int)<(gs.length:Int):=by omega
  go_wp2_with fail
  go_ret
  exact ⟨ZA (by rw [E.out,if_pos HZ.out,if_neg h2]),HB.out⟩
end Go.Proofs.YtmpgnibfhjdfpaaGreat
