import Derived.Test.YtengacodacejiaaGrpflkjneac
import Derived.Test.YtengacodacejiaaGrpjmplmpld
import Derived.Test.YtengacodacejiaaGrpbhpelaab
import Derived.Test.YtengacodacejiaaGrpbfcippca
import Derived.Test.YtengacodacejiaaGrppolgafln
import Derived.Test.YtengacodacejiaaGrpioggncjk
import Derived.Test.YtengacodacejiaaGrpelngjmom
import Derived.Test.YtengacodacejiaaGrpecfdemen
set_option linter.all false
namespace Go.Proofs.Ytengacodacejiaa
open Go.RowKit Go.Deep
variable {J:World→Prop}
theorem lo0 {w:World}:∀ b,b<w.heap.size→0≤b:=fun _ _=>Nat.zero_le _
theorem ZH (n lo hi:Int):Ctr Try.prog J 53 [iv n,iv lo,iv hi] (bv (inB lo hi n)):=ctr3 fun w v v' v'' _ h h' h''=>by
  rw [h.v_inv,h'.v_inv,h''.v_inv];exact (YS n lo hi w).mono fun _ _=>ret_eq
theorem few_c (l:Ln):Ctr Try.prog J 55 [.agg (cLn l)] (bv (smL l.c l.n l.t l.f)):=ctr1 fun w v _ h=>by
  obtain ⟨vs,rfl,hl,hv⟩:=Ka h
  have e:vs=[.int .i64 l.c,.int .i64 l.n,.int .i64 l.t,.int .i64 l.f]:=by
    rw [cells4 hl,(hv 0 (by simp [cLn])).v_inv,(hv 1 (by simp [cLn])).v_inv,(hv 2 (by simp [cLn])).v_inv,(hv 3 (by simp [cLn])).v_inv]
  subst e
  exact (few_any l.c l.n l.t l.f w).mono fun _ _=>ret_sc
theorem YV (s:ByteArray) (hs:s.size≤maxLen):Ctr Try.prog J 52 [sv s] (bv (nameB s.toList)):=ctr1 fun w v _ h=>by
  rw [h.v_inv];exact (rValidName_any s w hs).mono fun _ _=>ret_sc
theorem rSet_c (n:Nat) (hn:n≤9223372036854775807) (xs:List Int) (hx:InOk xs):Ctr Try.prog J 56 [Zd xs,iv n] (iv (setE n xs)):=ctr2 fun w v v' _ h h'=>by
  rw [h'.v_inv];exact (rSet_any n hn (YW hx lo0 h)).mono fun _ _=>ret_sc
theorem qValidate_c {q:Fm} (hq:FmOk q):Ctr Try.prog J 59 [.agg (cFm q)] (iv (valE q)):=ctr1 fun w v _ h=>(Validate_any (fam_of hq lo0 h)).mono fun _ _=>ret_sc
theorem Big_c {q:Fm} (hq:FmOk q):Ctr Try.prog J 6 [.agg (cFm q)] (bv (bigF q)):=ctr1 fun w v _ h=>(Big_any (fam_of hq lo0 h)).mono fun _ _=>ret_sc
theorem rruleE_nm {q:Fm} {i:Nat} {r:Ru} (h:nameB r.nm.toList=false∨hasR (q.rules.take i) r.nm=true):rruleE q i r=2:=if_pos h
theorem rruleE_kind {q:Fm} {i:Nat} {r:Ru} (h:nameB r.nm.toList=true) (h':hasR (q.rules.take i) r.nm=false) (hf:rkindB r q.top=false):rruleE q i r=6:=by
  unfold rruleE;rw [if_neg (by rw [h,h'];simp),if_pos hf]
theorem rruleE_state {q:Fm} {i:Nat} {r:Ru} (h:nameB r.nm.toList=true) (h':hasR (q.rules.take i) r.nm=false) (hf:rkindB r q.top=true) (hs:rstB r q.states.length=false):rruleE q i r=5:=by
  unfold rruleE;rw [if_neg (by rw [h,h'];simp),if_neg (by rw [hf];simp),if_pos hs]
theorem Z8 {q:Fm} {i:Nat} {r:Ru} (h:nameB r.nm.toList=true) (h':hasR (q.rules.take i) r.nm=false) (hf:rkindB r q.top=true) (hs:rstB r q.states.length=true):rruleE q i r=rpartE q r:=by
  unfold rruleE;rw [if_neg (by rw [h,h'];simp),if_neg (by rw [hf];simp),if_neg (by rw [hs];simp)]
def twoB (r:Ru):Bool:=decide (r.kind=2)||decide (r.kind=5)
theorem hasR_take {rs:List Ru} {s:ByteArray} {k i:Nat} (hk:k<i) (hi:i<rs.length) (e:(rs[k].nm.toList==s.toList)=true):hasR (rs.take i) s=true:=by
  unfold hasR;rw [List.any_eq_true]
  exact ⟨rs[k],List.mem_take_iff_getElem.2 ⟨k,by omega,rfl⟩,e⟩
theorem gusE_succ {m:Nat} {gs:List Th} {k:Nat} (h:k<gs.length) (hk:gusE m (gs.take k)=0) (e:guE m gs[k]=0):gusE m (gs.take (k+1))=0:=by
  induction gs generalizing k with
  | nil=>simp at h
  | cons x xs ih =>
    cases k with
    | zero=>simp only [List.take_succ_cons,List.take_zero,gusE];simp only [List.getElem_cons_zero] at e;rw [if_pos e]
    | succ k =>
      simp only [List.take_succ_cons,gusE] at hk ⊢
      by_cases hx:guE m x=0
      · rw [if_pos hx] at hk ⊢
        exact ih (by simpa using h) hk (by simpa using e)
      rw [if_neg hx] at hk;exact absurd hk hx
theorem gusE_no {m:Nat} {gs:List Th} {k:Nat} (h:k<gs.length) (hk:gusE m (gs.take k)=0) (e:guE m gs[k]≠0):guardE m gs=guE m gs[k]:=by
  have key:gusE m gs=guE m gs[k]:=by
    induction gs generalizing k with
    | nil=>simp at h
    | cons x xs ih =>
      cases k with
      | zero=>simp only [gusE];simp only [List.getElem_cons_zero] at e ⊢;rw [if_neg e]
      | succ k =>
        simp only [List.take_succ_cons,gusE] at hk ⊢
        by_cases hx:guE m x=0
        · rw [if_pos hx] at hk ⊢
          exact ih (by simpa using h) hk (by simpa using e)
        rw [if_neg hx] at hk;exact absurd hk hx
  unfold guardE;rw [key,if_neg e]
theorem guE_1 {m:Nat} {g:Th} (h:ixB m g.msg=false):guE m g=5:=if_pos h
theorem guE_2 {m:Nat} {g:Th} (h:ixB m g.msg=true) (h2:inB 1 100 g.coef=false):guE m g=1:=by unfold guE;rw [if_neg (by rw [h];simp),if_pos h2]
theorem guE_3 {m:Nat} {g:Th} (h:ixB m g.msg=true) (h2:inB 1 100 g.coef=true) (h3:smL g.bd.c g.bd.n g.bd.t g.bd.f=false):guE m g=4:=by unfold guE;rw [if_neg (by rw [h];simp),if_neg (by rw [h2];simp),if_pos h3]
theorem guE_4 {m:Nat} {g:Th} (h:ixB m g.msg=true) (h2:inB 1 100 g.coef=true) (h3:smL g.bd.c g.bd.n g.bd.t g.bd.f=true):guE m g=0:=by unfold guE;rw [if_neg (by rw [h];simp),if_neg (by rw [h2];simp),if_neg (by rw [h3];simp)]
theorem reE_len {n:Nat} {xs:List Int} (h:xs.length≠n):reE n xs=1:=if_pos h
theorem reE_ix {n:Nat} {xs:List Int} (h:xs.length=n) {k:Nat} (hk:k<xs.length) (e:ixB n xs[k]=false):reE n xs=5:=by unfold reE;rw [if_neg (by omega),if_pos (allK_no hk e)]
theorem reE_ok {n:Nat} {xs:List Int} (h:xs.length=n) (e:allK n xs xs.length=true):reE n xs=0:=by unfold reE;rw [if_neg (by omega),if_neg (by rw [e];simp)]
theorem kind_in {k:Int} (h:inB 1 5 k=true):k=1∨k=2∨k=3∨k=4∨k=5:=by
  unfold inB at h;simp only [Bool.and_eq_true,decide_eq_true_eq] at h;omega
theorem Y4 (r:Ru) (n:Nat):rstB r n=(ixB n r.frm&&ixB n r.to&&(!twoB r||(ixB n r.pf&&ixB n r.pt))):=rfl
def reX (q:Fm) (r:Ru):Int:=if r.kind=3 then reE q.states.length r.resp else 0
def poX (q:Fm) (r:Ru):Int:=if r.kind=4 then posE r.pos q.top else 0
def diX (q:Fm) (r:Ru):Int:=if r.kind=5 then dirE r.dir q.top else 0
theorem part_1 {q:Fm} {r:Ru} (h:reX q r≠0):rpartE q r=reX q r:=Y8 _ h
theorem part_2 {q:Fm} {r:Ru} (h1:reX q r=0) (h:guardE q.msgs.length r.guards≠0):rpartE q r=guardE q.msgs.length r.guards:=by
  unfold rpartE;rw [show (if r.kind=3 then reE q.states.length r.resp else 0)=0 from h1,ZL,Y8 _ h]
structure Pre2 (q:Fm) (r:Ru):Prop where
  a:reX q r=0
  b:guardE q.msgs.length r.guards=0
theorem part_3 {q:Fm} {r:Ru} (h:Pre2 q r) (e:setE q.states.length r.ex≠0):rpartE q r=setE q.states.length r.ex:=by
  unfold rpartE;rw [show (if r.kind=3 then reE q.states.length r.resp else 0)=0 from h.a,ZL,h.b,ZL,Y8 _ e]
structure Pre3 (q:Fm) (r:Ru):Prop where
  p:Pre2 q r
  c:setE q.states.length r.ex=0
theorem part_4 {q:Fm} {r:Ru} (h:Pre3 q r) (e:setE q.states.length r.fa≠0):rpartE q r=setE q.states.length r.fa:=by
  unfold rpartE;rw [show (if r.kind=3 then reE q.states.length r.resp else 0)=0 from h.p.a,ZL,h.p.b,ZL,h.c,ZL,Y8 _ e]
structure Pre4 (q:Fm) (r:Ru):Prop where
  p:Pre3 q r
  c:setE q.states.length r.fa=0
def restE (q:Fm) (r:Ru):Int:=orE (shE q.vals.length r.rd r.wr) <| orE (setE q.msgs.length r.send) <| orE (setE q.states.length r.left) <| orE (setE q.states.length r.right) <| orE (setE q.states.length r.parent) <| orE (poX q r) (diX q r)
theorem Y7 {q:Fm} {r:Ru} (h:Pre4 q r):rpartE q r=restE q r:=by
  unfold rpartE;rw [show (if r.kind=3 then reE q.states.length r.resp else 0)=0 from h.p.p.a,ZL,h.p.p.b,ZL,h.p.c,ZL,h.c,ZL];rfl
theorem rest_1 {q:Fm} {r:Ru} (h:shE q.vals.length r.rd r.wr≠0):restE q r=shE q.vals.length r.rd r.wr:=Y8 _ h
theorem rest_2 {q:Fm} {r:Ru} (h1:shE q.vals.length r.rd r.wr=0) (h:setE q.msgs.length r.send≠0):restE q r=setE q.msgs.length r.send:=by
  unfold restE;rw [h1,ZL,Y8 _ h]
theorem rest_3 {q:Fm} {r:Ru} (h1:shE q.vals.length r.rd r.wr=0) (h2:setE q.msgs.length r.send=0) (h:setE q.states.length r.left≠0):restE q r=setE q.states.length r.left:=by
  unfold restE;rw [h1,ZL,h2,ZL,Y8 _ h]
theorem rest_4 {q:Fm} {r:Ru} (h1:shE q.vals.length r.rd r.wr=0) (h2:setE q.msgs.length r.send=0) (h3:setE q.states.length r.left=0) (h:setE q.states.length r.right≠0):restE q r=setE q.states.length r.right:=by
  unfold restE;rw [h1,ZL,h2,ZL,h3,ZL,Y8 _ h]
theorem rest_5 {q:Fm} {r:Ru} (h1:shE q.vals.length r.rd r.wr=0) (h2:setE q.msgs.length r.send=0) (h3:setE q.states.length r.left=0) (h4:setE q.states.length r.right=0) (h:setE q.states.length r.parent≠0):restE q r=setE q.states.length r.parent:=by
  unfold restE;rw [h1,ZL,h2,ZL,h3,ZL,h4,ZL,Y8 _ h]
theorem rest_6 {q:Fm} {r:Ru} (h1:shE q.vals.length r.rd r.wr=0) (h2:setE q.msgs.length r.send=0) (h3:setE q.states.length r.left=0) (h4:setE q.states.length r.right=0) (h5:setE q.states.length r.parent=0):restE q r=orE (poX q r) (diX q r):=by
  unfold restE;rw [h1,ZL,h2,ZL,h3,ZL,h4,ZL,h5,ZL]
theorem shE_five {v:Nat} {rd wr:Int} (h:shE v rd wr≠0):shE v rd wr=5:=by
  unfold shE at *;split
  · rfl
  rename_i h1;rw [if_neg h1] at h;exact absurd rfl h
theorem poX_one {q:Fm} {r:Ru} (h:poX q r≠0):poX q r=1:=by
  unfold poX at *
  split at h
  · rename_i h1;rw [if_pos h1];unfold posE at *;split at h
    · rename_i h2;rw [if_pos h2]
    exact absurd rfl h
  exact absurd rfl h
def dir4 (q:Fm) (r:Ru):Bool:=decide (r.kind=5)&&decide (q.top=4) && !inB 3 4 r.dir
def dirO (q:Fm) (r:Ru):Bool:=decide (r.kind=5)&&decide (q.top≠4) && !inB 1 2 r.dir
theorem dir4_t {q:Fm} {r:Ru} (h:r.kind=5) (h2:q.top=4):dir4 q r = !inB 3 4 r.dir:=by unfold dir4;simp [h,h2]
theorem dirO_t {q:Fm} {r:Ru} (h:r.kind=5) (h2:q.top≠4):dirO q r = !inB 1 2 r.dir:=by unfold dirO;simp [h,h2]
theorem diX_4 {q:Fm} {r:Ru} (h:dir4 q r=true):diX q r=1:=by
  unfold dir4 inB at h;simp only [Bool.and_eq_true,decide_eq_true_eq,Bool.not_eq_true',Bool.and_eq_false_iff,decide_eq_false_iff_not] at h
  unfold diX dirE;rw [if_pos h.1.1,if_pos h.1.2,if_neg (by omega)]
theorem diX_O {q:Fm} {r:Ru} (h:dirO q r=true):diX q r=1:=by
  unfold dirO inB at h;simp only [Bool.and_eq_true,decide_eq_true_eq,Bool.not_eq_true',Bool.and_eq_false_iff,decide_eq_false_iff_not] at h
  unfold diX dirE;rw [if_pos h.1.1,if_neg h.1.2,if_neg (by omega)]
theorem diX_0 {q:Fm} {r:Ru} (h:dir4 q r=false) (h2:dirO q r=false):diX q r=0:=by
  unfold diX
  by_cases k:r.kind=5
  · rw [if_pos k]
    unfold dirE
    by_cases t:q.top=4
    · rw [dir4_t k t] at h
      unfold inB at h;simp only [Bool.and_eq_true,decide_eq_true_eq,Bool.not_eq_false'] at h
      rw [if_pos t,if_pos (by omega)]
    rw [dirO_t k t] at h2
    unfold inB at h2;simp only [Bool.and_eq_true,decide_eq_true_eq,Bool.not_eq_false'] at h2
    rw [if_neg t,if_pos (by omega)]
  rw [if_neg k]
theorem hasR_next {rs:List Ru} {s:ByteArray} {k:Nat} (h:k<rs.length) (hk:hasR (rs.take k) s=false) (e:(rs[k].nm.toList==s.toList)=false):hasR (rs.take (k+1)) s=false:=by
  unfold hasR at *
  rw [List.take_succ_eq_append_getElem h,List.any_append,hk];simp only [List.any_cons,List.any_nil,e,Bool.or_self]
theorem part_1a {q:Fm} {r:Ru} (h3:r.kind=3) (h:r.resp.length≠q.states.length):rpartE q r=1:=by
  have:reX q r=1:=by unfold reX;rw [if_pos h3,reE_len h]
  rw [part_1 (by omega),this]
theorem part_1b {q:Fm} {r:Ru} (h3:r.kind=3) (h:r.resp.length=q.states.length) {k:Nat} (hk:k<r.resp.length) (e:ixB q.states.length r.resp[k]=false):rpartE q r=5:=by
  have:reX q r=5:=by unfold reX;rw [if_pos h3,reE_ix h hk e]
  rw [part_1 (by omega),this]
theorem reX_no {q:Fm} {r:Ru} (h3:¬ r.kind=3):reX q r=0:=if_neg h3
theorem reX_ok {q:Fm} {r:Ru} (h3:r.kind=3) (h:r.resp.length=q.states.length) (e:allK q.states.length r.resp q.states.length=true):reX q r=0:=by
  unfold reX;rw [if_pos h3,reE_ok h (by rw [h];exact e)]
theorem part_2g {q:Fm} {r:Ru} (h1:reX q r=0) {k:Nat} (hk:k<r.guards.length) (hs:gusE q.msgs.length (r.guards.take k)=0) {v:Int} (e:guE q.msgs.length r.guards[k]=v) (hv:v≠0):rpartE q r=v:=by
  have h2:=gusE_no hk hs (by rw [e];exact hv)
  rw [part_2 h1 (by rw [h2,e];exact hv),h2,e]
theorem part_2l {q:Fm} {r:Ru} (h1:reX q r=0) (h:gusE q.msgs.length r.guards=0) (hl:2<r.guards.length):rpartE q r=4:=by
  have h2:guardE q.msgs.length r.guards=4:=by unfold guardE;rw [if_pos h,if_pos hl]
  rw [part_2 h1 (by omega),h2]
theorem YA {m:Nat} {gs:List Th} (h:gusE m gs=0) (hl:¬ 2<gs.length):guardE m gs=0:=by unfold guardE;rw [if_pos h,if_neg hl]
end Go.Proofs.Ytengacodacejiaa
