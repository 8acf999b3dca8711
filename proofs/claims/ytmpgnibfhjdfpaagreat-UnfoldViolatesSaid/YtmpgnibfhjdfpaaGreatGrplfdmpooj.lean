import Derived.Test.YtmpgnibfhjdfpaaGreatGrphhmpajpk
import Derived.Test.YtmpgnibfhjdfpaaGreatGrpcdiljnim
import Derived.Test.YtmpgnibfhjdfpaaGreatGrpmfgljhgn
import Derived.Test.YtmpgnibfhjdfpaaGreatGrppoikgaho
import Derived.Test.YtmpgnibfhjdfpaaGreatGrpmpnnchka
import Derived.Test.YtmpgnibfhjdfpaaGreatGrpmgeggbob
set_option linter.all false
namespace Go.Proofs.YtmpgnibfhjdfpaaGreat
open Go.RowKit Go.Deep
variable {J:World->Prop}
theorem lo0 {w:World}:∀ b,b<w.heap.size->0<=b:=λ_ _=>Nat.zero_le _
theorem Zv (n lo hi:Int):Ctr Tryz.prog J 74 [iv n,iv lo,iv hi] (bv (inB lo hi n)):=ctr3 λw v v' v'' _ h h' h''=>by
 rw [h.v_inv,h'.v_inv,h''.v_inv];exact (YC n lo hi w).mono λ_ _=>Zay
theorem few_c (l:Ln):Ctr Tryz.prog J 108 [.agg (cLn l)] (bv (smL l.c l.n l.t l.f)):=ctr1 λw v _ h=>by
 obtain ⟨vs,rfl,hl,hv⟩:=Yt h
 have e:vs=[.int .i64 l.c,.int .i64 l.n,.int .i64 l.t,.int .i64 l.f]:=by
  rw [cells4 hl,(hv 0 (by simp [cLn])).v_inv,(hv 1 (by simp [cLn])).v_inv,(hv 2 (by simp [cLn])).v_inv,(hv 3 (by simp [cLn])).v_inv]
 subst e
 exact (ZaT l.c l.n l.t l.f w).mono λ_ _=>ret_sc
theorem Yq (s:ByteArray) (hs:s.size<=maxLen):Ctr Tryz.prog J 72 [sv s] (bv (nameB s.toList)):=ctr1 λw v _ h=>by
 rw [h.v_inv];exact (Zcj s w hs).mono λ_ _=>ret_sc
theorem K5 (n:Nat) (hn:n<=9223372036854775807) (xs:List Int) (hx:InOk xs):Ctr Tryz.prog J 73 [Zc xs,iv n] (iv (setE n xs)):=ctr2 λw v v' _ h h'=>by
 rw [h'.v_inv];exact (rSet_any n hn (Yf hx lo0 h)).mono λ_ _=>ret_sc
variable {q:Fm}
theorem KP (hq:FmOk q):Ctr Tryz.prog J 49 [.agg (cFm q)] (iv (valE q)):=ctr1 λw v _ h=>(ZeU (fam_of hq lo0 h)).mono λ_ _=>ret_sc
variable {i:Nat}{r:Ru}
theorem Zd6 (h:nameB r.nm.toList=false\/hasR (q.rz.take i) r.nm=true):rruleE q i r=2:=if_pos h
theorem Zfa (h:nameB r.nm.toList=true) (h':hasR (q.rz.take i) r.nm=false) (hf:rkindB r q.top=false):rruleE q i r=6:=by
 unfold rruleE;rw [if_neg (by rw [h,h'];simp),if_pos hf]
theorem Zd5 (h:nameB r.nm.toList=true) (h':hasR (q.rz.take i) r.nm=false) (hf:rkindB r q.top=true) (hs:rstB r q.sz.length=false):rruleE q i r=5:=by
 unfold rruleE;rw [if_neg (by rw [h,h'];simp),if_neg (by rw [hf];simp),if_pos hs]
theorem Z0 (h:nameB r.nm.toList=true) (h':hasR (q.rz.take i) r.nm=false) (hf:rkindB r q.top=true) (hs:rstB r q.sz.length=true):rruleE q i r=rpartE q r:=by
 unfold rruleE;rw [if_neg (by rw [h,h'];simp),if_neg (by rw [hf];simp),if_neg (by rw [hs];simp)]
def twoB (r:Ru):Bool:=decide (r.kind=2)||decide (r.kind=5)
variable {rs:List Ru}{s:ByteArray}{k:Nat}
theorem hasR_take (hk:k<i) (hi:i<rs.length) (e:(rs[k].nm.toList==s.toList)=true):hasR (rs.take i) s=true:=by
 unfold hasR;rw [List.any_eq_true]
 exact ⟨rs[k],List.mem_take_iff_getElem.2 ⟨k,by omega,rfl⟩,e⟩
variable {m:Nat}{gs:List Th}
theorem gusE_succ (h:k<gs.length) (hk:gusE m (gs.take k)=0) (e:guE m gs[k]=0):gusE m (gs.take (k+1))=0:=by
 induction gs generalizing k with
 | nil=>simp at h
 | cons x xs ih =>
   cases k with
   | zero=>simp only [List.take_succ_cons,List.take_zero,gusE];simp only [List.getElem_cons_zero] at e;rw [if_pos e]
   | succ k =>
     simp only [List.take_succ_cons,gusE] at hk ⊢
     by_cases hx:guE m x=0
     ·rw [if_pos hx] at hk ⊢
      exact ih (by simpa using h) hk (by simpa using e)
     rw [if_neg hx] at hk;exact absurd hk hx
theorem gusE_no (h:k<gs.length) (hk:gusE m (gs.take k)=0) (e:guE m gs[k]≠0):guardE m gs=guE m gs[k]:=by
 have key:gusE m gs=guE m gs[k]:=by
  induction gs generalizing k with
  | nil=>simp at h
  | cons x xs ih =>
    cases k with
    | zero=>simp only [gusE];simp only [List.getElem_cons_zero] at e ⊢;rw [if_neg e]
    | succ k =>
      simp only [List.take_succ_cons,gusE] at hk ⊢
      by_cases hx:guE m x=0
      ·rw [if_pos hx] at hk ⊢
       exact ih (by simpa using h) hk (by simpa using e)
      rw [if_neg hx] at hk;exact absurd hk hx
 unfold guardE;rw [key,if_neg e]
variable {g:Th}
theorem guE_1 (h:ixB m g.msg=false):guE m g=5:=if_pos h
theorem guE_2 (h:ixB m g.msg=true) (h2:inB 1 100 g.coef=false):guE m g=1:=by unfold guE;rw [if_neg (by rw [h];simp),if_pos h2]
theorem guE_3 (h:ixB m g.msg=true) (h2:inB 1 100 g.coef=true) (h3:smL g.bd.c g.bd.n g.bd.t g.bd.f=false):guE m g=4:=by unfold guE;rw [if_neg (by rw [h];simp),if_neg (by rw [h2];simp),if_pos h3]
theorem guE_4 (h:ixB m g.msg=true) (h2:inB 1 100 g.coef=true) (h3:smL g.bd.c g.bd.n g.bd.t g.bd.f=true):guE m g=0:=by unfold guE;rw [if_neg (by rw [h];simp),if_neg (by rw [h2];simp),if_neg (by rw [h3];simp)]
variable {n:Nat}{xs:List Int}
theorem reE_len (h:xs.length≠n):reE n xs=1:=if_pos h
theorem reE_ix (h:xs.length=n) (hk:k<xs.length) (e:ixB n xs[k]=false):reE n xs=5:=by unfold reE;rw [if_neg (by omega),if_pos (Zfy hk e)]
theorem reE_ok (h:xs.length=n) (e:allK n xs xs.length=true):reE n xs=0:=by unfold reE;rw [if_neg (by omega),if_neg (by rw [e];simp)]
theorem Zdn {k:Int} (h:inB 1 5 k=true):k=1\/k=2\/k=3\/k=4\/k=5:=by
 unfold inB at h;simp only [Bool.and_eq_true,decide_eq_true_eq] at h;omega
theorem Y4 (r:Ru) (n:Nat):rstB r n=(ixB n r.frm&&ixB n r.to&&(!twoB r||(ixB n r.pf&&ixB n r.pt))):=rfl
def reX (q:Fm) (r:Ru):Int:=if r.kind=3 then reE q.sz.length r.resp else 0
def poX (q:Fm) (r:Ru):Int:=if r.kind=4 then posE r.pos q.top else 0
def diX (q:Fm) (r:Ru):Int:=if r.kind=5 then dirE r.dir q.top else 0
theorem part_1 (h:reX q r≠0):rpartE q r=reX q r:=Ki _ h
theorem part_2 (h1:reX q r=0) (h:guardE q.msgs.length r.gz≠0):rpartE q r=guardE q.msgs.length r.gz:=by
 unfold rpartE;rw [show (if r.kind=3 then reE q.sz.length r.resp else 0)=0 from h1,ZD,Ki _ h]
structure Pre2 (q:Fm) (r:Ru):Prop where
 a:reX q r=0
 b:guardE q.msgs.length r.gz=0
theorem part_3 (h:Pre2 q r) (e:setE q.sz.length r.ex≠0):rpartE q r=setE q.sz.length r.ex:=by
 unfold rpartE;rw [show (if r.kind=3 then reE q.sz.length r.resp else 0)=0 from h.a,ZD,h.b,ZD,Ki _ e]
structure Pre3 (q:Fm) (r:Ru):Prop where
 p:Pre2 q r
 c:setE q.sz.length r.ex=0
theorem part_4 (h:Pre3 q r) (e:setE q.sz.length r.fa≠0):rpartE q r=setE q.sz.length r.fa:=by
 unfold rpartE;rw [show (if r.kind=3 then reE q.sz.length r.resp else 0)=0 from h.p.a,ZD,h.p.b,ZD,h.c,ZD,Ki _ e]
structure Pre4 (q:Fm) (r:Ru):Prop where
 p:Pre3 q r
 c:setE q.sz.length r.fa=0
def restE (q:Fm) (r:Ru):Int:=orE (shE q.vals.length r.rd r.wr) <| orE (setE q.msgs.length r.send) <| orE (setE q.sz.length r.left) <| orE (setE q.sz.length r.right) <| orE (setE q.sz.length r.pz) <| orE (poX q r) (diX q r)
theorem Ke (h:Pre4 q r):rpartE q r=restE q r:=by
 unfold rpartE;rw [show (if r.kind=3 then reE q.sz.length r.resp else 0)=0 from h.p.p.a,ZD,h.p.p.b,ZD,h.p.c,ZD,h.c,ZD];rfl
theorem rest_1 (h:shE q.vals.length r.rd r.wr≠0):restE q r=shE q.vals.length r.rd r.wr:=Ki _ h
theorem rest_2 (h1:shE q.vals.length r.rd r.wr=0) (h:setE q.msgs.length r.send≠0):restE q r=setE q.msgs.length r.send:=by
 unfold restE;rw [h1,ZD,Ki _ h]
theorem rest_3 (h1:shE q.vals.length r.rd r.wr=0) (h2:setE q.msgs.length r.send=0) (h:setE q.sz.length r.left≠0):restE q r=setE q.sz.length r.left:=by
 unfold restE;rw [h1,ZD,h2,ZD,Ki _ h]
theorem rest_4 (h1:shE q.vals.length r.rd r.wr=0) (h2:setE q.msgs.length r.send=0) (h3:setE q.sz.length r.left=0) (h:setE q.sz.length r.right≠0):restE q r=setE q.sz.length r.right:=by
 unfold restE;rw [h1,ZD,h2,ZD,h3,ZD,Ki _ h]
theorem rest_5 (h1:shE q.vals.length r.rd r.wr=0) (h2:setE q.msgs.length r.send=0) (h3:setE q.sz.length r.left=0) (h4:setE q.sz.length r.right=0) (h:setE q.sz.length r.pz≠0):restE q r=setE q.sz.length r.pz:=by
 unfold restE;rw [h1,ZD,h2,ZD,h3,ZD,h4,ZD,Ki _ h]
theorem rest_6 (h1:shE q.vals.length r.rd r.wr=0) (h2:setE q.msgs.length r.send=0) (h3:setE q.sz.length r.left=0) (h4:setE q.sz.length r.right=0) (h5:setE q.sz.length r.pz=0):restE q r=orE (poX q r) (diX q r):=by
 unfold restE;rw [h1,ZD,h2,ZD,h3,ZD,h4,ZD,h5,ZD]
theorem shE_five {v:Nat} {rd wr:Int} (h:shE v rd wr≠0):shE v rd wr=5:=by
 unfold shE at *;split
 ·rfl
 rename_i h1;rw [if_neg h1] at h;exact absurd rfl h
theorem poX_one (h:poX q r≠0):poX q r=1:=by
 unfold poX at *
 split at h
 ·rename_i h1;rw [if_pos h1];unfold posE at *;split at h
  ·rename_i h2;rw [if_pos h2]
  exact absurd rfl h
 exact absurd rfl h
def dir4 (q:Fm) (r:Ru):Bool:=decide (r.kind=5)&&decide (q.top=4) && !inB 3 4 r.dir
def dirO (q:Fm) (r:Ru):Bool:=decide (r.kind=5)&&decide (q.top≠4) && !inB 1 2 r.dir
theorem dir4_t (h:r.kind=5) (h2:q.top=4):dir4 q r = !inB 3 4 r.dir:=by unfold dir4;simp [h,h2]
theorem dirO_t (h:r.kind=5) (h2:q.top≠4):dirO q r = !inB 1 2 r.dir:=by unfold dirO;simp [h,h2]
theorem diX_4 (h:dir4 q r=true):diX q r=1:=by
 unfold dir4 inB at h;simp only [Bool.and_eq_true,decide_eq_true_eq,Bool.not_eq_true',Bool.and_eq_false_iff,decide_eq_false_iff_not] at h
 unfold diX dirE;rw [if_pos h.1.1,if_pos h.1.2,if_neg (by omega)]
theorem diX_O (h:dirO q r=true):diX q r=1:=by
 unfold dirO inB at h;simp only [Bool.and_eq_true,decide_eq_true_eq,Bool.not_eq_true',Bool.and_eq_false_iff,decide_eq_false_iff_not] at h
 unfold diX dirE;rw [if_pos h.1.1,if_neg h.1.2,if_neg (by omega)]
theorem diX_0 (h:dir4 q r=false) (h2:dirO q r=false):diX q r=0:=by
 unfold diX
 by_cases k:r.kind=5
 ·rw [if_pos k]
  unfold dirE
  by_cases t:q.top=4
  ·rw [dir4_t k t] at h
   unfold inB at h;simp only [Bool.and_eq_true,decide_eq_true_eq,Bool.not_eq_false'] at h
   rw [if_pos t,if_pos (by omega)]
  rw [dirO_t k t] at h2
  unfold inB at h2;simp only [Bool.and_eq_true,decide_eq_true_eq,Bool.not_eq_false'] at h2
  rw [if_neg t,if_pos (by omega)]
 rw [if_neg k]
theorem hasR_next (h:k<rs.length) (hk:hasR (rs.take k) s=false) (e:(rs[k].nm.toList==s.toList)=false):hasR (rs.take (k+1)) s=false:=by
 unfold hasR at *
 rw [List.take_succ_eq_append_getElem h,List.any_append,hk];simp only [List.any_cons,List.any_nil,e,Bool.or_self]
theorem part_1a (h3:r.kind=3) (h:r.resp.length≠q.sz.length):rpartE q r=1:=by
 have:reX q r=1:=by unfold reX;rw [if_pos h3,reE_len h]
 rw [part_1 (by omega),this]
theorem part_1b (h3:r.kind=3) (h:r.resp.length=q.sz.length) (hk:k<r.resp.length) (e:ixB q.sz.length r.resp[k]=false):rpartE q r=5:=by
 have:reX q r=5:=by unfold reX;rw [if_pos h3,reE_ix h hk e]
 rw [part_1 (by omega),this]
theorem reX_no (h3:¬ r.kind=3):reX q r=0:=if_neg h3
theorem reX_ok (h3:r.kind=3) (h:r.resp.length=q.sz.length) (e:allK q.sz.length r.resp q.sz.length=true):reX q r=0:=by
 unfold reX;rw [if_pos h3,reE_ok h (by rw [h];exact e)]
theorem Zff (h1:reX q r=0) (hk:k<r.gz.length) (hs:gusE q.msgs.length (r.gz.take k)=0) {v:Int} (e:guE q.msgs.length r.gz[k]=v) (hv:v≠0):rpartE q r=v:=by
 have h2:=gusE_no hk hs (by rw [e];exact hv)
 rw [part_2 h1 (by rw [h2,e];exact hv),h2,e]
theorem part_2l (h1:reX q r=0) (h:gusE q.msgs.length r.gz=0) (hl:2<r.gz.length):rpartE q r=4:=by
 have h2:guardE q.msgs.length r.gz=4:=by unfold guardE;rw [if_pos h,if_pos hl]
 rw [part_2 h1 (by omega),h2]
theorem Yz (h:gusE m gs=0) (hl:¬ 2<gs.length):guardE m gs=0:=by unfold guardE;rw [if_pos h,if_neg hl]
end Go.Proofs.YtmpgnibfhjdfpaaGreat
