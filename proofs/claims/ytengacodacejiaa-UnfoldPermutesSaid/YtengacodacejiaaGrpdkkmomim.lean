import Derived.Test.YtengacodacejiaaProg
import Derived.WalkSpells
import Derived.WalkLawsBesides
import Derived.LoopTactic
import Derived.Lib.Hide
import Derived.Outline
import Derived.Deep.DeepCutAuto
import Derived.Deep.QuietTactic
import Derived.BigQuiet
import Derived.Laws.MakeOwn
import Derived.Test.YtengacodacejiaaGrpggejkcnp
import Derived.Test.YtengacodacejiaaGrpnpmimomk
import Derived.Test.YtengacodacejiaaGrppafemefo
import Derived.Test.YtengacodacejiaaGrpegkifceh
import Derived.Test.YtengacodacejiaaGrphokogcoj
import Derived.Test.YtengacodacejiaaGrpnnnjeeba
import Derived.Test.YtengacodacejiaaGrpigoemcgn
set_option linter.all false
namespace Go.Proofs.Ytengacodacejiaa
def shpF:List Int→Int→Bool
  | [],m=>decide (m=0)
  | c::cs,m=>if m=0 then false else if c≠0∧c≠2 then false else shpF cs (m+c-1)
def shp (xs:List Int):Bool:=shpF xs 1
structure TS where
  fi:Nat→Int
  se:Nat→Int
  pa:Nat→Int
  wt:List Nat
def tkid (s:TS) (i:Nat):TS :=
  match s.wt.getLast? with
  | none=>⟨up s.fi i (-1),up s.se i (-1),up s.pa i (-1),s.wt⟩
  | some p=>if up s.fi i (-1) p<0 then ⟨up (up s.fi i (-1)) p i,up s.se i (-1),up (up s.pa i (-1)) i p,s.wt⟩ else ⟨up s.fi i (-1),up (up s.se i (-1)) p i,up (up s.pa i (-1)) i p,s.wt.dropLast⟩
def tstep (s:TS) (i:Nat) (c:Int):TS:=if c=2 then ⟨(tkid s i).fi,(tkid s i).se,(tkid s i).pa,(tkid s i).wt++[i]⟩ else tkid s i
def trun (xs:List Int):Nat→TS
  | 0=>⟨fun _=>0,fun _=>0,fun _=>0,[]⟩
  | k+1=>tstep (trun xs k) k (xs.getD k 0)
def lack (fi:Nat→Int) (p:Nat):Int:=if fi p<0 then 2 else 1
def lacks (fi:Nat→Int) (w:List Nat):Int:=(w.map (lack fi)).sum
structure TI (s:TS) (k:Nat) (m:Int):Prop where
  par:∀ j,j<k→s.pa j = -1∨∃ p:Nat,p<k∧s.pa j=p∧(s.fi p=j∨s.se p=j)
  fst:∀ p,p<k→s.fi p = -1∨∃ j:Nat,j<k∧s.fi p=j∧s.pa j=p
  snd:∀ p,p<k→s.se p = -1∨∃ j:Nat,j<k∧s.se p=j∧s.pa j=p
  wlt:∀ p∈s.wt,p<k∧s.se p = -1
  asc:s.wt.Pairwise (· < ·)
  two:∀ p,p<k→p ∉ s.wt→(s.fi p = -1↔s.se p = -1)
  cnt:m=if k=0 then 1 else lacks s.fi s.wt
theorem lacks_congr {f g:Nat→Int} {w:List Nat} (h:∀ p∈w,f p=g p):lacks f w=lacks g w:=by
  unfold lacks;rw [List.map_congr_left (fun p hp=>show lack f p=lack g p by unfold lack;rw [h p hp])]
theorem lacks_snoc (f:Nat→Int) (w:List Nat) (i:Nat):lacks f (w++[i])=lacks f w+lack f i:=by simp [lacks]
theorem lacks_nil (f:Nat→Int):lacks f []=0:=rfl
theorem lack_pos (f:Nat→Int) (p:Nat):1≤lack f p:=by unfold lack;split<;>omega
theorem lacks_nonneg (f:Nat→Int):∀ w:List Nat,0≤lacks f w
  | []=>by simp [lacks]
  | p::w=>by
    have:=lacks_nonneg f w
    have:=lack_pos f p
    simp only [lacks,List.map_cons,List.sum_cons] at *
    omega
theorem lacks_zero (f:Nat→Int):∀ w:List Nat,lacks f w=0→w=[]
  | [],_=>rfl
  | p::w,h=>by
    have:=lacks_nonneg f w
    have:=lack_pos f p
    simp only [lacks,List.map_cons,List.sum_cons] at *
    omega
theorem kid_ok {s:TS} {k:Nat} {m:Int} (h:TI s k m) (hm:m≠0) : 
    (∀ j,j<k+1→(tkid s k).pa j = -1∨∃ p:Nat,p<k+1∧(tkid s k).pa j=p∧((tkid s k).fi p=j∨(tkid s k).se p=j)) ∧
    (∀ p,p<k+1→(tkid s k).fi p = -1∨∃ j:Nat,j<k+1∧(tkid s k).fi p=j∧(tkid s k).pa j=p) ∧
    (∀ p,p<k+1→(tkid s k).se p = -1∨∃ j:Nat,j<k+1∧(tkid s k).se p=j∧(tkid s k).pa j=p) ∧
    (∀ p∈(tkid s k).wt,p<k∧(tkid s k).se p = -1)∧(tkid s k).wt.Pairwise (· < ·) ∧
    (∀ p,p<k→p ∉ (tkid s k).wt→((tkid s k).fi p = -1↔(tkid s k).se p = -1)) ∧
    (tkid s k).fi k = -1∧(tkid s k).se k = -1∧lacks (tkid s k).fi (tkid s k).wt=m-1:=by
  obtain ⟨par,fst,snd,wlt,asc,two,cnt⟩:=h
  rcases hw:s.wt.getLast? with _ | p
  · have hnil:s.wt=[]:=by simpa using hw
    have hk:k=0:=by
      by_cases e:k=0
      · exact e
      rw [if_neg e,hnil,lacks_nil] at cnt;exact absurd cnt hm
    subst hk
    rw [if_pos rfl] at cnt
    have ht:tkid s 0=⟨up s.fi 0 (-1),up s.se 0 (-1),up s.pa 0 (-1),s.wt⟩:=by unfold tkid;rw [hw]
    rw [ht]
    dsimp only
    rw [hnil]
    refine ⟨fun j hj => .inl ?_,fun j hj => .inl ?_,fun j hj => .inl ?_,by simp,by simp,fun p hp=>by omega,Y6 _ _ _,Y6 _ _ _,by rw [lacks_nil];omega⟩ <;>
      (obtain rfl:j=0:=by omega
       exact Y6 _ _ _)
  obtain ⟨ys,hys⟩:∃ ys,s.wt=ys++[p]:=List.getLast?_eq_some_iff.1 hw
  have hpm:p∈s.wt:=by rw [hys];simp
  obtain ⟨hpk,hpse⟩:=wlt p hpm
  have hk0:k≠0:=by omega
  have hnek:p≠k:=by omega
  rw [if_neg hk0] at cnt
  have hys_lt:∀ q∈ys,q<p:=by
    rw [hys,List.pairwise_append] at asc
    exact fun q hq=>asc.2.2 q hq p (by simp)
  have hysm:∀ q∈ys,q<k∧s.se q = -1:=fun q hq=>wlt q (by rw [hys];simp [hq])
  have hfp:up s.fi k (-1) p=s.fi p:=up_ne _ _ hnek
  by_cases hf:s.fi p<0
  · have ht:tkid s k=⟨up (up s.fi k (-1)) p k,up s.se k (-1),up (up s.pa k (-1)) k p,s.wt⟩:=by unfold tkid;rw [hw];dsimp only;rw [hfp,if_pos hf]
    have hfm:s.fi p = -1:=by
      rcases fst p hpk with e | ⟨j,_,e,_⟩
      · exact e
      omega
    rw [ht]
    dsimp only
    have pak:up (up s.pa k (-1)) k p k=p:=Y6 _ _ _
    have paj:∀ j,j≠k→up (up s.pa k (-1)) k p j=s.pa j:=fun j hj=>by rw [up_ne _ _ hj,up_ne _ _ hj]
    have fik:up (up s.fi k (-1)) p k p=k:=Y6 _ _ _
    have fij:∀ j,j≠p→j≠k→up (up s.fi k (-1)) p k j=s.fi j:=fun j hj hk=>by rw [up_ne _ _ hj,up_ne _ _ hk]
    have fikk:up (up s.fi k (-1)) p k k = -1:=by rw [up_ne _ _ (Ne.symm hnek),Y6]
    have sek:up s.se k (-1) k = -1:=Y6 _ _ _
    have sej:∀ j,j≠k→up s.se k (-1) j=s.se j:=fun j hj=>up_ne _ _ hj
    refine ⟨fun j hj => ?_,fun q hq => ?_,fun q hq => ?_,fun q hq => ?_,asc,fun q hq hqw => ?_,fikk,sek,?_⟩
    · by_cases e:j=k
      · subst e;exact .inr ⟨p,by omega,pak,.inl fik⟩
      rcases par j (by omega) with e1 | ⟨q,h1,h2,h3⟩
      · exact .inl (by rw [paj j e];exact e1)
      refine .inr ⟨q,by omega,by rw [paj j e];exact h2,?_⟩
      rw [sej q (by omega)]
      by_cases eq:q=p
      · subst eq
        rcases h3 with h3 | h3
        · omega
        exact .inr h3
      rw [fij q eq (by omega)];exact h3
    · by_cases e:q=p
      · subst e;exact .inr ⟨k,by omega,fik,pak⟩
      by_cases e2:q=k
      · subst e2;exact .inl fikk
      rw [fij q e e2]
      rcases fst q (by omega) with e1 | ⟨j,h1,h2,h3⟩
      · exact .inl e1
      exact .inr ⟨j,by omega,h2,by rw [paj j (by omega)];exact h3⟩
    · by_cases e2:q=k
      · subst e2;exact .inl sek
      rw [sej q e2]
      rcases snd q (by omega) with e1 | ⟨j,h1,h2,h3⟩
      · exact .inl e1
      exact .inr ⟨j,by omega,h2,by rw [paj j (by omega)];exact h3⟩
    · have:=wlt q hq
      exact ⟨this.1,by rw [sej q (by omega)];exact this.2⟩
    · have hqp:q≠p:=fun e=>hqw (e ▸ hpm)
      rw [fij q hqp (by omega),sej q (by omega)]
      exact two q hq hqw
    rw [cnt,hys,lacks_snoc,lacks_snoc,lacks_congr (g:=s.fi) (fun q hq=>fij q (by have:=hys_lt q hq;omega) (by have:=(hysm q hq).1;omega))]
    unfold lack
    rw [fik,if_neg (by omega),if_pos hf];omega
  have ht:tkid s k=⟨up s.fi k (-1),up (up s.se k (-1)) p k,up (up s.pa k (-1)) k p,s.wt.dropLast⟩:=by unfold tkid;rw [hw];dsimp only;rw [hfp,if_neg hf]
  have hdl:s.wt.dropLast=ys:=by rw [hys];simp
  rw [ht,hdl]
  dsimp only
  have pak:up (up s.pa k (-1)) k p k=p:=Y6 _ _ _
  have paj:∀ j,j≠k→up (up s.pa k (-1)) k p j=s.pa j:=fun j hj=>by rw [up_ne _ _ hj,up_ne _ _ hj]
  have sep:up (up s.se k (-1)) p k p=k:=Y6 _ _ _
  have sej:∀ j,j≠p→j≠k→up (up s.se k (-1)) p k j=s.se j:=fun j hj hk=>by rw [up_ne _ _ hj,up_ne _ _ hk]
  have sek:up (up s.se k (-1)) p k k = -1:=by rw [up_ne _ _ (Ne.symm hnek),Y6]
  have fik:up s.fi k (-1) k = -1:=Y6 _ _ _
  have fij:∀ j,j≠k→up s.fi k (-1) j=s.fi j:=fun j hj=>up_ne _ _ hj
  refine ⟨fun j hj => ?_,fun q hq => ?_,fun q hq => ?_,fun q hq => ?_,?_,fun q hq hqw => ?_,fik,sek,?_⟩
  · by_cases e:j=k
    · subst e;exact .inr ⟨p,by omega,pak,.inr sep⟩
    rcases par j (by omega) with e1 | ⟨q,h1,h2,h3⟩
    · exact .inl (by rw [paj j e];exact e1)
    refine .inr ⟨q,by omega,by rw [paj j e];exact h2,?_⟩
    rw [fij q (by omega)]
    by_cases eq:q=p
    · subst eq
      rcases h3 with h3 | h3
      · exact .inl h3
      omega
    rw [sej q eq (by omega)];exact h3
  · by_cases e2:q=k
    · subst e2;exact .inl fik
    rw [fij q e2]
    rcases fst q (by omega) with e1 | ⟨j,h1,h2,h3⟩
    · exact .inl e1
    exact .inr ⟨j,by omega,h2,by rw [paj j (by omega)];exact h3⟩
  · by_cases e:q=p
    · subst e;exact .inr ⟨k,by omega,sep,pak⟩
    by_cases e2:q=k
    · subst e2;exact .inl sek
    rw [sej q e e2]
    rcases snd q (by omega) with e1 | ⟨j,h1,h2,h3⟩
    · exact .inl e1
    exact .inr ⟨j,by omega,h2,by rw [paj j (by omega)];exact h3⟩
  · have h1:=hysm q hq
    have h2:=hys_lt q hq
    exact ⟨h1.1,by rw [sej q (by omega) (by omega)];exact h1.2⟩
  · rw [hys,List.pairwise_append] at asc;exact asc.1
  · by_cases e:q=p
    · subst e
      rw [fij q (by omega),sep]
      omega
    rw [fij q (by omega),sej q e (by omega)]
    exact two q hq (by rw [hys];simp [hqw,e])
  rw [cnt,hys,lacks_snoc,lacks_congr (g:=s.fi) (fun q hq=>fij q (by have:=(hysm q hq).1;omega))]
  unfold lack
  rw [if_neg hf];omega
theorem step_ok {s:TS} {k:Nat} {m c:Int} (h:TI s k m) (hm:m≠0) (hc:c=0∨c=2):TI (tstep s k c) (k+1) (m+c-1):=by
  obtain ⟨par,fst,snd,wlt,asc,two,fk,sk,cnt⟩:=kid_ok h hm
  unfold tstep
  rcases hc with rfl | rfl
  · rw [if_neg (by omega)]
    refine ⟨par,fst,snd,fun p hp=>⟨by have:=(wlt p hp).1;omega,(wlt p hp).2⟩,asc,fun p hp hw => ?_,by rw [if_neg (by omega),cnt];omega⟩
    by_cases e:p=k
    · subst e;rw [fk,sk]
    exact two p (by omega) hw
  rw [if_pos rfl]
  refine ⟨par,fst,snd,fun p hp => ?_,?_,fun p hp hw => ?_,?_⟩
  · rcases List.mem_append.1 hp with hp | hp
    · exact ⟨by have:=(wlt p hp).1;omega,(wlt p hp).2⟩
    obtain rfl:p=k:=by simpa using hp
    exact ⟨by omega,sk⟩
  · refine List.pairwise_append.2 ⟨asc,by simp,fun a ha b hb => ?_⟩
    obtain rfl:b=k:=by simpa using hb
    exact (wlt a ha).1
  · have h1:p ∉ (tkid s k).wt∧p≠k:=by simpa [not_or] using hw
    exact two p (by omega) h1.1
  rw [if_neg (by omega)]
  dsimp only
  rw [lacks_snoc,cnt]
  unfold lack
  rw [fk];simp;omega
theorem run_ok (xs:List Int) (hs:shp xs=true):∀ k,k≤xs.length→∃ m,TI (trun xs k) k m∧shpF (xs.drop k) m=true
  | 0,_=>⟨1,⟨fun _ h=>by omega,fun _ h=>by omega,fun _ h=>by omega,fun _ h=>by simp [trun] at h,by simp [trun],fun _ h=>by omega,by simp⟩,by simpa [shp] using hs⟩
  | k+1,hk=>by
    obtain ⟨m,hI,hF⟩:=run_ok xs hs k (by omega)
    have hd:xs.drop k=xs[k]'(by omega)::xs.drop (k+1):=List.drop_eq_getElem_cons (by omega)
    rw [hd,shpF] at hF
    by_cases h0:m=0
    · rw [if_pos h0] at hF;cases hF
    rw [if_neg h0] at hF
    by_cases h1:xs[k]'(by omega)≠0∧xs[k]'(by omega)≠2
    · rw [if_pos h1] at hF;cases hF
    rw [if_neg h1] at hF
    refine ⟨_,?_,hF⟩
    have hg:xs.getD k 0=xs[k]'(by omega):=by simp [List.getD,List.getElem?_eq_getElem (show k<xs.length by omega)]
    show TI (tstep (trun xs k) k (xs.getD k 0)) (k+1) _
    rw [hg]
    exact step_ok hI h0 (by omega)
def treeL (xs:List Int) (i:Nat):Int × Int × Int:=((trun xs xs.length).fi i,(trun xs xs.length).se i,(trun xs xs.length).pa i)
theorem tree_ok (xs:List Int) (hs:shp xs=true):TI (trun xs xs.length) xs.length 0∧(trun xs xs.length).wt=[]:=by
  obtain ⟨m,hI,hF⟩:=run_ok xs hs xs.length (Nat.le_refl _)
  rw [List.drop_length] at hF
  have hm:m=0:=by simpa [shpF] using hF
  subst hm
  refine ⟨hI,?_⟩
  have hc:=hI.cnt
  by_cases h0:xs.length=0
  · have:xs=[]:=List.eq_nil_of_length_eq_zero h0
    subst this
    rfl
  rw [if_neg h0] at hc;exact lacks_zero _ _ hc.symm
def rowL (top count i:Int):Int × Int × Int :=
  (if top=3∧i=0 then count-1 else i-1,if i=count-1 then (if top=3 then 0 else -1) else i+1,-1)
def nbr (top:Int) (xs:List Int) (count i:Int):Int × Int × Int :=
  if 0≤i∧i<count then (if top=2∨top=3 then rowL top count i else if top=4∧(xs.length:Int)=count∧shp xs=true then treeL xs i.toNat else (-1,-1,-1)) else (-1,-1,-1)
end Go.Proofs.Ytengacodacejiaa
namespace Go.Proofs.Ytengacodacejiaa
open Go.RowKit Go.Deep
set_option maxHeartbeats 12800000
def cf (s:TS) (j:Nat):Int:=if j % 3=0 then s.fi (j / 3) else if j % 3=1 then s.se (j / 3) else s.pa (j / 3)
theorem cf_fi (s:TS) (i:Nat):cf s (i*3)=s.fi i:=by unfold cf;rw [if_pos (by omega)];congr 1;omega
theorem cf_se (s:TS) (i:Nat):cf s (i*3+1)=s.se i:=by unfold cf;rw [if_neg (by omega),if_pos (by omega)];congr 1;omega
theorem cf_pa (s:TS) (i:Nat):cf s (i*3+2)=s.pa i:=by unfold cf;rw [if_neg (by omega),if_neg (by omega)];congr 1;omega
theorem up_fi (s:TS) (i:Nat) (v:Int):up (cf s) (i*3) v=cf ⟨up s.fi i v,s.se,s.pa,s.wt⟩:=by
  funext j;unfold up cf
  by_cases e:j=i*3
  · subst e;rw [if_pos rfl,if_pos (by omega)];dsimp only;rw [if_pos (by omega)]
  rw [if_neg e];split
  · dsimp only;rw [if_neg (by omega)]
  rfl
theorem up_se (s:TS) (i:Nat) (v:Int):up (cf s) (i*3+1) v=cf ⟨s.fi,up s.se i v,s.pa,s.wt⟩:=by
  funext j;unfold up cf
  by_cases e:j=i*3+1
  · subst e;rw [if_pos rfl,if_neg (by omega),if_pos (by omega)];dsimp only;rw [if_pos (by omega)]
  rw [if_neg e];split
  · rfl
  split
  · dsimp only;rw [if_neg (by omega)]
  rfl
theorem up_pa (s:TS) (i:Nat) (v:Int):up (cf s) (i*3+2) v=cf ⟨s.fi,s.se,up s.pa i v,s.wt⟩:=by
  funext j;unfold up cf
  by_cases e:j=i*3+2
  · subst e;rw [if_pos rfl,if_neg (by omega),if_neg (by omega)];dsimp only;rw [if_pos (by omega)]
  rw [if_neg e];split
  · rfl
  split
  · rfl
  dsimp only;rw [if_neg (by omega)]
theorem info_link:(Try.prog.info? 96).map (fun i=>(i.zero,i.size,i.bytes))=some (some (.agg #[.int .i64 0,.int .i64 0,.int .i64 0]),3,24):=by kernel_rfl
theorem elInt:ElT Try.prog 24 3 (.int .i64 0) 1 8:=⟨Try.underlying24,by kernel_rfl,rfl,by decide⟩
theorem treeLinks_full (b off n cap:Nat) (w:World) (xs:List Int) (hx:xs.length=n) (hn:n≤100) (h0:0<n)
    (hc:∀ i,i<n→w.cell? ⟨b,off+i,none⟩=some (.int .i64 (xs.getD i 0))) :
    Calls Try.prog 37 #[.slice (some ⟨b,off,none⟩) n cap] w fun e w'=>∃ g,e = .returned (.slice (some ⟨g,0,none⟩) n n)∧OwnF w.heap.size w' g (n*3) (cf (trun xs n))∧Below w.heap.size w w':=by
  have HC:=Lib.hid hc
  have HX:=Lib.hid hx
  clear hc hx
  have hmk:=make_n (P:=Try.prog) 99 96 _ 3 24 Try.underlying99 info_link n (by omega) (by omega)
  go_enter Try.func37,Try.ntmps37
  go_wp2_with fail
  have HO0:Hid (OwnF w.heap.size (w.alloc (.cells (madeCells #[Value.int IntKind.i64 0,Value.int IntKind.i64 0,Value.int IntKind.i64 0] (n*3)) 96)) w.heap.size (n*3) (cf (trun xs 0))):=by
    refine ⟨Nat.le_refl _,_,_,heap_alloc_new _ _,fun j hj=>made_get _ _ _ _ hj ?_⟩
    have h3:j % 3=0∨j % 3=1∨j % 3=2:=by omega
    unfold cf trun
    rcases h3 with h | h | h<;>simp [h]
  go_loopw [4,14] (fun v u wr=>∃ (k:Nat) (av:Option Addr) (cv:Nat),k≤n∧u = .int .i64 k∧v = .slice av (trun xs k).wt.length cv∧OwnF w.heap.size wr w.heap.size (n*3) (cf (trun xs k))∧wr.ownsRow (w.heap.size+1) 3 1 (.slice av (trun xs k).wt.length cv) (trun xs k).wt.length ((trun xs k).wt.map fun p:Nat=>Value.int .i64 p)∧(∀ p∈(trun xs k).wt,p<k)∧(trun xs k).wt.length≤k∧Below w.heap.size w wr) (fun _ u _=>n-(intOf u).toNat)
  case atStart=>exact ⟨0,_,_,Nat.zero_le _,rfl,rfl,HO0.out,World.ownsRow_nil _ _ _ _,by simp [trun],by simp [trun],Zf _ _⟩
  case round =>
    obtain ⟨k,av,cv,hk,rfl,rfl,hO,hR,hW,hL,hB⟩:=hrel
    have HO:=Lib.hid hO
    have HR:=Lib.hid hR
    have HW:=Lib.hid hW
    have HB:=Lib.hid hB
    by_cases hlt:k<n
    · have g1:wr.cell? ⟨b,off+k,none⟩=some (.int .i64 (xs.getD k 0)):=keep1 (HC.out k hlt) hB
      have hT:trun xs (k+1)=tstep (trun xs k) k (xs.getD k 0):=rfl
      have HT:=Lib.hid hT
      generalize hX:xs.getD k 0=x at g1 HT
      generalize hS:trun xs k=s at HO HR HW HT hL
      have f0:=HO.out.cell (k*3) (by omega)
      have f1:=HO.out.cell (k*3+1) (by omega)
      have f2:=HO.out.cell (k*3+2) (by omega)
      have z0:=HO.out.frozen (k*3)
      have z1:=HO.out.frozen (k*3+1)
      have z2:=HO.out.frozen (k*3+2)
      have zz:=HO.out.lt
      clear hX hS hT hO hR hW hB
      rcases hw:s.wt.getLast? with _ | p
      · have hnil:s.wt=[]:=by simpa using hw
        have hl0:s.wt.length=0:=by rw [hnil];rfl
        have HNil:=Lib.hid hnil
        have HW0:=Lib.hid hw
        rw [hl0] at HR ⊢
        clear hnil hl0 hw
        have HS:Hid (OwnF w.heap.size (((wr.setCell ⟨w.heap.size,k*3,none⟩ (.int .i64 (-1))).setCell ⟨w.heap.size,k*3+1,none⟩ (.int .i64 (-1))).setCell ⟨w.heap.size,k*3+2,none⟩ (.int .i64 (-1))) w.heap.size (n*3) (cf (tkid s k))):=by
          have:=((HO.out.set (k*3) (-1)).set (k*3+1) (-1)).set (k*3+2) (-1)
          rw [up_fi,up_se,up_pa] at this
          show OwnF _ _ _ _ _
          unfold tkid
          rw [HW0.out]
          exact this
        have HK:Hid ((tkid s k).wt=[]):=by
          show (tkid s k).wt=[]
          unfold tkid
          rw [HW0.out]
          exact HNil.out
        have HR2:Hid ((((wr.setCell ⟨w.heap.size,k*3,none⟩ (.int .i64 (-1))).setCell ⟨w.heap.size,k*3+1,none⟩ (.int .i64 (-1))).setCell ⟨w.heap.size,k*3+2,none⟩ (.int .i64 (-1))).ownsRow (w.heap.size+1) 3 1 (.slice av 0 cv) 0 []):=by
          have h:=HR.out
          rw [HNil.out] at h
          exact ownsRow_setCell_below (ownsRow_setCell_below (ownsRow_setCell_below h (by simp) _) (by simp) _) (by simp) _
        by_cases x2:x=2
        · subst x2
          go_wp2_with (at_builtin;refine KL elInt (by rfl) (.tmp 58) (.tmp 60) (by rfl) (w.heap.size+1) _ 0 [] [.int .i64 k] wr.heap.size (by rfl) (by rfl) (by simp) HR2.out (by rfl) (by intro u hu;simp at hu;subst hu;rfl) (by omega) (by unfold maxLen;omega) (by omega) (by rfl) ?_;intro g cap w1 hown hgrow hat hlo hlt hsz)
          go_roundw
          case rel =>
            have hTS:trun xs (k+1)=⟨(tkid s k).fi,(tkid s k).se,(tkid s k).pa,[k]⟩:=by rw [HT.out];unfold tstep;rw [if_pos rfl,HK.out];rfl
            refine ⟨k+1,some ⟨g,0,none⟩,cap,by omega,by go_num,?_,?_,?_,?_,?_,?_⟩
            all_goals (try rw [hTS])
            · rfl
            · exact HS.out.grown hgrow (fun e=>by have:=(HR2.out.lt _ e).1;omega)
            · exact hown
            · simp
            · simp
            exact (((HB.out.setCell (by simp) _).setCell (by simp) _).setCell (by simp) _).grown hgrow (by simp;omega) (fun k hk=>by have:=(HR2.out.lt _ hk).1;omega)
          case measure=>simp [intOf];omega
        have x3:(x==2)=false:=by simpa using x2
        have X2:=Lib.hid x2
        clear x2
        go_wp2_with fail
        go_roundw
        case rel =>
          have hTS:trun xs (k+1)=tkid s k:=by rw [HT.out];unfold tstep;rw [if_neg X2.out]
          refine ⟨k+1,av,cv,by omega,by go_num,?_,?_,?_,?_,?_,((HB.out.setCell (by simp) _).setCell (by simp) _).setCell (by simp) _⟩
          all_goals rw [hTS]
          · rw [HK.out];rfl
          · exact HS.out
          · rw [HK.out];exact HR2.out
          · rw [HK.out];simp
          rw [HK.out];simp
        case measure=>simp [intOf];omega
      obtain ⟨ys,hys⟩:∃ ys,s.wt=ys++[p]:=List.getLast?_eq_some_iff.1 hw
      have hpk:p<k:=HW.out p (by rw [hys];simp)
      have hl1:s.wt.length=ys.length+1:=by rw [hys];simp
      have hyl:ys.length+1≤k:=by omega
      have HY:=Lib.hid hys
      have HW0:=Lib.hid hw
      rw [hl1] at HR ⊢
      obtain ⟨gw,rfl,hgw,hgs,hcv,hcm,hcells⟩:=row_last HR.out
      have q1:wr.cell? ⟨gw,ys.length,none⟩=some (.int .i64 p):=by rw [hcells _ (by omega),HY.out];simp
      have q2:wr.cell? ⟨w.heap.size,p*3,none⟩=some (.int .i64 (s.fi p)):=by rw [← cf_fi];exact HO.out.cell _ (by omega)
      have q3:wr.cell? ⟨w.heap.size,p*3+1,none⟩=some (.int .i64 (s.se p)):=by rw [← cf_se];exact HO.out.cell _ (by omega)
      have q4:=HO.out.frozen (p*3)
      have q5:=HO.out.frozen (p*3+1)
      have n1:p*3≠k*3:=by omega
      have n2:p*3≠k*3+1:=by omega
      have n3:p*3≠k*3+2:=by omega
      have n4:p*3+1≠k*3:=by omega
      have n5:p*3+1≠k*3+1:=by omega
      have n6:p*3+1≠k*3+2:=by omega
      have n7:gw≠w.heap.size:=by omega
      have CM:=Lib.hid hcm
      unfold maxLen at hcm
      clear hys hl1 hw hcells hL
      by_cases hf:s.fi p<0
      · have HK:Hid ((tkid s k).wt=s.wt):=by
          show (tkid s k).wt=s.wt
          unfold tkid
          rw [HW0.out]
          dsimp only
          rw [up_ne _ _ (by omega:p≠k),if_pos hf]
        have HS:Hid (OwnF w.heap.size (((((wr.setCell ⟨w.heap.size,k*3,none⟩ (.int .i64 (-1))).setCell ⟨w.heap.size,k*3+1,none⟩ (.int .i64 (-1))).setCell ⟨w.heap.size,k*3+2,none⟩ (.int .i64 (-1))).setCell ⟨w.heap.size,k*3+2,none⟩ (.int .i64 p)).setCell ⟨w.heap.size,p*3,none⟩ (.int .i64 k)) w.heap.size (n*3) (cf (tkid s k))):=by
          have:=((((HO.out.set (k*3) (-1)).set (k*3+1) (-1)).set (k*3+2) (-1)).set (k*3+2) p).set (p*3) k
          rw [up_fi,up_se,up_pa,up_pa,up_fi] at this
          show OwnF _ _ _ _ _
          unfold tkid
          rw [HW0.out]
          dsimp only
          rw [up_ne _ _ (by omega:p≠k),if_pos hf]
          exact this
        have HL:Hid (s.wt.length=(ys.length+1)):=by
          show _=_
          rw [HY.out];simp
        have HR2:Hid ((((((wr.setCell ⟨w.heap.size,k*3,none⟩ (.int .i64 (-1))).setCell ⟨w.heap.size,k*3+1,none⟩ (.int .i64 (-1))).setCell ⟨w.heap.size,k*3+2,none⟩ (.int .i64 (-1))).setCell ⟨w.heap.size,k*3+2,none⟩ (.int .i64 p)).setCell ⟨w.heap.size,p*3,none⟩ (.int .i64 k)).ownsRow (w.heap.size+1) 3 1 (.slice (some ⟨gw,0,none⟩) (ys.length+1) cv) (ys.length+1) (s.wt.map fun p:Nat=>Value.int .i64 p)):=by
          exact ownsRow_setCell_below (ownsRow_setCell_below (ownsRow_setCell_below (ownsRow_setCell_below (ownsRow_setCell_below HR.out (by simp) _) (by simp) _) (by simp) _) (by simp) _) (by simp) _
        have HM:Hid (∀ q∈s.wt,q<k):=fun q hq=>HW.out q (by exact hq)
        by_cases x2:x=2
        · subst x2
          go_wp2_with (at_builtin;refine KL elInt (by rfl) (.tmp 58) (.tmp 60) (by rfl) (w.heap.size+1) _ (ys.length+1) _ [.int .i64 k] wr.heap.size (by rfl) (by rfl) (by simp) HR2.out (by rfl) (by intro u hu;simp at hu;subst hu;rfl) (by omega) (by unfold maxLen;omega) (by omega) (by rfl) ?_;intro g cap w1 hown hgrow hat hlo hlt hsz)
          go_roundw
          case rel =>
            have hTS:trun xs (k+1)=⟨(tkid s k).fi,(tkid s k).se,(tkid s k).pa,s.wt++[k]⟩:=by rw [HT.out];unfold tstep;rw [if_pos rfl,HK.out]
            have hln:(s.wt++[k]).length=(ys.length+1)+1:=by rw [List.length_append,HL.out];rfl
            refine ⟨k+1,some ⟨g,0,none⟩,cap,by omega,by go_num,?_,?_,?_,?_,?_,(((((HB.out.setCell (by simp) _).setCell (by simp) _).setCell (by simp) _).setCell (by simp) _).setCell (by simp) _).grown hgrow (by simp;omega) (fun k hk=>by have:=(HR2.out.lt _ hk).1;omega)⟩
            all_goals rw [hTS]
            · dsimp only;rw [hln]
            · exact HS.out.grown hgrow (fun e=>by have:=(HR2.out.lt _ e).1;omega)
            · dsimp only;rw [hln,List.map_append];exact hown
            · intro q hq
              rcases List.mem_append.1 hq with hq | hq
              · have:=HM.out q hq;omega
              obtain rfl:q=k:=by simpa using hq
              omega
            dsimp only;rw [hln];omega
          case measure=>simp [intOf];omega
        have x3:(x==2)=false:=by simpa using x2
        have X2:=Lib.hid x2
        clear x2
        go_wp2_with fail
        go_roundw
        case rel =>
          have hTS:trun xs (k+1)=tkid s k:=by rw [HT.out];unfold tstep;rw [if_neg X2.out]
          refine ⟨k+1,some ⟨gw,0,none⟩,cv,by omega,by go_num,?_,?_,?_,?_,?_,((((HB.out.setCell (by simp) _).setCell (by simp) _).setCell (by simp) _).setCell (by simp) _).setCell (by simp) _⟩
          all_goals rw [hTS]
          · rw [HK.out,HL.out]
          · exact HS.out
          · rw [HK.out,HL.out];exact HR2.out
          · rw [HK.out];exact fun q hq=>by have:=HM.out q hq;omega
          rw [HK.out,HL.out];omega
        case measure=>simp [intOf];omega
      have HK:Hid ((tkid s k).wt=ys):=by
        show (tkid s k).wt=ys
        unfold tkid
        rw [HW0.out]
        dsimp only
        rw [up_ne _ _ (by omega:p≠k),if_neg hf]
        show s.wt.dropLast=ys;rw [HY.out];simp
      have HS:Hid (OwnF w.heap.size (((((wr.setCell ⟨w.heap.size,k*3,none⟩ (.int .i64 (-1))).setCell ⟨w.heap.size,k*3+1,none⟩ (.int .i64 (-1))).setCell ⟨w.heap.size,k*3+2,none⟩ (.int .i64 (-1))).setCell ⟨w.heap.size,k*3+2,none⟩ (.int .i64 p)).setCell ⟨w.heap.size,p*3+1,none⟩ (.int .i64 k)) w.heap.size (n*3) (cf (tkid s k))):=by
        have:=((((HO.out.set (k*3) (-1)).set (k*3+1) (-1)).set (k*3+2) (-1)).set (k*3+2) p).set (p*3+1) k
        rw [up_fi,up_se,up_pa,up_pa,up_se] at this
        show OwnF _ _ _ _ _
        unfold tkid
        rw [HW0.out]
        dsimp only
        rw [up_ne _ _ (by omega:p≠k),if_neg hf]
        exact this
      have HL:Hid (ys.length=ys.length):=by
        show _=_
        rfl
      have HR2:Hid ((((((wr.setCell ⟨w.heap.size,k*3,none⟩ (.int .i64 (-1))).setCell ⟨w.heap.size,k*3+1,none⟩ (.int .i64 (-1))).setCell ⟨w.heap.size,k*3+2,none⟩ (.int .i64 (-1))).setCell ⟨w.heap.size,k*3+2,none⟩ (.int .i64 p)).setCell ⟨w.heap.size,p*3+1,none⟩ (.int .i64 k)).ownsRow (w.heap.size+1) 3 1 (.slice (some ⟨gw,0,none⟩) ys.length cv) ys.length (ys.map fun p:Nat=>Value.int .i64 p)):=by
        have h:=row_cut HR.out
        rw [HY.out,List.map_append,List.take_append_of_le_length (by simp),List.take_of_length_le (by simp)] at h
        exact ownsRow_setCell_below (ownsRow_setCell_below (ownsRow_setCell_below (ownsRow_setCell_below (ownsRow_setCell_below h (by simp) _) (by simp) _) (by simp) _) (by simp) _) (by simp) _
      have HM:Hid (∀ q∈ys,q<k):=fun q hq=>HW.out q (by rw [HY.out];simp [hq])
      by_cases x2:x=2
      · subst x2
        go_wp2_with (at_builtin;refine KL elInt (by rfl) (.tmp 58) (.tmp 60) (by rfl) (w.heap.size+1) _ ys.length _ [.int .i64 k] wr.heap.size (by rfl) (by rfl) (by simp) HR2.out (by rfl) (by intro u hu;simp at hu;subst hu;rfl) (by omega) (by unfold maxLen;omega) (by omega) (by rfl) ?_;intro g cap w1 hown hgrow hat hlo hlt hsz)
        go_roundw
        case rel =>
          have hTS:trun xs (k+1)=⟨(tkid s k).fi,(tkid s k).se,(tkid s k).pa,ys++[k]⟩:=by rw [HT.out];unfold tstep;rw [if_pos rfl,HK.out]
          have hln:(ys++[k]).length=ys.length+1:=by rw [List.length_append,HL.out];rfl
          refine ⟨k+1,some ⟨g,0,none⟩,cap,by omega,by go_num,?_,?_,?_,?_,?_,(((((HB.out.setCell (by simp) _).setCell (by simp) _).setCell (by simp) _).setCell (by simp) _).setCell (by simp) _).grown hgrow (by simp;omega) (fun k hk=>by have:=(HR2.out.lt _ hk).1;omega)⟩
          all_goals rw [hTS]
          · dsimp only;rw [hln]
          · exact HS.out.grown hgrow (fun e=>by have:=(HR2.out.lt _ e).1;omega)
          · dsimp only;rw [hln,List.map_append];exact hown
          · intro q hq
            rcases List.mem_append.1 hq with hq | hq
            · have:=HM.out q hq;omega
            obtain rfl:q=k:=by simpa using hq
            omega
          dsimp only;rw [hln];omega
        case measure=>simp [intOf];omega
      have x3:(x==2)=false:=by simpa using x2
      have X2:=Lib.hid x2
      clear x2
      go_wp2_with fail
      go_roundw
      case rel =>
        have hTS:trun xs (k+1)=tkid s k:=by rw [HT.out];unfold tstep;rw [if_neg X2.out]
        refine ⟨k+1,some ⟨gw,0,none⟩,cv,by omega,by go_num,?_,?_,?_,?_,?_,((((HB.out.setCell (by simp) _).setCell (by simp) _).setCell (by simp) _).setCell (by simp) _).setCell (by simp) _⟩
        all_goals rw [hTS]
        · rw [HK.out,HL.out]
        · exact HS.out
        · rw [HK.out,HL.out];exact HR2.out
        · rw [HK.out];exact fun q hq=>by have:=HM.out q hq;omega
        rw [HK.out,HL.out];omega
      case measure=>simp [intOf];omega
    obtain rfl:k=n:=by omega
    go_wp2_with fail
    go_ret
    exact ⟨_,rfl,HO.out,HB.out⟩
def isShp (xs:List Int) (count:Int):Bool:=decide ((xs.length:Int)=count)&&shp xs
theorem isShape_full (b off n cap:Nat) (count:Int) (w:World) (xs:List Int) (hx:xs.length=n) (hn:n≤1000000)
    (hc:∀ i,i<n→w.cell? ⟨b,off+i,none⟩=some (.int .i64 (xs.getD i 0))) :
    Calls Try.prog 36 #[.slice (some ⟨b,off,none⟩) n cap,.int .i64 count] w fun e w'=>e = .returned (.bool (isShp xs count))∧w=w':=by
  have HC:=Lib.hid hc
  have HX:=Lib.hid hx
  clear hc hx
  by_cases hn':(n:Int)=count
  · subst hn'
    go_enter Try.func36,Try.ntmps36
    go_wp2_with fail
    go_loop [5,14] (fun v u=>∃ (k:Nat) (m:Int),k≤n∧u = .int .i64 k∧v = .int .i64 m∧0≤m∧m≤k+1∧shpF (xs.drop k) m=shp xs) (fun _ u=>n-(intOf u).toNat)
    case atStart=>exact ⟨0,1,Nat.zero_le _,rfl,rfl,by omega,by omega,rfl⟩
    case round =>
      obtain ⟨k,m,hk,rfl,rfl,h0,h1,hs⟩:=hrel
      have HS:=Lib.hid hs
      clear hs
      by_cases hlt:k<n
      · have g1:=HC.out k hlt
        have HD:=Lib.hid (show shpF (xs.drop k) m=if m=0 then false else if xs.getD k 0≠0∧xs.getD k 0≠2 then false else shpF (xs.drop (k+1)) (m+xs.getD k 0-1) by
          have hd:xs.drop k=xs[k]'(by rw [HX.out];exact hlt)::xs.drop (k+1):=List.drop_eq_getElem_cons _
          rw [hd,shpF,show xs.getD k 0=xs[k]'(by rw [HX.out];exact hlt) by simp [List.getD,List.getElem?_eq_getElem (show k<xs.length by rw [HX.out];exact hlt)]])
        generalize hX:xs.getD k 0=x at g1 HD
        clear hX
        by_cases m0:m=0
        · subst m0
          go_wp2_with fail
          go_ret
          exact ⟨Zh (by unfold isShp;rw [← HS.out,HD.out];simp),rfl⟩
        have m1:(m==0)=false:=by simpa using m0
        have M0:=Lib.hid m0
        have m2:1≤m:=by omega
        clear m0
        by_cases x0:x=0
        · subst x0
          go_wp2_with fail
          go_round
          case rel=>exact ⟨k+1,m-1,by omega,by go_num,by go_num,by omega,by omega,by rw [← HS.out,HD.out,if_neg M0.out,if_neg (by omega)];congr 1;omega⟩
          case measure=>simp [intOf];omega
        by_cases x2:x=2
        · subst x2
          go_wp2_with fail
          go_round
          case rel=>exact ⟨k+1,m+1,by omega,by go_num,by go_num,by omega,by omega,by rw [← HS.out,HD.out,if_neg M0.out,if_neg (by omega)];congr 1;omega⟩
          case measure=>simp [intOf];omega
        have x3:(x != 0)=true:=by simpa using x0
        have x4:(x != 2)=true:=by simpa using x2
        have XX:=Lib.hid (And.intro x0 x2)
        clear x0 x2
        go_wp2_with fail
        go_ret
        exact ⟨Zh (by unfold isShp;rw [← HS.out,HD.out,if_neg M0.out,if_pos XX.out,Bool.and_false]),rfl⟩
      have HE:=Lib.hid (show shp xs=(m==0) by
        rw [← HS.out,List.drop_eq_nil_of_le (by rw [HX.out];omega),shpF];rfl)
      go_wp2_with fail
      go_ret
      exact ⟨Zh (by unfold isShp;rw [HX.out,decide_eq_true rfl,HE.out,Bool.true_and]),rfl⟩
  have e1:((n:Int)==count)=false:=by simpa using hn'
  have e2:((n:Int) != count)=true:=by simpa using hn'
  have HN:=Lib.hid hn'
  clear hn'
  go_enter Try.func36,Try.ntmps36
  go_wp2_with fail
  go_ret
  exact ⟨Zh (by unfold isShp;rw [HX.out,decide_eq_false HN.out];rfl),rfl⟩
theorem isShape_empty (a:Option Addr) (cap:Nat) (count:Int) (w:World) :
    Calls Try.prog 36 #[.slice a 0 cap,.int .i64 count] w fun e w'=>e = .returned (.bool (isShp [] count))∧w=w':=by
  by_cases hn:count=0
  · subst hn
    go_enter Try.func36,Try.ntmps36
    go_wp2_with fail
    refine wp_loop_rounds 1 ?_
    rw [rounds_succ]
    go_wp2_with fail
    go_ret
    exact ⟨rfl,rfl⟩
  have e1:((0:Int)==count)=false:=by simp;omega
  have e2:((0:Int) != count)=true:=by simp;omega
  have HN:=Lib.hid hn
  clear hn
  go_enter Try.func36,Try.ntmps36
  go_wp2_with fail
  go_ret
  exact ⟨Zh (by unfold isShp;rw [decide_eq_false (by have:=HN.out;simp;omega)];rfl),rfl⟩
theorem isShape_any {lo:Nat} {w:World} {v:Value} {xs:List Int} (count:Int) (h:IsInts lo w v xs) (hn:xs.length≤1000000) :
    Calls Try.prog 36 #[v,.int .i64 count] w fun e w'=>e = .returned (.bool (isShp xs count))∧w=w':=by
  obtain ⟨a,cap,rfl,hl,hm,hi,hc⟩:=h
  rcases hc with rfl | ⟨b,off,rfl,_,_,hc⟩
  · exact isShape_empty _ _ _ _
  exact isShape_full _ _ _ _ _ _ _ rfl hn hc
theorem ret_agg3 {a b c a' b' c':Int} (h:(a,b,c)=(a',b',c')):Ending.returned (.agg #[.int .i64 a,.int .i64 b,.int .i64 c]) = .returned (.agg #[.int .i64 a',.int .i64 b',.int .i64 c']):=by cases h;rfl
theorem rowLink_any (top count i:Int) (w:World) (h0:0≤i) (h1:i<count) (hc:count≤9223372036854775807) :
    Calls Try.prog 35 #[.int .i64 top,.int .i64 count,.int .i64 i] w fun e w'=>e = .returned (.agg #[.int .i64 (rowL top count i).1,.int .i64 (rowL top count i).2.1,.int .i64 (rowL top count i).2.2])∧Below w.heap.size w w':=by
  have E:Hid (rowL top count i=(if top=3∧i=0 then count-1 else i-1,if i=count-1 then (if top=3 then 0 else -1) else i+1,-1)):=(rfl:rowL top count i=_)
  by_cases hl:i=count-1
  · have b1:(i==count-1)=true:=by simpa using hl
    have HL:=Lib.hid hl
    clear hl
    by_cases ht:top=3
    · subst ht
      by_cases hz:i=0
      · subst hz
        go_enter Try.func35,Try.ntmps35
        go_wp2_with fail
        refine bodyPost_ret (v := .agg #[.int .i64 (count-1),.int .i64 (0),.int .i64 (-1)]) (by simp [results,Try.results35,go_sem]) rfl ⟨ret_agg3 ?_,by go_grown⟩
        have h:=HL.out;rw [E.out];simp [← h]
      have b2:(i==0)=false:=by simpa using hz
      have HZ:=Lib.hid hz
      clear hz
      go_enter Try.func35,Try.ntmps35
      go_wp2_with fail
      refine bodyPost_ret (v := .agg #[.int .i64 (i-1),.int .i64 (0),.int .i64 (-1)]) (by simp [results,Try.results35,go_sem]) rfl ⟨ret_agg3 ?_,by go_grown⟩
      have h:=HL.out;have h2:=HZ.out;rw [E.out];simp [← h,h2]
    have b2:(top==3)=false:=by simpa using ht
    have HT:=Lib.hid ht
    clear ht
    go_enter Try.func35,Try.ntmps35
    go_wp2_with fail
    refine bodyPost_ret (v := .agg #[.int .i64 (i-1),.int .i64 (-1),.int .i64 (-1)]) (by simp [results,Try.results35,go_sem]) rfl ⟨ret_agg3 ?_,by go_grown⟩
    have h:=HL.out;have h2:=HT.out;rw [E.out];simp [← h,h2]
  have b1:(i==count-1)=false:=by simpa using hl
  have HL:=Lib.hid hl
  clear hl
  by_cases ht:top=3
  · subst ht
    by_cases hz:i=0
    · subst hz
      go_enter Try.func35,Try.ntmps35
      go_wp2_with fail
      refine bodyPost_ret (v := .agg #[.int .i64 (count-1),.int .i64 (0+1),.int .i64 (-1)]) (by simp [results,Try.results35,go_sem]) rfl ⟨ret_agg3 ?_,by go_grown⟩
      have h:=HL.out;rw [E.out];simp [h]
    have b2:(i==0)=false:=by simpa using hz
    have HZ:=Lib.hid hz
    clear hz
    go_enter Try.func35,Try.ntmps35
    go_wp2_with fail
    refine bodyPost_ret (v := .agg #[.int .i64 (i-1),.int .i64 (i+1),.int .i64 (-1)]) (by simp [results,Try.results35,go_sem]) rfl ⟨ret_agg3 ?_,by go_grown⟩
    have h:=HL.out;have h2:=HZ.out;rw [E.out];simp [h,h2]
  have b2:(top==3)=false:=by simpa using ht
  have HT:=Lib.hid ht
  clear ht
  go_enter Try.func35,Try.ntmps35
  go_wp2_with fail
  refine bodyPost_ret (v := .agg #[.int .i64 (i-1),.int .i64 (i+1),.int .i64 (-1)]) (by simp [results,Try.results35,go_sem]) rfl ⟨ret_agg3 ?_,by go_grown⟩
  have h:=HL.out;have h2:=HT.out;rw [E.out];simp [h,h2]
def nbrV (t:Int × Int × Int):Value := .tuple #[.int .i64 t.1,.int .i64 t.2.1,.int .i64 t.2.2]
theorem ret_nbr {a b c:Int} {t:Int × Int × Int} (h:t=(a,b,c)):Ending.returned (.tuple #[.int .i64 a,.int .i64 b,.int .i64 c]) = .returned (nbrV t):=by subst h;rfl
theorem Neighbors_any {lo:Nat} {w:World} {v:Value} {xs:List Int} (top count i:Int) (h:IsInts lo w v xs) (hn:xs.length≤100) (hc:count≤9223372036854775807) :
    Calls Try.prog 20 #[.int .i64 top,v,.int .i64 count,.int .i64 i] w fun e w'=>e = .returned (nbrV (nbr top xs count i))∧Below w.heap.size w w':=by
  have H:=Lib.hid h
  obtain ⟨a,cap,rfl⟩:=h.shape
  clear h
  by_cases hi:0≤i
  · by_cases hl:i<count
    · have HI:=Lib.hid (And.intro hi hl)
      by_cases t2:top=2
      · subst t2
        have E:=Lib.hid (show nbr 2 xs count i=rowL 2 count i by unfold nbr;rw [if_pos HI.out,if_pos (by simp)])
        go_enter Try.func20,Try.ntmps20
        go_wp2_with (go_at_call 35;refine (rowLink_any _ _ _ _ HI.out.1 HI.out.2 hc).mono ?_;rintro e w1 ⟨rfl,hb1⟩;obtain ⟨pa,pb⟩:=blk hb1 (n:=w.heap.size) (by go_size);have hz1:w.heap.size<w1.heap.size:=(by have:=hb1.size;simp at this;omega);have HB1:=Lib.hid (Below.trans (by go_grown) (hb1.mono (by go_size)):Below w.heap.size w w1);clear hb1)
        go_quiet (fail)
        go_wp2_with fail
        go_ret3
        exact ⟨ret_nbr (by rw [E.out]),quietBelow (((HB1.out.setCell (by simp) _).setCell (by simp) _).setCell (by simp) _) _⟩
      have b2:(top==2)=false:=by simpa using t2
      by_cases t3:top=3
      · subst t3
        have E:=Lib.hid (show nbr 3 xs count i=rowL 3 count i by unfold nbr;rw [if_pos HI.out,if_pos (by simp)])
        go_enter Try.func20,Try.ntmps20
        go_wp2_with (go_at_call 35;refine (rowLink_any _ _ _ _ HI.out.1 HI.out.2 hc).mono ?_;rintro e w1 ⟨rfl,hb1⟩;obtain ⟨pa,pb⟩:=blk hb1 (n:=w.heap.size) (by go_size);have hz1:w.heap.size<w1.heap.size:=(by have:=hb1.size;simp at this;omega);have HB1:=Lib.hid (Below.trans (by go_grown) (hb1.mono (by go_size)):Below w.heap.size w w1);clear hb1)
        go_quiet (fail)
        go_wp2_with fail
        go_ret3
        exact ⟨ret_nbr (by rw [E.out]),quietBelow (((HB1.out.setCell (by simp) _).setCell (by simp) _).setCell (by simp) _) _⟩
      have b3:(top==3)=false:=by simpa using t3
      have HT:=Lib.hid (And.intro t2 t3)
      clear t2 t3
      by_cases t4:top=4
      · subst t4
        cases hs:isShp xs count with
        | true =>
          have HS:=Lib.hid hs
          have hp:(xs.length:Int)=count∧shp xs=true:=by unfold isShp at hs;simpa using hs
          have E:=Lib.hid (show nbr 4 xs count i=treeL xs i.toNat by unfold nbr;rw [if_pos HI.out,if_neg (by simp),if_pos ⟨rfl,hp⟩])
          obtain ⟨j,rfl⟩:=Int.eq_ofNat_of_zero_le hi
          have hj:j<xs.length:=by omega
          have hcl:=hp.1
          have HP:=Lib.hid hp
          clear hp
          obtain ⟨b,off,rfl,hbw,hcell⟩:∃ b off,a=some ⟨b,off,none⟩∧b<w.heap.size∧∀ i,i<xs.length→w.cell? ⟨b,off+i,none⟩=some (.int .i64 (xs.getD i 0)):=by
            obtain ⟨a',cap',hv,_,_,_,hc⟩:=H.out
            simp only [Value.slice.injEq] at hv
            rcases hc with h0 | ⟨b,off,ha,_,hb,hc⟩
            · rw [h0] at hj;simp at hj
            exact ⟨b,off,hv.1.trans ha,hb,hc⟩
          have HCell:=Lib.hid hcell
          clear hcell hcl
          go_enter Try.func20,Try.ntmps20
          go_wp2_with (first | (go_at_call 36;refine (isShape_any count (H.out.below (by go_grown)) (by omega)).mono ?_;rintro e w1 ⟨rfl,rfl⟩) | (go_at_call 37;refine (treeLinks_full b off xs.length cap _ xs rfl hn (by omega) (fun i hi=>keep1 (HCell.out i hi) (by go_grown))).mono ?_;rintro e w1 ⟨g,rfl,hO,hb1⟩;obtain ⟨pa,pb⟩:=blk hb1 (n:=w.heap.size) (by go_size);have hz1:w.heap.size<w1.heap.size:=(by have:=hb1.size;simp at this;omega);have HB1:=Lib.hid (Below.trans (by go_grown) (hb1.mono (by go_size)):Below w.heap.size w w1);have c0:=hO.cell (j*3) (by omega);have c1:=hO.cell (j*3+1) (by omega);have c2:=hO.cell (j*3+2) (by omega);rw [cf_fi] at c0;rw [cf_se] at c1;rw [cf_pa] at c2;clear hb1 hO))
          go_quiet (fail)
          go_wp2_with fail
          go_ret3
          exact ⟨ret_nbr (by rw [E.out];rfl),quietBelow (((HB1.out.setCell (by simp) _).setCell (by simp) _).setCell (by simp) _) _⟩
        | false =>
          have E:=Lib.hid (show nbr 4 xs count i=(-1,-1,-1) by
            unfold nbr;rw [if_pos HI.out,if_neg (by simp),if_neg (by rintro ⟨_,h1,h2⟩;unfold isShp at hs;rw [decide_eq_true h1,h2] at hs;cases hs)])
          have HS:=Lib.hid hs
          go_enter Try.func20,Try.ntmps20
          go_wp2_with (go_at_call 36;refine (isShape_any count (H.out.below (by go_grown)) (by omega)).mono ?_;rintro e w1 ⟨rfl,rfl⟩)
          go_quiet (fail)
          go_wp2_with fail
          go_ret3
          exact ⟨ret_nbr (by rw [E.out]),quietBelow (Zf _ _) _⟩
      have b4:(top==4)=false:=by simpa using t4
      have E:=Lib.hid (show nbr top xs count i=(-1,-1,-1) by unfold nbr;rw [if_pos HI.out,if_neg (by have:=HT.out;omega),if_neg (by rintro ⟨h,_⟩;exact t4 h)])
      clear t4
      go_enter Try.func20,Try.ntmps20
      go_wp2_with (fail)
      go_quiet (fail)
      go_wp2_with fail
      go_ret3
      exact ⟨ret_nbr (by rw [E.out]),quietBelow (Zf _ _) _⟩
    have E:=Lib.hid (show nbr top xs count i=(-1,-1,-1) by unfold nbr;rw [if_neg (by omega)])
    go_enter Try.func20,Try.ntmps20
    go_wp2_with (fail)
    go_quiet (fail)
    go_wp2_with fail
    go_ret3
    exact ⟨ret_nbr (by rw [E.out]),quietBelow (Zf _ _) _⟩
  have E:=Lib.hid (show nbr top xs count i=(-1,-1,-1) by unfold nbr;rw [if_neg (by omega)])
  go_enter Try.func20,Try.ntmps20
  go_wp2_with (fail)
  go_quiet (fail)
  go_wp2_with fail
  go_ret3
  exact ⟨ret_nbr (by rw [E.out]),quietBelow (Zf _ _) _⟩
end Go.Proofs.Ytengacodacejiaa
namespace Go.Proofs.Ytengacodacejiaa
def digF (n k j:Nat):Int:=(((k / 2 ^ (n-1-j)) % 2:Nat):Int)*2
def dig (n k:Nat):List Int:=(List.range n).map (digF n k)
theorem Kn (n k:Nat):(dig n k).length=n:=by simp [dig]
theorem dig_get (n k j:Nat) (h:j<n):(dig n k).getD j 0=digF n k j:=by simp [dig,List.getD,h]
theorem digF_small (n k j:Nat):0≤digF n k j∧digF n k j≤2:=by unfold digF;omega
def shK (n k:Nat):List (List Int):=((List.range k).map (dig n)).filter shp
def shL (n:Nat):List (List Int):=shK n (2 ^ n)
theorem shK_succ (n k:Nat):shK n (k+1)=if shp (dig n k) then shK n k++[dig n k] else shK n k:=by
  unfold shK
  rw [List.range_succ,List.map_append,List.filter_append]
  by_cases h:shp (dig n k)=true
  · simp [h]
  simp [h]
theorem shK_len (n k:Nat):(shK n k).length≤k:=by
  have:=List.length_filter_le shp ((List.range k).map (dig n))
  simpa [shK] using this
end Go.Proofs.Ytengacodacejiaa
namespace Go.Proofs.Ytengacodacejiaa
open Go.RowKit Go.Deep
theorem OwnV.blk {lo:Nat} {w:World} {v:Value} {xs:List Int} (h:OwnV lo w v xs) {g:Nat} (hg:v.ownBlock=some g):lo≤g∧g<w.heap.size:=by
  rcases h with ⟨rfl,_⟩ | ⟨g',cap,rfl,_,_,h⟩
  · cases hg
  have:g'=g:=by simpa [Value.ownBlock] using hg
  subst this
  exact ⟨h.1,h.lt⟩
theorem OwnV.grw {lo:Nat} {w w':World} {v:Value} {xs:List Int} {r:Option Nat} (h:OwnV lo w v xs) (hg:w.grownBy w' r) (hr:∀ g,r=some g→v.ownBlock≠some g):OwnV lo w' v xs:=by
  rcases h with h | ⟨g',cap,rfl,h1,h2,h⟩
  · exact .inl h
  exact .inr ⟨g',cap,rfl,h1,h2,h.but (hg.block g' h.lt (fun e=>hr g' e.symm rfl))⟩
theorem OwnV.setOut {lo:Nat} {w:World} {v:Value} {xs:List Int} (h:OwnV lo w v xs) (a:Addr) (ha:a.block<lo) (u:Value):OwnV lo (w.setCell a u) v xs:=by
  rcases h with h | ⟨g',cap,rfl,h1,h2,h⟩
  · exact .inl h
  exact .inr ⟨g',cap,rfl,h1,h2,h.setOther _ _ (by have:=h.1;omega)⟩
theorem row_under {w w':World} {B e size n:Nat} {v:Value} {xs:List Value} (h:w.ownsRow B e size v n xs) (hb:Below w.heap.size w w'):w'.ownsRow B e size v n xs:=by
  obtain ⟨h1,h2⟩:=h
  refine ⟨h1,?_⟩
  rcases h2 with h2 | ⟨g,cap,cur,hv,hg,hh,r⟩
  · exact .inl h2
  exact .inr ⟨g,cap,cur,hv,hg,by rw [hb.block g (Array.getElem?_eq_some_iff.1 hh).1];exact hh,r⟩
def OwnLL (lo:Nat) (w:World) (u:Value) (ps:List (Value × List Int)):Prop :=
  w.ownsRow lo 24 1 u ps.length (ps.map (·.1))∧∀ p∈ps,OwnV lo w p.1 p.2∧∀ g,u.ownBlock=some g→p.1.ownBlock≠some g
theorem OwnLL.nil (lo:Nat) (w:World):OwnLL lo w (.slice none 0 0) []:=⟨World.ownsRow_nil _ _ _ _,by simp⟩
theorem OwnLL.setOut {lo:Nat} {w:World} {u:Value} {ps:List (Value × List Int)} (h:OwnLL lo w u ps) (a:Addr) (ha:a.block<lo) (x:Value):OwnLL lo (w.setCell a x) u ps :=
  ⟨ownsRow_setCell_below h.1 ha _,fun p hp=>⟨(h.2 p hp).1.setOut a ha _,(h.2 p hp).2⟩⟩
theorem OwnLL.below {lo:Nat} {w w':World} {u:Value} {ps:List (Value × List Int)} (h:OwnLL lo w u ps) (hb:Below w.heap.size w w'):OwnLL lo w' u ps :=
  ⟨row_under h.1 hb,fun p hp=>⟨(h.2 p hp).1.below hb,(h.2 p hp).2⟩⟩
theorem OwnLL.shape {lo:Nat} {w:World} {u:Value} {ps:List (Value × List Int)} (h:OwnLL lo w u ps):∃ a c,u = .slice a ps.length c:=KG h.1
theorem OwnLL.snoc {lo:Nat} {wr W w3:World} {u v':Value} {ps:List (Value × List Int)} {xs:List Int} {g cap:Nat} (h:OwnLL lo wr u ps) (hb:Below wr.heap.size wr W) (hv:OwnV wr.heap.size W v' xs) (hlo:lo≤wr.heap.size)
    (hown:w3.ownsRow lo 24 1 (.slice (some ⟨g,0,none⟩) (ps.length+1) cap) (ps.length+1) (ps.map (·.1)++[v'])) (hgrow:W.grownBy w3 u.ownBlock) (hat:u.ownBlock=some g∨W.heap.size<g) :
    OwnLL lo w3 (.slice (some ⟨g,0,none⟩) (ps.length+1) cap) (ps++[(v',xs)]):=by
  refine ⟨by simpa using hown,fun p hp => ?_⟩
  have hu:∀ g,u.ownBlock=some g→g<wr.heap.size:=fun g hg=>(h.1.lt _ hg).2
  have hO:OwnV lo W p.1 p.2∧∀ g,u.ownBlock=some g→p.1.ownBlock≠some g:=by
    rcases List.mem_append.1 hp with hp | hp
    · exact ⟨(h.2 p hp).1.below hb,(h.2 p hp).2⟩
    obtain rfl:p=(v',xs):=by simpa using hp
    exact ⟨hv.mono hlo,fun g hg e=>by have:=hu g hg;have:=hv.blk e;omega⟩
  refine ⟨hO.1.grw hgrow hO.2,fun g' hg' e => ?_⟩
  have:g=g':=by simpa [Value.ownBlock] using hg'
  subst this
  rcases hat with hat | hat
  · exact hO.2 _ hat e
  have:=(hO.1.blk e).2;omega
def IntsEl (lo:Nat) (w:World) (cs:List Value) (xs:List Int):Prop:=∃ v,cs=[v]∧IsInts lo w v xs
theorem IntsEl.stays:Stays IntsEl:=fun _ _ _ _ _ ⟨v,e,h⟩ hb=>⟨v,e,h.below hb⟩
theorem IntsEl.mono:Mono IntsEl:=fun _ _ _ _ _ ⟨v,e,h⟩ hl=>⟨v,e,h.mono hl⟩
theorem OwnLL.reads {lo:Nat} {w:World} {u:Value} {ps:List (Value × List Int)} (h:OwnLL lo w u ps):IsSl 1 IntsEl lo w u (ps.map (·.2)):=by
  obtain ⟨⟨hl,h1⟩,h2⟩:=h
  rcases h1 with ⟨rfl,h0⟩ | ⟨g,cap,cur,rfl,hb,hg,hnc,hcm,hcs,htake⟩
  · have:ps=[]:=List.eq_nil_of_length_eq_zero h0
    subst this
    exact ⟨none,0,rfl,by simp,by simp [maxLen],by simp,.inl rfl⟩
  refine ⟨some ⟨g,0,none⟩,cap,by simp,by simpa using hnc,hcm,(fun e=>by cases e),.inr ⟨g,0,rfl,hb,(Array.getElem?_eq_some_iff.1 hg).1,fun i hi => ?_⟩⟩
  have hi':i<ps.length:=by simpa using hi
  refine ⟨[(ps[i]'hi').1],rfl,fun j hj => ?_,(ps[i]'hi').1,rfl,by simpa using (h2 _ (List.getElem_mem hi')).1.ints⟩
  obtain rfl:j=0:=by omega
  have:(ps.map (·.1))[i]? = some (ps[i]'hi').1:=by simp [hi']
  rw [← htake,List.getElem?_take_of_lt (by omega)] at this
  simp only [World.cell?,hg]
  simpa using this
set_option maxHeartbeats 12800000
theorem Clone_any {lo:Nat} {w:World} {v:Value} {xs:List Int} (h:IsInts lo w v xs) (hn:xs.length≤1000) :
    Calls Try.prog 38 #[v] w fun e w'=>∃ v',e = .returned v'∧OwnV w.heap.size w' v' xs∧Below w.heap.size w w':=by
  have H:=h
  obtain ⟨a,cap,rfl,hl,hm,hi,hc⟩:=h
  obtain ⟨i0,hi0,hz0,hz1,hz2⟩:=info_int4
  have HI:=hid0 hi.1
  cases a with
  | none =>
    obtain rfl:cap=0:=hi.2 rfl
    have h0:xs.length=0:=by omega
    obtain rfl:xs=[]:=List.eq_nil_of_length_eq_zero h0
    clear hc hi hl hm h0 H
    have q22:∀ (w:World) (a:Option Addr) (n c n' c':Nat),(binOp .eql 24 (.slice a n c) (.slice none n' c')).run Try.prog w = .ok (.bool a.isNone) w:=fun w a n c n' c'=>Lib.run_eql_slice_nil w _ _ a n c n' c' Try.underlying24
    go_enter Try.func38,Try.ntmps38
    go_wp2_with fail
    go_ret
    exact ⟨_,rfl,.inl ⟨rfl,rfl⟩,Below.refl _ _⟩
  | some ad =>
    have HS:Hid (∀ w',Below w.heap.size w w'→∀ j u,(xs.map (Value.int .i64))[j]? = some u→w'.cell? (ad.add j)=some u):=hid0 fun w' hb j u hj=>by
      have h0:0<xs.length:=by have:=(List.getElem?_eq_some_iff.1 hj).1;simp at this;omega
      obtain ⟨ad',e,hS⟩:=H.src h0
      cases e
      exact hS w' hb j u hj
    have hown:=World.ownsRow_lit (base:=w.heap.size) (e:=3) (size:=1) w #[] 0 (Nat.le_refl _) (by simp) (by simp)
    have HO:=hid0 hown
    clear hown hc hi
    have q22:∀ (w:World) (a:Option Addr) (n c n' c':Nat),(binOp .eql 24 (.slice a n c) (.slice none n' c')).run Try.prog w = .ok (.bool a.isNone) w:=fun w a n c n' c'=>Lib.run_eql_slice_nil w _ _ a n c n' c' Try.underlying24
    go_enter Try.func38,Try.ntmps38
    go_wp2_with (refine wpList_append_own _ rfl (.tmp 5) (.tmp 6) 24 rfl w.heap.size 3 i0 (.int .i64 0) 1 8 Try.underlying24 hi0 hz0 hz1 hz2 rfl (by decide) _ _ _ rfl HO.out ad xs.length cap (xs.map (Value.int .i64)) rfl (by simp) (HS.out _ (by go_grown)) (by simp [Value.oneCell']) (by unfold maxLen;omega) (by omega) (by simp) ?_;intro v' w1 hown1 hgrow1 _)
    go_ret
    have hown2:w1.ownsRow w.heap.size 3 1 v' xs.length (xs.map (Value.int .i64)):=by simpa using hown1
    refine ⟨v',rfl,own_of_row hown2 HI.out,(Zf w _).grown hgrow1 (by simp) fun k hk => ?_⟩
    have hk':some w.heap.size=some k:=hk
    injection hk' with hk'
    omega
theorem info_int:(Try.prog.info? 3).map (fun i=>(i.zero,i.size,i.bytes))=some (some (.int .i64 0),1,8):=by kernel_rfl
theorem elInts:ElT Try.prog 69 24 (.slice none 0 0) 1 24:=⟨Try.underlying69,by kernel_rfl,rfl,by decide⟩
theorem and_one:∀ m,m<256→bits BinOp.and IntKind.i64 (m:Nat) 1=((m % 2:Nat):Int):=by decide +kernel
theorem own_ints {lo:Nat} {w:World} {g n:Nat} {f:Nat→Int} {xs:List Int} (h:OwnF lo w g n f) (hl:xs.length=n) (hn:n≤1000) (hx:∀ x∈xs,I64 x) (hf:∀ j,j<n→f j=xs.getD j 0):IsInts lo w (.slice (some ⟨g,0,none⟩) n n) xs:=by
  obtain ⟨h1,cur,t,hg,hc⟩:=h
  exact Kh hg h1 hl (Nat.le_refl _) (by unfold maxLen;omega) hx (fun i hi=>by rw [hc i hi,hf i hi])
theorem dig_small (n k:Nat):∀ x∈dig n k,I64 x:=by
  intro x hx
  obtain ⟨j,_,rfl⟩:=List.mem_map.1 hx
  have:=digF_small n k j
  constructor<;>omega
theorem Shapes_own (n:Nat) (h0:1≤n) (h1:n≤8) (w:World) :
    Calls Try.prog 21 #[.int .i64 n] w fun e w'=>∃ u,e = .returned (.tuple #[u,.int .i64 0])∧(∃ ps,OwnLL (w.heap.size+1) w' u ps∧ps.map (·.2)=shL n)∧Below w.heap.size w w':=by
  have hmk:=make_n (P:=Try.prog) 24 3 _ 1 8 Try.underlying24 info_int n (by omega) (by omega)
  obtain ⟨M,hM⟩:∃ M:Nat,M=2 ^ n:=⟨_,rfl⟩
  have hM2:M≤256:=by rw [hM];exact Nat.pow_le_pow_right (by omega) h1
  have hw:wrap64 ((2:Int) ^ n)=(M:Int):=by
    have e:((2:Int) ^ n)=(M:Int):=by rw [hM];simp
    rw [e];unfold wrap64;omega
  have HM:=Lib.hid hM
  clear hM
  go_enter Try.func21,Try.ntmps21
  go_wp2_with fail
  rw [hw]
  clear hw hmk
  obtain ⟨W,hW⟩:∃ W:World,W=w.alloc (.cells (madeCells #[Value.int IntKind.i64 0] n) 3):=⟨_,rfl⟩
  rw [← hW]
  have HO0:=Lib.hid (show OwnF w.heap.size W w.heap.size n (fun _=>0) by
    rw [hW];exact ⟨Nat.le_refl _,_,_,heap_alloc_new _ _,fun j hj=>made_get _ _ _ _ hj (by simp [Nat.mod_one])⟩)
  have HB0:=Lib.hid (show Below w.heap.size w W by rw [hW];exact Zf _ _)
  clear hW
  go_loopw [4,18] (fun v u wr=>∃ (k:Nat) (a:Option Addr) (c:Nat) (ps:List (Value × List Int)) (f:Nat→Int),k≤M∧u = .int .i64 k∧v = .slice a ps.length c∧ps.map (·.2)=shK n k∧OwnLL (w.heap.size+1) wr (.slice a ps.length c) ps∧OwnF w.heap.size wr w.heap.size n f∧Below w.heap.size w wr) (fun _ u _=>M-(intOf u).toNat)
  case atStart=>exact ⟨0,none,0,[],fun _=>0,Nat.zero_le _,rfl,rfl,rfl,OwnLL.nil _ _,HO0.out,HB0.out⟩
  case round =>
    obtain ⟨k,a,c,ps,f,hk,rfl,rfl,hps,hL,hF,hB⟩:=hrel
    have HPS:=Lib.hid hps
    have HL:=Lib.hid hL
    have HF:=Lib.hid hF
    have HB:=Lib.hid hB
    have hpl:ps.length≤k:=by have:=congrArg List.length hps;simp at this;have:=shK_len n k;omega
    clear hps hL hF hB
    by_cases hlt:k<M
    · go_wp2_with fail
      go_loopw [23] (fun u w2=>∃ (i:Nat) (f:Nat→Int),i≤n∧u = .int .i64 i∧(∀ j,j<i→f j=digF n k j)∧OwnLL (w.heap.size+1) w2 (.slice a ps.length c) ps∧OwnF w.heap.size w2 w.heap.size n f∧Below w.heap.size w w2) (fun u _=>n-(intOf u).toNat)
      case atStart=>exact ⟨0,f,Nat.zero_le _,rfl,fun _ h=>by omega,HL.out,HF.out,HB.out⟩
      case round =>
        obtain ⟨i,f',hi,rfl,hd,hL2,hF2,hB2⟩:=hrel
        have HD:=Lib.hid hd
        have HL2:=Lib.hid hL2
        have HF2:=Lib.hid hF2
        have HB2:=Lib.hid hB2
        have hgw:=hF2.lt
        clear hd hL2 hB2
        by_cases hlt2:i<n
        · have c1:=hF2.cell i hlt2
          have c2:=hF2.frozen i
          have HE:=Lib.hid (show wrap64 (bits BinOp.and IntKind.i64 ((k:Int) / 2 ^ (n-1-i)) 1*2)=digF n k i by
            have e1:((k:Int) / 2 ^ (n-1-i))=((k / 2 ^ (n-1-i):Nat):Int):=by simp
            have e2:k / 2 ^ (n-1-i)<256:=by have:=Nat.div_le_self k (2 ^ (n-1-i));omega
            rw [e1,and_one _ e2]
            unfold digF wrap64;omega)
          clear hF2
          go_wp2_with fail
          go_roundw
          case rel =>
            refine ⟨i+1,up f' i (digF n k i),by omega,by go_num,fun j hj => ?_,HL2.out.setOut _ (by simp) _,?_,HB2.out.setCell (by simp) _⟩
            · by_cases e:j=i
              · subst e;exact Y6 _ _ _
              rw [up_ne _ _ e];exact HD.out j (by omega)
            rw [← HE.out];exact HF2.out.set i _
          case measure=>simp [intOf];omega
        obtain rfl:i=n:=by omega
        have HI:=Lib.hid (own_ints HF2.out (Kn i k) (by omega) (dig_small i k) (fun j hj=>by rw [HD.out j hj,dig_get _ _ _ hj]))
        clear hF2 hlt2
        have HS0:=Lib.hid (shK_succ i k)
        cases hs:isShp (dig i k) i with
        | false =>
          have HS:Hid (shK i (k+1)=shK i k):=by
            show _=_
            have h:shp (dig i k)=false:=by unfold isShp at hs;simpa [Kn] using hs
            rw [HS0.out,h];rfl
          go_wp2_with (go_at_call 36;refine (isShape_any (i:Int) HI.out (by rw [Kn];omega)).mono ?_;rintro e w1 ⟨rfl,rfl⟩)
          go_roundw
          case rel=>exact ⟨k+1,a,c,ps,f',by omega,by go_num,rfl,by rw [HS.out];exact HPS.out,HL2.out,HF2.out,HB2.out⟩
          case measure=>simp [intOf];omega
        | true =>
          have HS:Hid (shK i (k+1)=shK i k++[dig i k]):=by
            show _=_
            have h:shp (dig i k)=true:=by unfold isShp at hs;simpa [Kn] using hs
            rw [HS0.out,h];rfl
          go_wp2_with (first | (go_at_call 36;refine (isShape_any (i:Int) HI.out (by rw [Kn];omega)).mono ?_;rintro e w1 ⟨rfl,rfl⟩) | (go_at_call 38;refine (Clone_any HI.out (by rw [Kn];omega)).mono ?_;rintro e w3 ⟨v',rfl,hv,hb⟩;have HV:=Lib.hid hv;have HB3:=Lib.hid hb;have hs3:=hb.size;obtain ⟨av,cv,rfl⟩:=hv.shape;clear hv hb) | (at_builtin;refine KL elInts (by rfl) (.tmp 41) (.tmp 44) (by rfl) (w.heap.size+1) _ ps.length _ [.slice av (dig i k).length cv] w3.heap.size (by rfl) (by rfl) (by rfl) (HL2.out.below HB3.out).1 (by rfl) (by intro u hu;simp at hu;subst hu;rfl) (by omega) (by unfold maxLen;omega) (by omega) (by rfl) ?_;intro g cap w4 hown hgrow hat hlo hlt hsz))
          go_roundw
          case rel =>
            refine ⟨k+1,some ⟨g,0,none⟩,cap,ps++[(.slice av (dig i k).length cv,dig i k)],f',by omega,by go_num,by simp,?_,?_,?_,?_⟩
            · rw [HS.out,List.map_append,HPS.out];rfl
            · rw [List.length_append];exact OwnLL.snoc HL2.out HB3.out HV.out (by omega) hown hgrow hat
            · exact (HF2.out.below HB3.out).grown hgrow (fun e=>by have:=((HL2.out.below HB3.out).1.lt _ e).1;omega)
            exact (Zg HB2.out HB3.out).grown hgrow (by omega) (fun j hj=>by have:=((HL2.out.below HB3.out).1.lt _ hj).1;omega)
          case measure=>simp [intOf];omega
    obtain rfl:k=M:=by omega
    go_wp2_with fail
    go_ret2
    refine ⟨_,rfl,⟨ps,HL.out,?_⟩,HB.out⟩
    rw [HPS.out,HM.out]
    rfl
theorem Shapes_ok (n:Nat) (h0:1≤n) (h1:n≤8) (w:World) :
    Calls Try.prog 21 #[.int .i64 n] w fun e w'=>∃ u,e = .returned (.tuple #[u,.int .i64 0])∧IsSl 1 IntsEl w.heap.size w' u (shL n)∧Below w.heap.size w w' :=
  (Shapes_own n h0 h1 w).mono fun e w' ⟨u,he,⟨ps,hL,hp⟩,hb⟩=>⟨u,he,by have:=hL.reads;rw [hp] at this;exact this.mono IntsEl.mono (by omega),hb⟩
theorem Shapes_bad (n:Int) (h:n<1∨8<n) (w:World) :
    Calls Try.prog 21 #[.int .i64 n] w fun e w'=>e = .returned (.tuple #[.slice none 0 0,.int .i64 1])∧w=w':=by
  by_cases h1:n<1
  · go_enter Try.func21,Try.ntmps21
    go_wp2_with fail
    go_ret2
    exact ⟨rfl,rfl⟩
  have h2:8<n:=by omega
  go_enter Try.func21,Try.ntmps21
  go_wp2_with fail
  go_ret2
  exact ⟨rfl,rfl⟩
theorem shL_five:shL 5=[[2,0,2,0,0],[2,2,0,0,0]]:=by decide +kernel
theorem nbr_known (w:World):Calls Try.prog 20 #[.int .i64 3,.slice none 0 0,.int .i64 2,.int .i64 0] w fun e w'=>e = .returned (.tuple #[.int .i64 1,.int .i64 1,.int .i64 (-1)])∧Below w.heap.size w w':=by
  have h:=Neighbors_any (lo:=0) (w:=w) (v := .slice none 0 0) (xs:=[]) 3 2 0 ⟨none,0,rfl,by simp,by simp [maxLen],by simp,.inl rfl⟩ (by simp) (by omega)
  have e:nbr 3 [] 2 0=(1,1,-1):=by decide
  rw [e] at h
  exact h
theorem shapes_known (w:World):Calls Try.prog 21 #[.int .i64 5] w fun e w'=>∃ u,e = .returned (.tuple #[u,.int .i64 0])∧IsSl 1 IntsEl w.heap.size w' u [[2,0,2,0,0],[2,2,0,0,0]]∧Below w.heap.size w w':=by
  have h:=Shapes_ok 5 (by omega) (by omega) w
  rw [shL_five] at h
  exact h
theorem lit5 {w:World} {g:Nat} {t:TypeId} (h:w.heap[g]? = some (.cells #[.int .i64 2,.int .i64 0,.int .i64 2,.int .i64 0,.int .i64 0] t (0,0))):IsInts 0 w (.slice (some ⟨g,0,none⟩) 5 5) [2,0,2,0,0] :=
  Kh (xs:=[2,0,2,0,0]) h (Nat.zero_le _) rfl (Nat.le_refl _) (by simp [maxLen]) (fun x hx=>by have:x=0∨x=2:=(by simp at hx;omega);constructor<;>omega)
    fun i hi=>match i,hi with
      | 0,_=>rfl
      | 1,_=>rfl
      | 2,_=>rfl
      | 3,_=>rfl
      | 4,_=>rfl
theorem zknown_any (w:World):Calls Try.prog 8 #[] w fun e w'=>e = .returned (.bool true)∧Below w.heap.size w w':=by
  go_enter Try.func8,Try.ntmps8
  go_wp2_with (first | (go_at_call 20;refine (nbr_known _).mono ?_;rintro e w1 ⟨rfl,hb1⟩;have HB1:=Lib.hid hb1;clear hb1) | (go_at_call 21;refine (shapes_known _).mono ?_;rintro e w2 ⟨u,rfl,hu,hb2⟩;obtain ⟨au,cu,rfl⟩:=hu.shape;obtain ⟨b,off,cs,rfl,hlb,hbw,_,hcell,v0,rfl,hv0⟩:=hu.at 0 (by simp);obtain ⟨a0,c0,rfl⟩:=hv0.shape;have g0:=hcell 0 (by omega);have HB2:=Lib.hid (Zg HB1.out hb2);have HV:=Lib.hid hv0;simp only [Nat.zero_mul,Nat.add_zero,List.getElem?_cons_zero] at g0;clear hcell hv0 hu hb2) | (go_at_call 22;refine (SameInts_any (HV.out.below (by go_grown)) (lit5 (Z9 _ _ (by go_size)))).mono ?_;rintro e w3 ⟨rfl,hb3⟩))
  go_ret
  exact ⟨rfl,Zg HB2.out (Below.trans (by go_grown) (hb3.mono (by go_size)))⟩
variable {J:World→Prop}
def cLi (xs:List Int):List AV:=[Zc xs]
theorem lenLi (xs:List Int):(cLi xs).length=1:=rfl
theorem plain_li (xs:List Int):∀ X∈cLi xs,Plain X:=by
  intro X hX
  simp only [cLi,List.mem_cons,List.not_mem_nil,or_false] at hX
  rw [hX];exact Z7 _
namespace Sh
abbrev InOk (xs:List Int):Prop:=∀ x∈xs,I64 x
section
variable {P:Program} {f:FuncId}
theorem ctr2 {A B u:AV} (H:∀ (w:World) (v v':Value),(∀ w',Below w.heap.size w w'→J w')→Pu (fun _=>True) w (fun b=>b<w.heap.size) A v→Pu (fun _=>True) w (fun b=>b<w.heap.size) B v'→Calls P f #[v,v'] w fun e w'=>∃ v,e = .returned v∧Pu (w.heap.size ≤ ·) w' (nw w' w.heap.size) u v∧Below w.heap.size w w'):Ctr P J f [A,B] u:=fun w vs hJ hl hv=>by
  obtain ⟨v,v',rfl⟩:∃ v v',vs = #[v,v']:=by
    match vs,hl with
    | ⟨[v,v']⟩,_=>exact ⟨v,v',rfl⟩
  exact H w v v' hJ (hv 0 (by simp)) (hv 1 (by simp))
theorem ret_sc {w:World} {r:Value} {e:Ending} {w':World} (h:e = .returned r∧Below w.heap.size w w'):∃ v,e = .returned v∧Pu (w.heap.size ≤ ·) w' (nw w' w.heap.size) (.v r) v∧Below w.heap.size w w':=⟨r,h.1,.v r,h.2⟩
end
def sR:Nat→List (List Int)
  | 1=>[[0]]
  | 3=>[[2,0,0]]
  | 5=>[[2,0,2,0,0],[2,2,0,0,0]]
  | 7=>[[2,0,2,0,2,0,0],[2,0,2,2,0,0,0],[2,2,0,0,2,0,0],[2,2,0,2,0,0,0],[2,2,2,0,0,0,0]]
  | _=>[]
theorem odd4 {n:Nat} (h:n≤7) (ho:n % 2=1):n=1∨n=3∨n=5∨n=7:=by omega
theorem sR_len {n:Nat} (h:n≤7) (ho:n % 2=1):(sR n).length≤5:=by
  rcases odd4 h ho with rfl | rfl | rfl | rfl<;>decide
theorem sR_mem {n:Nat} (h:n≤7) (ho:n % 2=1):∀ xs∈sR n,xs.length≤7∧InOk xs:=by
  rcases odd4 h ho with rfl | rfl | rfl | rfl<;>(intro xs hx;simp only [sR,List.mem_cons,List.not_mem_nil,or_false] at hx)
  all_goals
    have key:∀ ys:List Int,(∀ y∈ys,y=0∨y=2)→InOk ys:=fun ys hy y hm=>by
      rcases hy y hm with rfl | rfl<;>(unfold I64;omega)
  · subst hx;exact ⟨by decide,key _ (by decide)⟩
  · subst hx;exact ⟨by decide,key _ (by decide)⟩
  · rcases hx with rfl | rfl<;>exact ⟨by decide,key _ (by decide)⟩
  rcases hx with rfl | rfl | rfl | rfl | rfl<;>exact ⟨by decide,key _ (by decide)⟩
def shX (n:Int):List (List Int):=if n<1∨8<n then [] else if n % 2=0 then [] else sR n.toNat
def shZ (n:Int):Int:=if n<1∨8<n then 1 else 0
theorem shL_eq:∀ n,1≤n→n≤8→shL n=shX (n:Nat):=by
  intro n h1 h8
  obtain rfl | rfl | rfl | rfl | rfl | rfl | rfl | rfl:n=1∨n=2∨n=3∨n=4∨n=5∨n=6∨n=7∨n=8:=by omega
  all_goals decide +kernel
theorem shX_mem (n:Int):∀ xs∈shX n,xs.length≤7∧InOk xs:=by
  unfold shX
  split
  · intro xs h;cases h
  split
  · intro xs h;cases h
  exact sR_mem (by omega) (by omega)
theorem shX_len (n:Int):(shX n).length≤5:=by
  unfold shX
  split
  · simp
  split
  · simp
  exact sR_len (by omega) (by omega)
theorem owni_pu {n0 lo:Nat} {w:World} {v:Value} {xs:List Int} (hlo:n0≤lo) (h:OwnV lo w v xs):Pu (n0 ≤ ·) w (nw w n0) (Zc xs) v:=by
  rcases h with ⟨rfl,rfl⟩ | ⟨g,cap,rfl,hl,hm,h1,h2,h3,cur,t,hg,hc⟩
  · exact .sl0 (by simp [maxLen]) (by simp)
  refine .sl (f:=fun i => .int .i64 (xs.getD i 0)) (by simp) hl hm ⟨Nat.le_trans hlo h1,_,_,hg⟩ (Array.getElem?_eq_some_iff.1 hg).1 (fun j hj => ?_) fun j hj => ?_
  · have:=hc j (by simpa using hj)
    simp only [World.cell?,hg]
    simpa using this
  have:j<xs.length:=by simpa using hj
  simp only [List.getElem_map]
  have e:xs.getD j 0=xs[j]:=by simp [this]
  rw [e];exact .v _
theorem ownll_pu {n0 lo:Nat} {w:World} {u:Value} {ps:List (Value × List Int)} (hlo:n0≤lo) (h:OwnLL lo w u ps):Pu (n0 ≤ ·) w (nw w n0) (slA 1 cLi (ps.map (·.2))) u:=by
  obtain ⟨⟨hl,h1⟩,h2⟩:=h
  rcases h1 with ⟨rfl,h0⟩ | ⟨g,cap,cur,rfl,hb,hg,hnc,hcm,hcs,htake⟩
  · have:ps=[]:=List.eq_nil_of_length_eq_zero h0
    subst this
    exact .sl0 (by simp [maxLen]) (by simp)
  have e0:∀ L:List (Value × List Int),(L.map (·.2)).flatMap cLi=L.map fun p=>Zc p.2:=fun L=>by
    induction L with
    | nil=>rfl
    | cons p L ih=>simp only [List.map_cons,List.flatMap_cons,ih];rfl
  have:slA 1 cLi (ps.map (·.2)) = .sl 1 ps.length (ps.map fun p=>Zc p.2):=by
    unfold slA
    rw [e0,List.length_map]
  rw [this]
  refine .sl (f:=fun j=>((ps.map (·.1))[j]?).getD undef) (by simp) (by simpa using hnc) hcm ⟨Nat.le_trans hlo hb,_,_,hg⟩ (Array.getElem?_eq_some_iff.1 hg).1 (fun j hj => ?_) fun j hj => ?_
  · have hj':j<ps.length:=by simpa using hj
    have:(ps.map (·.1))[j]? = some (ps[j]'hj').1:=by simp [hj']
    rw [this]
    rw [← htake,List.getElem?_take_of_lt (by simpa using hj')] at this
    simp only [World.cell?,hg]
    simpa using this
  have hj':j<ps.length:=by simpa using hj
  have:(ps.map (·.1))[j]? = some (ps[j]'hj').1:=by simp [hj']
  rw [this]
  simp only [List.getElem_map,Option.getD_some]
  exact owni_pu hlo (h2 _ (List.getElem_mem hj')).1
theorem Shapes_n (n:Int):Ctr Try.prog J 21 [iv n] (.tup [slA 1 cLi (shX n),iv (shZ n)]):=fun w vs _ hl hv=>by
  match vs,hl,hv with
  | ⟨[v0]⟩,_,hv =>
    obtain rfl:=(hv 0 (by simp)).v_inv
    by_cases h:n<1∨8<n
    · have e1:shX n=[]:=by unfold shX;rw [if_pos h]
      have e2:shZ n=1:=by unfold shZ;rw [if_pos h]
      rw [e1,e2]
      refine (Shapes_bad n h w).mono fun e w' ⟨he,hw⟩=>⟨_,he,?_,by rw [← hw];exact Below.refl _ _⟩
      exact .tup rfl fun j hj=>(match j,hj with
        | 0,_ => .sl0 (by simp [maxLen]) (by simp)
        | 1,_ => .v _)
    obtain ⟨m,rfl⟩:=Int.eq_ofNat_of_zero_le (show 0≤n by omega)
    have e2:shZ ((m:Nat):Int)=0:=by unfold shZ;rw [if_neg h]
    rw [e2,← shL_eq m (by omega) (by omega)]
    refine (Shapes_own m (by omega) (by omega) w).mono fun e w' ⟨u,he,⟨ps,hL,hp⟩,hb⟩=>⟨_,he,?_,hb⟩
    rw [← hp]
    exact .tup rfl fun j hj=>(match j,hj with
      | 0,_=>ownll_pu (Nat.le_succ _) hL
      | 1,_ => .v _)
theorem zknown_c:Ctr Try.prog J 8 [] bT:=fun w vs _ hl _=>by
  have:vs = #[]:=Array.eq_empty_of_size_eq_zero (by simpa using hl)
  subst this
  exact (zknown_any w).mono fun _ _=>ret_sc
end Sh
section
variable {P:Program} {o:Oper}
theorem sp_makeZ {t e k bytes z:Nat} {zv:Value} (fr:Bool) {kl kc:IntKind} {n:Nat} {x y:Operand} (ho:o.op = .makeSlice t x y) (hu:P.underlying t=some (.slice e)) (hi:(P.info? e).map (fun i=>(i.size,i.bytes,i.zero))=some (z,bytes,some zv)) (hz:zv.cells.size=z) (h0:0<z)
    (hb:bytes*n≤281474976710656) (h63:n≤maxLen) {cs:List AV} (hcs:(List.range (n*z)).map (fun j=>AV.v (zv.cells.getD (j % z) undef))=cs) :
    ASpec P J o [(x,.v (.int kl (n:Int))),(y,.v (.int kc (n:Int)))] [] (.own k) (.new k (.row fr e z n cs)) :=
  aspec_new fun ρ B a w _ hB ha _ hk=>by
    subst hcs
    obtain ⟨i,hi1,hi2⟩:=Option.map_eq_some_iff.1 hi
    simp only [Prod.mk.injEq] at hi2
    obtain ⟨e1,e2,e3⟩:=hi2
    have hx:=(ha (x,.v (.int kl (n:Int))) (by simp)).v_inv
    have hy:=(ha (y,.v (.int kc (n:Int))) (by simp)).v_inv
    have hsz:(madeCells zv.cells (n*z)).size=n*z:=size_madeCells _ _
    have hget:∀ j,j<n*z→(madeCells zv.cells (n*z))[j]? = some (zv.cells.getD (j % z) undef):=fun j hj=>by
      have hlt:j % zv.cells.size<zv.cells.size:=Nat.mod_lt _ (by omega)
      have hlt':j % z<zv.cells.size:=by rw [← hz];exact hlt
      subst hz
      simp [madeCells,hj,Array.getD,hlt]
    have hrun:=run_make (P:=P) w t e i zv hu hi1 e3 kl kc n n (by omega) (by omega) (by rw [e2];have:=hb;omega) (by have:=h63;simp only [maxLen] at this;omega)
    simp only [Int.toNat_natCast,e1] at hrun
    refine ⟨_,n,n,madeCells zv.cells (n*z),e,?_,.own (nm := .at w.heap.size n n) (Yp _ _ _),(madeCells zv.cells (n*z)).toList,⟨by simp [hsz],.inr ⟨w.heap.size,n,madeCells zv.cells (n*z),rfl,rowB_le hB,heap_alloc_new w _,Nat.le_refl _,h63,hsz,by rw [List.take_of_length_le];simp [hsz]⟩⟩,by simp [hsz],fun j hj => ?_⟩
    · simp only [execOp,ho,hx,hy]
      exact Yc hrun
    have hj':j<n*z:=by simpa using hj
    have:(madeCells zv.cells (n*z)).toList.getD j undef=zv.cells.getD (j % z) undef:=by
      rw [List.getD_eq_getElem?_getD,Array.getElem?_toList,hget j hj'];rfl
    rw [this]
    simp only [List.getElem_map,List.getElem_range]
    exact .v _
end
theorem setAll_mid (ds:List AV):∀ (A C D:List AV),C.length=ds.length→setAll (A++C++D) A.length ds=A++ds++D:=by
  induction ds with
  | nil=>intro A C D h;rw [List.eq_nil_of_length_eq_zero h];rfl
  | cons d ds ih =>
    intro A C D h
    cases C with
    | nil=>cases h
    | cons c C =>
      rw [setAll]
      have e:(A++c::C++D).set A.length d=(A++[d])++C++D:=by
        rw [List.append_assoc,List.set_append_right _ _ (Nat.le_refl _)]
        simp
      rw [e]
      have:=ih (A++[d]) C D (by simpa using h)
      simp only [List.length_append,List.length_cons,List.length_nil,Nat.zero_add] at this
      rw [this]
      simp
theorem YT (n t f:Int):∀ X∈cSz n t f,Plain X:=by
  intro X hX;simp only [cSz,List.mem_cons,List.not_mem_nil,or_false] at hX
  rcases hX with rfl | rfl | rfl<;>exact .v _
namespace Ns
def lk3 (top c i:Int):List AV:=[iv (rowL top c i).1,iv (rowL top c i).2.1,iv (rowL top c i).2.2]
def lkZ (top:Int) (n k:Nat):List AV:=(List.range k).flatMap (fun i:Nat=>lk3 top n i)++(List.replicate (n-k) [iv 0,iv 0,iv 0]).flatten
theorem lkZ_zero (top:Int) (n:Nat):(List.range (n*3)).map (fun j=>AV.v ((#[Value.int .i64 0,Value.int .i64 0,Value.int .i64 0]:Array Value).getD (j % 3) undef))=lkZ top n 0:=by
  unfold lkZ
  rw [List.range_zero,List.flatMap_nil,List.nil_append,Nat.sub_zero]
  induction n with
  | zero=>rfl
  | succ m ih =>
    rw [show (m+1)*3=m*3+1+1+1 by omega,List.range_succ,List.range_succ,List.range_succ,List.map_append,List.map_append,List.map_append,ih,List.replicate_succ',List.flatten_append]
    have e1:(m*3) % 3=0:=by omega
    have e2:(m*3+1) % 3=1:=by omega
    have e3:(m*3+1+1) % 3=2:=by omega
    simp [e2,e3]
theorem lkZ_pre (top:Int) (n:Nat):∀ k,((List.range k).flatMap (fun i:Nat=>lk3 top n i)).length=k*3
  | 0=>rfl
  | k+1=>by rw [List.range_succ,List.flatMap_append,List.length_append,lkZ_pre top n k];simp [lk3];omega
theorem lkZ_len {top:Int} {n k:Nat} (h:k≤n):(lkZ top n k).length=n*3:=by
  unfold lkZ
  rw [List.length_append,lkZ_pre,List.length_flatten]
  simp
  omega
theorem lkZ_step {top:Int} {n k:Nat} (h:k<n):setAll (lkZ top n k) (k*3) (Yh true (lk3 top n k))=lkZ top n (k+1):=by
  unfold lkZ
  have e:n-k=(n-(k+1))+1:=by omega
  rw [e,List.replicate_succ,List.flatten_cons]
  have:=setAll_mid (Yh true (lk3 top n k)) ((List.range k).flatMap (fun i:Nat=>lk3 top n i)) [iv 0,iv 0,iv 0] (List.replicate (n-(k+1)) [iv 0,iv 0,iv 0]).flatten rfl
  rw [lkZ_pre,List.append_assoc] at this
  rw [this,List.range_succ,List.flatMap_append]
  simp [Yh,AV.unfr,lk3]
theorem rowLink_c {top c i:Int} (h0:0≤i) (h1:i<c) (hc:c≤8):Ctr Try.prog J 35 [iv top,iv c,iv i] (.agg (lk3 top c i)):=ctr3 fun w v v' v'' _ h h' h''=>by
  rw [h.v_inv,h'.v_inv,h''.v_inv]
  exact (rowLink_any top c i w h0 h1 (by omega)).mono fun _ _ hh=>⟨_,hh.1,.agg rfl fun j hj=>(match j,hj with
    | 0,_ => .v _
    | 1,_ => .v _
    | 2,_ => .v _),hh.2⟩
def lkT (xs:List Int):AV := .sl 3 xs.length ((List.range (xs.length*3)).map fun j=>iv (cf (trun xs xs.length) j))
def cLk (xs:List Int):List AV:=[lkT xs]
theorem newLk (xs:List Int):∀ d∈[AV.fr (lkT xs)],d.isNew=true:=fun d hd=>by
  simp only [List.mem_cons,List.not_mem_nil,or_false] at hd;subst hd;rfl
theorem cellLk (xs:List Int):∀ d∈[AV.fr (lkT xs)],d.cell=true:=fun d hd=>by
  simp only [List.mem_cons,List.not_mem_nil,or_false] at hd;subst hd;rfl
theorem snocLk {L:List (List Int)} {k:Nat} (h:k<L.length):(L.take k).flatMap cLk++Yh true [.fr (lkT L[k])]=(L.take (k+1)).flatMap cLk:=by
  rw [List.take_succ_eq_append_getElem h,List.flatMap_append];simp [Yh,AV.unfr,cLk]
theorem treeLinks_c {xs:List Int} (hI:InOk xs) (h0:0<xs.length) (h1:xs.length≤100):Ctr Try.prog J 37 [Zc xs] (lkT xs):=ctr1 fun w v _ h=>by
  have hi:=YN hI (fun _ _=>Nat.zero_le _) h
  obtain ⟨a,cap,rfl,_,_,_,hc⟩:=hi
  rcases hc with rfl | ⟨b,off,rfl,_,hb,hc⟩
  · simp at h0
  refine (treeLinks_full b off xs.length cap w xs rfl h1 h0 hc).mono fun _ w' ⟨g,he,ho,hb⟩=>⟨_,he,?_,hb⟩
  obtain ⟨h2,cur,t,hg,hcur⟩:=ho
  refine .sl (b:=g) (off:=0) (f:=fun j => .int .i64 (cf (trun xs xs.length) j)) (by simp) (Nat.le_refl _) (by unfold maxLen;omega) ⟨h2,_,_,hg⟩ (Array.getElem?_eq_some_iff.1 hg).1 (fun j hj => ?_) fun j hj => ?_
  · have hj':j<xs.length*3:=by simpa using hj
    rw [Nat.zero_add,ZU hg j (v := .int .i64 (cf (trun xs xs.length) j)) (hcur j hj')]
  simp only [List.getElem_map,List.getElem_range]
  exact .v _
theorem Evaluate_c {l:Ln} {n t f:Int}:Ctr Try.prog J 61 [.agg (cLn l),.agg (cSz n t f)] (.tup [iv (evN l.c l.n l.t l.f n t f),iv (evE l.c l.n l.t l.f n t f)]):=ctr2 fun w v v' _ h h'=>by
  obtain ⟨vs,rfl,hl,hv⟩:=Kb h
  have e:vs=[.int .i64 l.c,.int .i64 l.n,.int .i64 l.t,.int .i64 l.f]:=by
    rw [cells4 hl,(hv 0 (by simp [cLn])).v_inv,(hv 1 (by simp [cLn])).v_inv,(hv 2 (by simp [cLn])).v_inv,(hv 3 (by simp [cLn])).v_inv]
  subst e
  rw [sz_of h']
  exact (Evaluate_any l.c l.n l.t l.f n t f w).mono fun _ _ hh=>⟨_,hh.1,.tup rfl fun j hj=>(match j,hj with
    | 0,_ => .v _
    | 1,_ => .v _),by first | exact hh.2 | (rw [← hh.2];exact Below.refl _ _) | (rw [hh.2];exact Below.refl _ _)⟩
def sysE (p:Fm) (n t f:Int):Int:=if valE p=0 then (if admB p n t f=true then (if 8<n then 4 else 0) else 8) else valE p
def cntE (p:Fm) (n f:Int):Int:=if p.fault=3 then n-f else n
theorem adm_in {p:Fm} {n t f:Int} (h:admB p n t f=true):1≤n∧n≤1048576∧0≤f∧f≤n:=by
  unfold admB inB at h
  simp only [Bool.and_eq_true,decide_eq_true_eq] at h
  omega
theorem rulesE_all {q:Fm}:∀ (f i:Nat),rulesE q i f=0→∀ k,i≤k→k<i+f→ruleE q k (q.rules.getD k default)=0
  | 0,i,_,k,a,b=>absurd b (by omega)
  | f+1,i,e,k,a,b=>by
    unfold rulesE at e
    split at e
    · rename_i e1
      by_cases x:i=k
      · subst x;exact e1
      exact rulesE_all f (i+1) e k (by omega) (by omega)
    exact absurd e (by assumption)
theorem val_lims {p:Fm} (h:valE p=0):p.rules.length≤8∧∀ r∈p.rules,r.guards.length≤2:=by
  unfold valE at h
  split at h
  · cases h
  split at h
  · cases h
  split at h
  · cases h
  split at h
  · cases h
  rename_i g
  split at h
  · cases h
  split at h
  · cases h
  split at h
  · cases h
  refine ⟨(too_rules (by simpa using g)).1,fun r hr => ?_⟩
  have a1:=ZN h
  have a2:=ZN a1.2
  have a3:=ZN a2.2
  obtain ⟨j,hj,rfl⟩:=List.getElem_of_mem hr
  have:=rulesE_all _ _ a3.1 j (Nat.zero_le _) (by omega)
  rw [List.getD_eq_getElem?_getD,List.getElem?_eq_getElem hj,Option.getD_some] at this
  exact rule_guards this
theorem adm_c {p:Fm} {n t f:Int} (HP:FmOk p) (hv:valE p=0):Ctr Try.prog J 60 [.agg (cFm p),.agg (cSz n t f)] (bv (admB p n t f)):=by
  have:=qAdmissible_c (J:=J) HP n t f
  rw [decide_eq_true hv,Bool.true_and] at this
  exact this
def shT (top n:Int):List (List Int):=if top=4 then Sh.shX n else []
theorem shT_tree {top n:Int} (h:top=4):shT top n=Sh.shX n:=if_pos h
theorem shT_no {top n:Int} (h:¬ top=4):shT top n=[]:=if_neg h
def sysC (p:Fm) (n t f:Int):List AV:=cFm p++[iv n,iv t,iv f,iv (cntE p n f),iv (n-f),.any,.any,.any,.any,.any,.any,.any,.any,.any,.any,.any,.any,.any,.any,.any,.any,slA 1 cLi (shT p.top (cntE p n f)),.any]
theorem sys_big {p:Fm} {n t f:Int} (hv:valE p=0) (ha:admB p n t f=true) (h:¬ sysE p n t f=0):8<n:=by
  unfold sysE at h
  rw [if_pos hv,if_pos ha] at h
  by_cases h8:8<n
  · exact h8
  rw [if_neg h8] at h;exact absurd rfl h
theorem sys_ok {p:Fm} {n t f:Int} (h:sysE p n t f=0):valE p=0∧admB p n t f=true∧¬ 8<n:=by
  unfold sysE at h
  split at h
  · split at h
    · split at h
      · cases h
      exact ⟨by assumption,by assumption,by assumption⟩
    cases h
  exact absurd h (by assumption)
theorem sys_e1 {p:Fm} {n t f:Int} (h:¬ valE p=0):sysE p n t f=valE p:=by unfold sysE;rw [if_neg h]
theorem sys_e2 {p:Fm} {n t f:Int} (h:valE p=0) (h2:admB p n t f=false):sysE p n t f=8:=by unfold sysE;rw [if_pos h,if_neg (by rw [h2];simp)]
theorem sys_e3 {p:Fm} {n t f:Int} (h:valE p=0) (h2:admB p n t f=true) (h3:8<n):sysE p n t f=4:=by unfold sysE;rw [if_pos h,if_pos h2,if_pos h3]
end Ns
set_option maxRecDepth 100000
set_option maxHeartbeats 6400000
theorem linksOf_row {top:Int} {c:Nat} (ht:top=2∨top=3) (hc:c≤8):Ctr Try.prog J 87 [iv top,.v (.slice none 0 0),iv c] (.sl 3 c (Ns.lkZ top c c)):=by
 refine Zy Try.func87 rfl (by intro X hX;simp only [List.mem_cons,List.not_mem_nil,or_false] at hX;rcases hX with rfl | rfl | rfl;exact .v _;exact .v _;exact .v _) (n:=33) rfl (by simp) (fun w0 => ?_)
 refine kW 33 [] [(0,iv top),(1,.v (.slice none 0 0)),(2,iv c)] (Zb (Za (pM (Yb (.const (.slice none 0 0)) (.v (.slice none 0 0)) rfl) (Ze (Zd (Zb (Zb (Za (pM (mT 0 (iv top)) (Ze (Zd (ZD (Zb (Zb ?_))))))))))))))
 by_cases hs1:top=2
 refine Za (oC (ZA rfl (dT hs1)) I0 I0 (pM (aT 11 bT) (Ze (Zd (Zm rfl (Zn (Zd (Zm rfl (Zb (Za (pM (mT 2 (iv c)) (ZF rfl (sp_makeZ (k:=1) (n:=c) (bytes:=24) (z:=3) (zv := .agg #[.int .i64 0,.int .i64 0,.int .i64 0]) true rfl U99 (by kernel_rfl) rfl (by decide) (by first | (show 24*c≤_;omega) | omega) (by unfold maxLen;omega) (cs:=(Ns.lkZ top c 0)) (Ns.lkZ_zero top c)) ⟨I0,I0,T0⟩ T0 rfl (pM (aT 14 (.own 1)) (Ze (Zd (Zb (Zb (Za (pM (mT 7 (.own 1)) (oB (sp_lenOwn (.tmp 15) rfl U99) I0 rfl (pM (YL (.const (.int .i64 0)) (iv 0) rfl) (kN 33 [(1,.row true 96 3 c (Ns.lkZ top c 0))] [(0,iv top),(2,iv c),(6,.v (.slice none 0 0)),(7,.own 1),(16,iv c),(17,iv 0)] (Zd ?_)))))))))))))))))))))))
 refine ZD ?_
 refine Yy (σ:={j:Nat // j≤c}) (fun s=>(ofL [(1,.row true 96 3 c (Ns.lkZ top c s.1))],ofT 33 [(0,iv top),(2,iv c),(6,.v (.slice none 0 0)),(7,.own 1),(16,iv c),(17,iv s.1)])) (fun s=>c-s.1) ⟨0,Nat.zero_le _⟩ (ZC _ _ rfl (by kernel_rfl) (by kernel_rfl)) (fun s => ?_)
 obtain ⟨j,hj0⟩:=s
 show ETri J w0 (ofL [(1,.row true 96 3 c (Ns.lkZ top c j))]) (ofT 33 [(0,iv top),(2,iv c),(6,.v (.slice none 0 0)),(7,.own 1),(16,iv c),(17,iv j)]) _
 refine Zb ?_
 by_cases hs2:((j:Nat):Int)<((c:Nat):Int)
 refine Za (oC (ZY rfl (dT hs2)) I0 I0 (Ze (Zd (Zb (Zm rfl (Zn (Zd (Zb (ZD (Zb (Za (pM (mT 17 (iv j)) (pM (aT 19 (iv j)) (Ze (Zd (Za (pM (mT 7 (.own 1)) (pM (mT 8 (iv j)) (pM (mT 0 (iv top)) (pM (mT 2 (iv c)) (pM (mT 8 (iv j)) (ZF rfl (sc #[.tmp 22,.tmp 23,.tmp 24] [] (Ns.rowLink_c (by omega) (by omega) (by omega)) [iv top,iv c,iv j] rfl rfl rfl) ⟨I0,I0,I0,I0,T0⟩ T0 T0 (ZF rfl (sp_indexOwn (off:=j*3) (.tmp 20) (.tmp 21) rfl U99 (by kernel_rfl) (by omega) (by omega) rfl) ⟨I0,I0,T0⟩ ⟨rfl,T0⟩ T0 ?_)))))))))))))))))))))))
 refine ZF rfl (sp_storeRow (X := .agg [iv ((rowL top ((c:Nat):Int) (((j):Nat):Int)).1),iv ((rowL top ((c:Nat):Int) (((j):Nat):Int)).2.1),iv ((rowL top ((c:Nat):Int) (((j):Nat):Int)).2.2)]) (off:=j*3) (cs:=(Ns.lkZ top c j)) (ds:=(Ns.lkZ top c (j+1))) (zz:=3) (.tmp 26) (.tmp 25) rfl (by kernel_rfl) (by kernel_rfl) (fun _ d hd=>by simp only [AV.cellsOf,Ns.lk3,List.mem_cons,List.not_mem_nil,or_false] at hd;rcases hd with rfl | rfl | rfl<;>rfl) (by kernel_rfl) (by rw [Ns.lkZ_len (by omega)];omega) (Ns.lkZ_step (by omega))) ⟨I0,.inr (.inr (.inl ⟨_,rfl,rfl⟩)),T0⟩ ⟨rfl,T0⟩ rfl (Ze (ZT (Zd (Za (oC (Yo (c:=((j+1:Nat):Int)) rfl (w64 (by omega) (by omega) (by omega))) I0 I0 (pM (mT 27 (iv (j+1:Nat))) (kN 33 [(1,.row true 96 3 c (Ns.lkZ top c (j+1)))] [(0,iv top),(2,iv c),(6,.v (.slice none 0 0)),(7,.own 1),(8,iv j),(16,iv c),(17,iv (j+1:Nat)),(18,bT)] (Zd ?_))))))))
 refine ZZ ⟨j+1,by omega⟩ (show c-(j+1)<c-j by omega) ?_
 exact ZC _ _ rfl (by kernel_rfl) (by kernel_rfl)
 refine Za (oC (ZY rfl (dF hs2)) I0 I0 (Ze (Zd (Zb (Zp rfl (Yq (Zz (Zz (t_hit (Zd (Zb (Za (pM (mT 7 (.own 1)) (pM (aT 28 (.own 1)) (Ze (Zd (Zk (ZS (Zj ?_)))))))))))))))))))
 refine Zs Try.results87 (.tmp rfl) ?_
 obtain rfl:j=c:=by omega
 exact rfl
 refine Za (oC (ZA rfl (dF hs1)) I0 I0 (pM (aT 11 bF) (Ze (Zd (Zp rfl (Za (oC (ZA rfl (dT (by omega))) I0 I0 (pM (aT 12 bT) (Ze (Zd (Zm rfl (Zb (Za (pM (mT 2 (iv c)) (ZF rfl (sp_makeZ (k:=1) (n:=c) (bytes:=24) (z:=3) (zv := .agg #[.int .i64 0,.int .i64 0,.int .i64 0]) true rfl U99 (by kernel_rfl) rfl (by decide) (by first | (show 24*c≤_;omega) | omega) (by unfold maxLen;omega) (cs:=(Ns.lkZ top c 0)) (Ns.lkZ_zero top c)) ⟨I0,I0,T0⟩ T0 rfl (pM (aT 14 (.own 1)) (Ze (Zd (Zb (Zb (Za (pM (mT 7 (.own 1)) (oB (sp_lenOwn (.tmp 15) rfl U99) I0 rfl ?_)))))))))))))))))))))))
 refine pM (YL (.const (.int .i64 0)) (iv 0) rfl) (kN 33 [(1,.row true 96 3 c (Ns.lkZ top c 0))] [(0,iv top),(2,iv c),(6,.v (.slice none 0 0)),(7,.own 1),(16,iv c),(17,iv 0)] (Zd (ZD ?_)))
 refine Yy (σ:={j:Nat // j≤c}) (fun s=>(ofL [(1,.row true 96 3 c (Ns.lkZ top c s.1))],ofT 33 [(0,iv top),(2,iv c),(6,.v (.slice none 0 0)),(7,.own 1),(16,iv c),(17,iv s.1)])) (fun s=>c-s.1) ⟨0,Nat.zero_le _⟩ (ZC _ _ rfl (by kernel_rfl) (by kernel_rfl)) (fun s => ?_)
 obtain ⟨j,hj0⟩:=s
 show ETri J w0 (ofL [(1,.row true 96 3 c (Ns.lkZ top c j))]) (ofT 33 [(0,iv top),(2,iv c),(6,.v (.slice none 0 0)),(7,.own 1),(16,iv c),(17,iv j)]) _
 refine Zb ?_
 by_cases hs3:((j:Nat):Int)<((c:Nat):Int)
 refine Za (oC (ZY rfl (dT hs3)) I0 I0 (Ze (Zd (Zb (Zm rfl (Zn (Zd (Zb (ZD (Zb (Za (pM (mT 17 (iv j)) (pM (aT 19 (iv j)) (Ze (Zd (Za (pM (mT 7 (.own 1)) (pM (mT 8 (iv j)) (pM (mT 0 (iv top)) (pM (mT 2 (iv c)) (pM (mT 8 (iv j)) (ZF rfl (sc #[.tmp 22,.tmp 23,.tmp 24] [] (Ns.rowLink_c (by omega) (by omega) (by omega)) [iv top,iv c,iv j] rfl rfl rfl) ⟨I0,I0,I0,I0,T0⟩ T0 T0 (ZF rfl (sp_indexOwn (off:=j*3) (.tmp 20) (.tmp 21) rfl U99 (by kernel_rfl) (by omega) (by omega) rfl) ⟨I0,I0,T0⟩ ⟨rfl,T0⟩ T0 ?_)))))))))))))))))))))))
 refine ZF rfl (sp_storeRow (X := .agg [iv ((rowL top ((c:Nat):Int) (((j):Nat):Int)).1),iv ((rowL top ((c:Nat):Int) (((j):Nat):Int)).2.1),iv ((rowL top ((c:Nat):Int) (((j):Nat):Int)).2.2)]) (off:=j*3) (cs:=(Ns.lkZ top c j)) (ds:=(Ns.lkZ top c (j+1))) (zz:=3) (.tmp 26) (.tmp 25) rfl (by kernel_rfl) (by kernel_rfl) (fun _ d hd=>by simp only [AV.cellsOf,Ns.lk3,List.mem_cons,List.not_mem_nil,or_false] at hd;rcases hd with rfl | rfl | rfl<;>rfl) (by kernel_rfl) (by rw [Ns.lkZ_len (by omega)];omega) (Ns.lkZ_step (by omega))) ⟨I0,.inr (.inr (.inl ⟨_,rfl,rfl⟩)),T0⟩ ⟨rfl,T0⟩ rfl (Ze (ZT (Zd (Za (oC (Yo (c:=((j+1:Nat):Int)) rfl (w64 (by omega) (by omega) (by omega))) I0 I0 (pM (mT 27 (iv (j+1:Nat))) (kN 33 [(1,.row true 96 3 c (Ns.lkZ top c (j+1)))] [(0,iv top),(2,iv c),(6,.v (.slice none 0 0)),(7,.own 1),(8,iv j),(16,iv c),(17,iv (j+1:Nat)),(18,bT)] (Zd ?_))))))))
 refine ZZ ⟨j+1,by omega⟩ (show c-(j+1)<c-j by omega) ?_
 exact ZC _ _ rfl (by kernel_rfl) (by kernel_rfl)
 refine Za (oC (ZY rfl (dF hs3)) I0 I0 (Ze (Zd (Zb (Zp rfl (Yq (Zz (Zz (t_hit (Zd (Zb (Za (pM (mT 7 (.own 1)) (pM (aT 28 (.own 1)) (Ze (Zd (Zk (ZS (Zj ?_)))))))))))))))))))
 refine Zs Try.results87 (.tmp rfl) ?_
 obtain rfl:j=c:=by omega
 exact rfl
theorem linksOf_tree {xs:List Int} {c:Int} (hI:InOk xs) (h0:0<xs.length) (h1:xs.length≤100):Ctr Try.prog J 87 [iv 4,Zc xs,iv c] (Ns.lkT xs):=by
 refine Zy Try.func87 rfl (by intro X hX;simp only [List.mem_cons,List.not_mem_nil,or_false] at hX;rcases hX with rfl | rfl | rfl;exact .v _;exact Z7 _;exact .v _) (n:=33) rfl (by simp) (fun w0 => ?_)
 refine kW 33 [] [(0,iv 4),(1,Zc xs),(2,iv c)] (Zb (Za (pM (Yb (.const (.slice none 0 0)) (.v (.slice none 0 0)) rfl) (Ze (Zd (Zb (Zb (Za (pM (mT 0 (iv 4)) (Ze (Zd (ZD (Zb (Zb (Za (oC (ZA (r:=false) rfl (by decide)) I0 I0 (pM (aT 11 bF) (Ze (Zd (Zp rfl (Za (oC (ZA (r:=false) rfl (by decide)) I0 I0 (pM (aT 12 bF) ?_)))))))))))))))))))))))
 refine Ze (Zd (Zp rfl (Zb (Za (oC (ZA (r:=true) rfl (by decide)) I0 I0 (pM (aT 30 bT) (Ze (Zd (Zm rfl (Zb (Za (pM (mT 1 (Zc xs)) (oC (sc #[.tmp 31] [] (Ns.treeLinks_c hI h0 h1) [Zc xs] rfl rfl rfl) I0 I0 (pM (aT 32 (.fr (Ns.lkT xs))) (Ze (Zd (Zk (ZS (Zj ?_)))))))))))))))))))
 refine Zs Try.results87 (.tmp rfl) ?_
 exact rfl
theorem Sh_pos {c:Nat}:∀ xs∈Sh.shX ((c:Nat):Int),0<xs.length:=by
  unfold Sh.shX
  split
  · intro xs h;cases h
  split
  · intro xs h;cases h
  rename_i h1 h2
  rw [Int.toNat_natCast]
  obtain rfl | rfl | rfl | rfl:c=1∨c=3∨c=5∨c=7:=by omega
  all_goals decide
set_option maxRecDepth 100000 in
theorem place_w {top:Int} {c:Nat} (hc:c≤8) (xs:Nat→Value):CtrW Try.prog J 62 [.box 1000000 0] 1000000 (.box 111 [.v (xs 0),iv top,.v (xs 2),.v (xs 3),.v (xs 4),.v (xs 5),.v (xs 6),.v (xs 7),.v (xs 8),.v (xs 9),.v (xs 10),.v (xs 11),.v (xs 12),iv c,.v (xs 14),.v (xs 15),.v (xs 16),.v (xs 17),.v (xs 18),.v (xs 19),.v (xs 20),.v (xs 21),.v (xs 22),.v (xs 23),.v (xs 24),.v (xs 25),.v (xs 26),.v (xs 27),.v (xs 28),.v (xs 29),.v (xs 30),.v (.slice none 0 0),.v (.slice none 0 0)]) (.box 111 [.v (xs 0),iv top,.v (xs 2),.v (xs 3),.v (xs 4),.v (xs 5),.v (xs 6),.v (xs 7),.v (xs 8),.v (xs 9),.v (xs 10),.v (xs 11),.v (xs 12),iv c,.v (xs 14),.v (xs 15),.v (xs 16),.v (xs 17),.v (xs 18),.v (xs 19),.v (xs 20),.v (xs 21),.v (xs 22),.v (xs 23),.v (xs 24),.v (xs 25),.v (xs 26),.v (xs 27),.v (xs 28),.v (xs 29),.v (xs 30),.fr (slA 1 cLi (Ns.shT top ((c:Nat):Int))),.any]) (.v (.tuple #[])):=by
 have hsh:=Sh_pos (c:=c)
 have hsl:=Sh.shX_len ((c:Nat):Int)
 refine ctrW_of_tri (by decide) Try.func62 rfl (n:=64) rfl (by simp) (fun w0 => ?_)
 refine kW 64 [(1000000,.box 111 [.v (xs 0),iv top,.v (xs 2),.v (xs 3),.v (xs 4),.v (xs 5),.v (xs 6),.v (xs 7),.v (xs 8),.v (xs 9),.v (xs 10),.v (xs 11),.v (xs 12),iv c,.v (xs 14),.v (xs 15),.v (xs 16),.v (xs 17),.v (xs 18),.v (xs 19),.v (xs 20),.v (xs 21),.v (xs 22),.v (xs 23),.v (xs 24),.v (xs 25),.v (xs 26),.v (xs 27),.v (xs 28),.v (xs 29),.v (xs 30),.v (.slice none 0 0),.v (.slice none 0 0)])] [(0,.box 1000000 0)] (Zb (Za (pM (mT 0 (.box 1000000 0)) (oA (ZL (off:=0) (.tmp 4) rfl) I0 (oA (fb 0 5 U111 10) I0 (oA (fb 1 6 U27 1) I0 (oB (lb (iv top) 7 U3) I0 rfl (Ze (Zd (ZD (Zb (Zb ?_))))))))))))
 by_cases hs1:top=2
 refine Za (oC (ZA rfl (dT hs1)) I0 I0 (pM (aT 10 bT) (Ze (Zd (Zm rfl (Zn (Zd (Zm rfl ?_))))))))
 refine Zo (dM (mT 0 (.box 1000000 0)) (dM (mT 0 (.box 1000000 0)) (dA (ZL (off:=0) (.tmp 13) rfl) I0 (dA (fb 0 14 U111 10) I0 (dA (fb 1 15 U27 1) I0 (dB (lb (iv top) 16 U3) I0 rfl (dM (mT 0 (.box 1000000 0)) (dA (ZL (off:=0) (.tmp 18) rfl) I0 (dA (fb 13 19 U111 1) I0 (dB (lb (iv c) 20 U3) I0 rfl (dR (sc #[.tmp 17,.const (.slice none 0 0),.tmp 21] [] (linksOf_row (.inl hs1) hc) [iv top,.v (.slice none 0 0),iv c] rfl rfl rfl) ⟨I0,I0,I0,I0,T0⟩ T0 T0 (dR (sp_build (z:=1) (k:=1) (fr:=false) (cs:=[.fr (.sl 3 c (Ns.lkZ top c c))]) [.tmp 22] [.fr (.sl 3 c (Ns.lkZ top c c))] rfl U109 (by kernel_rfl) (by decide) (by decide) rfl rfl rfl (by kernel_rfl) (by decide) (fun h=>Bool.noConfusion h) (by kernel_rfl)) ⟨I0,T0⟩ T0 rfl (dA (ZL (off:=0) (.tmp 12) rfl) I0 (dA (fb 32 24 U111 1) I0 (dR (sB 1 25 (.tmp 23) (.own 1)) ⟨I0,I0,T0⟩ ⟨rfl,T0⟩ rfl (dE ?_)))))))))))))))) (by kernel_rfl)
 show ETri J w0 _ _ _
 refine kW 64 [(1,.row false 99 1 1 ([.fr (.sl 3 c (Ns.lkZ top c c))])),(1000000,.box 111 [.v (xs 0),iv top,.v (xs 2),.v (xs 3),.v (xs 4),.v (xs 5),.v (xs 6),.v (xs 7),.v (xs 8),.v (xs 9),.v (xs 10),.v (xs 11),.v (xs 12),iv c,.v (xs 14),.v (xs 15),.v (xs 16),.v (xs 17),.v (xs 18),.v (xs 19),.v (xs 20),.v (xs 21),.v (xs 22),.v (xs 23),.v (xs 24),.v (xs 25),.v (xs 26),.v (xs 27),.v (xs 28),.v (xs 29),.v (xs 30),.v (.slice none 0 0),.own 1])] [] (ZT ?_)
 refine Yr ?_
 rw [Ns.shT_no (n:=((c:Nat):Int)) (by omega)]
 refine Yn (Kc 1000000 1 [0,0,0,0,0,0,0,0,0,0,0,0,0,0,0,0,0,0,0,0,0,0,0,0,0,0,0,0,0,0,0,2,1] rfl (ds:=[.v (xs 0),iv top,.v (xs 2),.v (xs 3),.v (xs 4),.v (xs 5),.v (xs 6),.v (xs 7),.v (xs 8),.v (xs 9),.v (xs 10),.v (xs 11),.v (xs 12),iv c,.v (xs 14),.v (xs 15),.v (xs 16),.v (xs 17),.v (xs 18),.v (xs 19),.v (xs 20),.v (xs 21),.v (xs 22),.v (xs 23),.v (xs 24),.v (xs 25),.v (xs 26),.v (xs 27),.v (xs 28),.v (xs 29),.v (xs 30),.fr (.sl 1 0 []),.any]) (by kernel_rfl) (by kernel_rfl)) ?_
 exact Y9 Try.results62  (by decide) (by kernel_rfl)
 refine Za (oC (ZA rfl (dF hs1)) I0 I0 (pM (aT 10 bF) (Ze (Zd (Zp rfl ?_)))))
 by_cases hs2:top=3
 refine Za (oC (ZA rfl (dT hs2)) I0 I0 (pM (aT 11 bT) (Ze (Zd (Zm rfl ?_)))))
 refine Zo (dM (mT 0 (.box 1000000 0)) (dM (mT 0 (.box 1000000 0)) (dA (ZL (off:=0) (.tmp 13) rfl) I0 (dA (fb 0 14 U111 10) I0 (dA (fb 1 15 U27 1) I0 (dB (lb (iv top) 16 U3) I0 rfl (dM (mT 0 (.box 1000000 0)) (dA (ZL (off:=0) (.tmp 18) rfl) I0 (dA (fb 13 19 U111 1) I0 (dB (lb (iv c) 20 U3) I0 rfl (dR (sc #[.tmp 17,.const (.slice none 0 0),.tmp 21] [] (linksOf_row (.inr hs2) hc) [iv top,.v (.slice none 0 0),iv c] rfl rfl rfl) ⟨I0,I0,I0,I0,T0⟩ T0 T0 (dR (sp_build (z:=1) (k:=1) (fr:=false) (cs:=[.fr (.sl 3 c (Ns.lkZ top c c))]) [.tmp 22] [.fr (.sl 3 c (Ns.lkZ top c c))] rfl U109 (by kernel_rfl) (by decide) (by decide) rfl rfl rfl (by kernel_rfl) (by decide) (fun h=>Bool.noConfusion h) (by kernel_rfl)) ⟨I0,T0⟩ T0 rfl (dA (ZL (off:=0) (.tmp 12) rfl) I0 (dA (fb 32 24 U111 1) I0 (dR (sB 1 25 (.tmp 23) (.own 1)) ⟨I0,I0,T0⟩ ⟨rfl,T0⟩ rfl (dE ?_)))))))))))))))) (by kernel_rfl)
 show ETri J w0 _ _ _
 refine kW 64 [(1,.row false 99 1 1 ([.fr (.sl 3 c (Ns.lkZ top c c))])),(1000000,.box 111 [.v (xs 0),iv top,.v (xs 2),.v (xs 3),.v (xs 4),.v (xs 5),.v (xs 6),.v (xs 7),.v (xs 8),.v (xs 9),.v (xs 10),.v (xs 11),.v (xs 12),iv c,.v (xs 14),.v (xs 15),.v (xs 16),.v (xs 17),.v (xs 18),.v (xs 19),.v (xs 20),.v (xs 21),.v (xs 22),.v (xs 23),.v (xs 24),.v (xs 25),.v (xs 26),.v (xs 27),.v (xs 28),.v (xs 29),.v (xs 30),.v (.slice none 0 0),.own 1])] [] (ZT ?_)
 refine Yr ?_
 rw [Ns.shT_no (n:=((c:Nat):Int)) (by omega)]
 refine Yn (Kc 1000000 1 [0,0,0,0,0,0,0,0,0,0,0,0,0,0,0,0,0,0,0,0,0,0,0,0,0,0,0,0,0,0,0,2,1] rfl (ds:=[.v (xs 0),iv top,.v (xs 2),.v (xs 3),.v (xs 4),.v (xs 5),.v (xs 6),.v (xs 7),.v (xs 8),.v (xs 9),.v (xs 10),.v (xs 11),.v (xs 12),iv c,.v (xs 14),.v (xs 15),.v (xs 16),.v (xs 17),.v (xs 18),.v (xs 19),.v (xs 20),.v (xs 21),.v (xs 22),.v (xs 23),.v (xs 24),.v (xs 25),.v (xs 26),.v (xs 27),.v (xs 28),.v (xs 29),.v (xs 30),.fr (.sl 1 0 []),.any]) (by kernel_rfl) (by kernel_rfl)) ?_
 exact Y9 Try.results62  (by decide) (by kernel_rfl)
 refine Za (oC (ZA rfl (dF hs2)) I0 I0 (pM (aT 11 bF) (Ze (Zd (Zp rfl (Zb ?_))))))
 by_cases hs3:top=4
 refine Za (oC (ZA rfl (dT hs3)) I0 I0 (pM (aT 27 bT) (Ze (Zd (Zm rfl (Zb (Za (pM (mT 0 (.box 1000000 0)) (pM (mT 0 (.box 1000000 0)) (oA (ZL (off:=0) (.tmp 30) rfl) I0 (oA (fb 13 31 U111 1) I0 (oB (lb (iv c) 32 U3) I0 rfl (oC (sc #[.tmp 33] [] (Sh.Shapes_n _) [iv c] rfl rfl rfl) I0 I0 (pM (mT 34 (.tup [.fr (slA 1 cLi (Sh.shX ((c:Nat):Int))),iv (Sh.shZ ((c:Nat):Int))])) (oA (Zt (X := .fr (slA 1 cLi (Sh.shX ((c:Nat):Int)))) (.tmp 28) rfl rfl) I0 (oA (Zt (X:=iv (Sh.shZ ((c:Nat):Int))) (.tmp 28) rfl rfl) I0 (oA (ZL (off:=0) (.tmp 29) rfl) I0 (oA (fb 31 37 U111 1) I0 (ZF rfl (sB 1 38 (.tmp 35) (.fr (slA 1 cLi (Sh.shX ((c:Nat):Int))))) ⟨I0,I0,T0⟩ ⟨rfl,T0⟩ rfl (Ze (Zd (Zb (Za ?_)))))))))))))))))))))))
 refine pM (mT 0 (.box 1000000 0)) (oA (ZL (off:=0) (.tmp 39) rfl) I0 (oA (fb 31 40 U111 1) I0 (oB (lb (.fr (slA 1 cLi (Sh.shX ((c:Nat):Int)))) 41 U69) I0 rfl (ZF rfl (nS 42 U69) ⟨.inr (.inl rfl),T0⟩ T0 T0 (pM (YL (.const (.int .i64 0)) (iv 0) rfl) (kN 64 [(1000000,.box 111 [.v (xs 0),iv top,.v (xs 2),.v (xs 3),.v (xs 4),.v (xs 5),.v (xs 6),.v (xs 7),.v (xs 8),.v (xs 9),.v (xs 10),.v (xs 11),.v (xs 12),iv c,.v (xs 14),.v (xs 15),.v (xs 16),.v (xs 17),.v (xs 18),.v (xs 19),.v (xs 20),.v (xs 21),.v (xs 22),.v (xs 23),.v (xs 24),.v (xs 25),.v (xs 26),.v (xs 27),.v (xs 28),.v (xs 29),.v (xs 30),.fr (slA 1 cLi (Sh.shX ((c:Nat):Int))),.v (.slice none 0 0)])] [(0,.box 1000000 0),(42,.fr (slA 1 cLi (Sh.shX ((c:Nat):Int)))),(43,iv ((Sh.shX ((c:Nat):Int)).length:Nat)),(44,iv 0)] (Zd (ZD ?_))))))))
 refine Yn (Ym 1000000 32 1 true 99 1 rfl rfl rfl rfl) ?_
 refine Yy (σ:={j:Nat // j≤(Sh.shX ((c:Nat):Int)).length}) (fun s=>(ofL [(1,.row true 99 1 (((Sh.shX ((c:Nat):Int)).take s.1).length) (((Sh.shX ((c:Nat):Int)).take s.1).flatMap Ns.cLk)),(1000000,.box 111 [.v (xs 0),iv top,.v (xs 2),.v (xs 3),.v (xs 4),.v (xs 5),.v (xs 6),.v (xs 7),.v (xs 8),.v (xs 9),.v (xs 10),.v (xs 11),.v (xs 12),iv c,.v (xs 14),.v (xs 15),.v (xs 16),.v (xs 17),.v (xs 18),.v (xs 19),.v (xs 20),.v (xs 21),.v (xs 22),.v (xs 23),.v (xs 24),.v (xs 25),.v (xs 26),.v (xs 27),.v (xs 28),.v (xs 29),.v (xs 30),.fr (slA 1 cLi (Sh.shX ((c:Nat):Int))),.own 1])],ofT 64 [(0,.box 1000000 0),(42,.fr (slA 1 cLi (Sh.shX ((c:Nat):Int)))),(43,iv ((Sh.shX ((c:Nat):Int)).length:Nat)),(44,iv s.1)])) (fun s=>(Sh.shX ((c:Nat):Int)).length-s.1) ⟨0,Nat.zero_le _⟩ (ZC _ _ rfl (by kernel_rfl) (by kernel_rfl)) (fun s => ?_)
 obtain ⟨j,hj0⟩:=s
 show ETri J w0 (ofL [(1,.row true 99 1 (((Sh.shX ((c:Nat):Int)).take j).length) (((Sh.shX ((c:Nat):Int)).take j).flatMap Ns.cLk)),(1000000,.box 111 [.v (xs 0),iv top,.v (xs 2),.v (xs 3),.v (xs 4),.v (xs 5),.v (xs 6),.v (xs 7),.v (xs 8),.v (xs 9),.v (xs 10),.v (xs 11),.v (xs 12),iv c,.v (xs 14),.v (xs 15),.v (xs 16),.v (xs 17),.v (xs 18),.v (xs 19),.v (xs 20),.v (xs 21),.v (xs 22),.v (xs 23),.v (xs 24),.v (xs 25),.v (xs 26),.v (xs 27),.v (xs 28),.v (xs 29),.v (xs 30),.fr (slA 1 cLi (Sh.shX ((c:Nat):Int))),.own 1])]) (ofT 64 [(0,.box 1000000 0),(42,.fr (slA 1 cLi (Sh.shX ((c:Nat):Int)))),(43,iv ((Sh.shX ((c:Nat):Int)).length:Nat)),(44,iv j)]) _
 have l1:((Sh.shX ((c:Nat):Int)).take j).length≤j:=List.length_take_le _ _
 refine Zb ?_
 by_cases hs4:((j:Nat):Int)<(((Sh.shX ((c:Nat):Int)).length:Nat):Int)
 have hj1:j<(Sh.shX ((c:Nat):Int)).length:=by omega
 have hx0:0<(Sh.shX ((c:Nat):Int))[j].length:=hsh _ (List.getElem_mem hj1)
 have hx1:(Sh.shX ((c:Nat):Int))[j].length≤100:=Nat.le_trans (Sh.shX_mem _ _ (List.getElem_mem hj1)).1 (by decide)
 refine Za (oC (ZY rfl (dT hs4)) I0 I0 (Ze (Zd (Zb (Zm rfl (Zn (Zd (Zb (ZD (Zb (Za (ZF rfl (xS (j*1) 42 44 U69) ⟨.inr (.inl rfl),I0,T0⟩ T0 T0 (oA (lE (Zc ((Sh.shX ((c:Nat):Int))[j])) 46 U24 ((Zu lenLi (Sh.shX ((c:Nat):Int)) j 0 (by omega) (by decide)).trans rfl)) I0 (pM (aT 47 (Zc ((Sh.shX ((c:Nat):Int))[j]))) (Ze (Zd ?_))))))))))))))))
 refine Zo (dM (mT 0 (.box 1000000 0)) (dM (mT 0 (.box 1000000 0)) (dA (ZL (off:=0) (.tmp 49) rfl) I0 (dA (fb 32 50 U111 1) I0 (dB (lb (.own 1) 51 U109) I0 rfl (dM (mT 3 (Zc ((Sh.shX ((c:Nat):Int))[j]))) (dM (mT 0 (.box 1000000 0)) (dA (ZL (off:=0) (.tmp 54) rfl) I0 (dA (fb 13 55 U111 1) I0 (dB (lb (iv c) 56 U3) I0 rfl (dR (sc #[.const (.int .i64 4),.tmp 53,.tmp 57] [] (linksOf_tree (Sh.shX_mem _ _ (List.getElem_mem (by omega))).2 hx0 hx1) [iv 4,Zc ((Sh.shX ((c:Nat):Int))[j]),iv c] rfl rfl rfl) ⟨I0,I0,I0,I0,T0⟩ T0 T0 (dR (sp_build (z:=1) (k:=2) (fr:=false) (cs:=[.fr (Ns.lkT ((Sh.shX ((c:Nat):Int))[j]))]) [.tmp 58] [.fr (Ns.lkT ((Sh.shX ((c:Nat):Int))[j]))] rfl U109 (by kernel_rfl) (by decide) (by decide) rfl rfl rfl (by kernel_rfl) (by decide) (fun h=>Bool.noConfusion h) (by kernel_rfl)) ⟨I0,T0⟩ T0 rfl (dR (sp_appendOwn (n:=((Sh.shX ((c:Nat):Int)).take j).length) (cs:=(((Sh.shX ((c:Nat):Int)).take j).flatMap Ns.cLk)) (fr:=true) (m:=1) (ds:=[.fr (Ns.lkT ((Sh.shX ((c:Nat):Int))[j]))]) (⟨U109,by kernel_rfl,by decide⟩:Elt Try.prog 109 99 1 24) (.tmp 52) (.tmp 59) rfl (fun _=>Ns.newLk (Sh.shX ((c:Nat):Int))[j]) (by unfold maxLen;omega) (by omega) (Ns.cellLk (Sh.shX ((c:Nat):Int))[j]) (es:=(((Sh.shX ((c:Nat):Int)).take (j+1)).flatMap Ns.cLk)) (Ns.snocLk (by omega))) ⟨I0,I0,T0⟩ ⟨rfl,rfl,T0⟩ rfl (dA (ZL (off:=0) (.tmp 48) rfl) I0 (dA (fb 32 61 U111 1) I0 (dR (sB 1 62 (.tmp 60) (.own 1)) ⟨I0,I0,T0⟩ ⟨rfl,T0⟩ rfl (dE ?_))))))))))))))))) (by kernel_rfl)
 show ETri J w0 _ _ _
 refine kW 64 [(1,.row true 99 1 (((Sh.shX ((c:Nat):Int)).take j).length+1) (((Sh.shX ((c:Nat):Int)).take (j+1)).flatMap Ns.cLk)),(1000000,.box 111 [.v (xs 0),iv top,.v (xs 2),.v (xs 3),.v (xs 4),.v (xs 5),.v (xs 6),.v (xs 7),.v (xs 8),.v (xs 9),.v (xs 10),.v (xs 11),.v (xs 12),iv c,.v (xs 14),.v (xs 15),.v (xs 16),.v (xs 17),.v (xs 18),.v (xs 19),.v (xs 20),.v (xs 21),.v (xs 22),.v (xs 23),.v (xs 24),.v (xs 25),.v (xs 26),.v (xs 27),.v (xs 28),.v (xs 29),.v (xs 30),.fr (slA 1 cLi (Sh.shX ((c:Nat):Int))),.own 1])] [(0,.box 1000000 0),(3,Zc ((Sh.shX ((c:Nat):Int))[j])),(42,.fr (slA 1 cLi (Sh.shX ((c:Nat):Int)))),(43,iv ((Sh.shX ((c:Nat):Int)).length:Nat)),(44,iv j),(45,bT)] (ZT (Zd (Za (oC (Yo (c:=((j+1:Nat):Int)) rfl (w64 (by omega) (by omega) (by omega))) I0 I0 (pM (mT 63 (iv (j+1:Nat))) (kN 64 [(1,.row true 99 1 (((Sh.shX ((c:Nat):Int)).take j).length+1) (((Sh.shX ((c:Nat):Int)).take (j+1)).flatMap Ns.cLk)),(1000000,.box 111 [.v (xs 0),iv top,.v (xs 2),.v (xs 3),.v (xs 4),.v (xs 5),.v (xs 6),.v (xs 7),.v (xs 8),.v (xs 9),.v (xs 10),.v (xs 11),.v (xs 12),iv c,.v (xs 14),.v (xs 15),.v (xs 16),.v (xs 17),.v (xs 18),.v (xs 19),.v (xs 20),.v (xs 21),.v (xs 22),.v (xs 23),.v (xs 24),.v (xs 25),.v (xs 26),.v (xs 27),.v (xs 28),.v (xs 29),.v (xs 30),.fr (slA 1 cLi (Sh.shX ((c:Nat):Int))),.own 1])] [(0,.box 1000000 0),(3,Zc ((Sh.shX ((c:Nat):Int))[j])),(42,.fr (slA 1 cLi (Sh.shX ((c:Nat):Int)))),(43,iv ((Sh.shX ((c:Nat):Int)).length:Nat)),(44,iv (j+1:Nat)),(45,bT)] (Zd ?_)))))))
 refine ZZ ⟨j+1,by omega⟩ (show (Sh.shX ((c:Nat):Int)).length-(j+1)<(Sh.shX ((c:Nat):Int)).length-j by omega) ?_
 show Wk _ _ (ofL [(1,.row true 99 1 (((Sh.shX ((c:Nat):Int)).take (j+1)).length) (((Sh.shX ((c:Nat):Int)).take (j+1)).flatMap Ns.cLk)),(1000000,.box 111 [.v (xs 0),iv top,.v (xs 2),.v (xs 3),.v (xs 4),.v (xs 5),.v (xs 6),.v (xs 7),.v (xs 8),.v (xs 9),.v (xs 10),.v (xs 11),.v (xs 12),iv c,.v (xs 14),.v (xs 15),.v (xs 16),.v (xs 17),.v (xs 18),.v (xs 19),.v (xs 20),.v (xs 21),.v (xs 22),.v (xs 23),.v (xs 24),.v (xs 25),.v (xs 26),.v (xs 27),.v (xs 28),.v (xs 29),.v (xs 30),.fr (slA 1 cLi (Sh.shX ((c:Nat):Int))),.own 1])]) (ofT 64 [(0,.box 1000000 0),(42,.fr (slA 1 cLi (Sh.shX ((c:Nat):Int)))),(43,iv ((Sh.shX ((c:Nat):Int)).length:Nat)),(44,iv ((j+1):Nat))])
 rw [show ((Sh.shX ((c:Nat):Int)).take (j+1)).length=((Sh.shX ((c:Nat):Int)).take j).length+1 by rw [List.length_take,List.length_take];omega]
 exact ZC _ _ rfl (by kernel_rfl) (by kernel_rfl)
 refine Za (oC (ZY rfl (dF hs4)) I0 I0 (kN 64 [(1,.row true 99 1 (((Sh.shX ((c:Nat):Int)).take j).length) (((Sh.shX ((c:Nat):Int)).take j).flatMap Ns.cLk)),(1000000,.box 111 [.v (xs 0),iv top,.v (xs 2),.v (xs 3),.v (xs 4),.v (xs 5),.v (xs 6),.v (xs 7),.v (xs 8),.v (xs 9),.v (xs 10),.v (xs 11),.v (xs 12),iv c,.v (xs 14),.v (xs 15),.v (xs 16),.v (xs 17),.v (xs 18),.v (xs 19),.v (xs 20),.v (xs 21),.v (xs 22),.v (xs 23),.v (xs 24),.v (xs 25),.v (xs 26),.v (xs 27),.v (xs 28),.v (xs 29),.v (xs 30),.fr (slA 1 cLi (Sh.shX ((c:Nat):Int))),.own 1])] [(0,.box 1000000 0),(42,.fr (slA 1 cLi (Sh.shX ((c:Nat):Int)))),(43,iv ((Sh.shX ((c:Nat):Int)).length:Nat)),(44,iv j),(45,bF)] (Zd (Zb (Zp rfl (Yq (Zz (Zz (t_hit (ZT ?_))))))))))
 refine Yr ?_
 rw [Ns.shT_tree (n:=((c:Nat):Int)) hs3]
 refine Yn (Kc 1000000 1 [0,0,0,0,0,0,0,0,0,0,0,0,0,0,0,0,0,0,0,0,0,0,0,0,0,0,0,0,0,0,0,0,1] rfl (ds:=[.v (xs 0),iv top,.v (xs 2),.v (xs 3),.v (xs 4),.v (xs 5),.v (xs 6),.v (xs 7),.v (xs 8),.v (xs 9),.v (xs 10),.v (xs 11),.v (xs 12),iv c,.v (xs 14),.v (xs 15),.v (xs 16),.v (xs 17),.v (xs 18),.v (xs 19),.v (xs 20),.v (xs 21),.v (xs 22),.v (xs 23),.v (xs 24),.v (xs 25),.v (xs 26),.v (xs 27),.v (xs 28),.v (xs 29),.v (xs 30),.fr (slA 1 cLi (Sh.shX ((c:Nat):Int))),.any]) (by kernel_rfl) (by kernel_rfl)) ?_
 exact Y9 Try.results62  (by decide) (by kernel_rfl)
 refine Za (oC (ZA rfl (dF hs3)) I0 I0 (pM (aT 27 bF) (kN 64 [(1000000,.box 111 [.v (xs 0),iv top,.v (xs 2),.v (xs 3),.v (xs 4),.v (xs 5),.v (xs 6),.v (xs 7),.v (xs 8),.v (xs 9),.v (xs 10),.v (xs 11),.v (xs 12),iv c,.v (xs 14),.v (xs 15),.v (xs 16),.v (xs 17),.v (xs 18),.v (xs 19),.v (xs 20),.v (xs 21),.v (xs 22),.v (xs 23),.v (xs 24),.v (xs 25),.v (xs 26),.v (xs 27),.v (xs 28),.v (xs 29),.v (xs 30),.v (.slice none 0 0),.v (.slice none 0 0)])] [(0,.box 1000000 0),(26,bF)] (Zd (Zp rfl (Zn (ZT ?_)))))))
 refine Yr ?_
 rw [Ns.shT_no (n:=((c:Nat):Int)) (by omega)]
 refine Yn (Kc 1000000 1 [0,0,0,0,0,0,0,0,0,0,0,0,0,0,0,0,0,0,0,0,0,0,0,0,0,0,0,0,0,0,0,2,1] rfl (ds:=[.v (xs 0),iv top,.v (xs 2),.v (xs 3),.v (xs 4),.v (xs 5),.v (xs 6),.v (xs 7),.v (xs 8),.v (xs 9),.v (xs 10),.v (xs 11),.v (xs 12),iv c,.v (xs 14),.v (xs 15),.v (xs 16),.v (xs 17),.v (xs 18),.v (xs 19),.v (xs 20),.v (xs 21),.v (xs 22),.v (xs 23),.v (xs 24),.v (xs 25),.v (xs 26),.v (xs 27),.v (xs 28),.v (xs 29),.v (xs 30),.fr (.sl 1 0 []),.any]) (by kernel_rfl) (by kernel_rfl)) ?_
 exact Y9 Try.results62  (by decide) (by kernel_rfl)
end Go.Proofs.Ytengacodacejiaa
