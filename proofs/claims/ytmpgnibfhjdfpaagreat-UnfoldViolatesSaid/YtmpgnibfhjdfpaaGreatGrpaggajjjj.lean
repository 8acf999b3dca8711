import Derived.WalkKit
import Derived.ProofKit
import Derived.Handy
import Derived.OpenShut
import Derived.Deep.Slices
import Derived.Lib.SmallJoins
import Derived.ChangeArms
import Derived.Deep.MidRow
import Derived.Laws.AppendOwn
import Derived.Deep.AppendLies
import Derived.Deep.LoopGhost
import Derived.Great.BuildSlice
import Derived.Maps.AppendAt
import Derived.Great.FillDense
set_option linter.all false
namespace Go.Proofs.YtmpgnibfhjdfpaaGreat
open Go.ChangeShapes Go.WideShapes Go.ChangeAt Go.RowKit Go.Deep Go.Joins
def I64 (n:Int):Prop := -9223372036854775808<=n/\n<=9223372036854775807
theorem I64.of_wf {n:Int} (h:(Lit.int .i64 n).wf=true):I64 n:=by
 have:=h
 simp [Lit.wf,IntKind.min,IntKind.signed,IntKind.bits] at this
 exact this
def IsInts (lo:Nat) (w:World) (v:Value) (xs:List Int):Prop :=
 ∃ (a:Option Addr) (cap:Nat),v = .slice a xs.length cap/\xs.length<=cap/\cap<=maxLen/\((∀ x∈xs,I64 x)/\(a=none->cap=0)) /\
  (xs=[]\/∃ b off,a=some ⟨b,off,none⟩/\lo<=b/\b<w.heap.size/\∀ i,i<xs.length->w.cell? ⟨b,off+i,none⟩=some (.int .i64 (xs.getD i 0)))
variable {lo:Nat}{w w':World}{v:Value}{xs:List Int}
theorem IsInts.below (h:IsInts lo w v xs) (hb:Below w.heap.size w w'):IsInts lo w' v xs:=by
 obtain ⟨a,cap,hv,hl,hm,hi,hc⟩:=h
 refine ⟨a,cap,hv,hl,hm,hi,?_⟩
 rcases hc with hc | ⟨b,off,ha,hlo,hbk,hcell⟩
 ·exact .inl hc
 exact .inr ⟨b,off,ha,hlo,Nat.lt_of_lt_of_le hbk hb.size,λi hi=>(hb.cell (p:=⟨b,off+i,none⟩) hbk).trans (hcell i hi)⟩
variable {lo':Nat}
theorem IsInts.mono (h:IsInts lo w v xs) (hl:lo'<=lo):IsInts lo' w v xs:=by
 obtain ⟨a,cap,hv,h1,hm,hi,hc⟩:=h
 refine ⟨a,cap,hv,h1,hm,hi,?_⟩
 rcases hc with hc | ⟨b,off,ha,hlo,r⟩
 ·exact .inl hc
 exact .inr ⟨b,off,ha,Nat.le_trans hl hlo,r⟩
theorem IsInts.shape (h:IsInts lo w v xs):∃ a cap,v = .slice a xs.length cap:=by
 obtain ⟨a,cap,hv,_⟩:=h
 exact ⟨a,cap,hv⟩
theorem hid0 {p:Prop} (h:p):Hid p:=h
theorem ZA {k:IntKind} {a b:Int} (h:a=b):Ending.returned (.int k a) = .returned (.int k b):=by rw [h]
theorem Zt {a b:Bool} (h:a=b):Ending.returned (.bool a) = .returned (.bool b):=by rw [h]
variable {B:Nat}{wr:World}
theorem quietBelow (h:Below B w wr) (n:Nat):Below B w (wr.drewN n):=⟨h.os,h.tape,h.output,h.size,h.block⟩
variable {w1:World}
theorem Zq (h:Below w.heap.size w wr) (k:Below wr.heap.size wr w1):Below w.heap.size w w1:=h.trans (k.mono h.size)
theorem Zm (w:World) (o:Obj):Below w.heap.size w (w.alloc o):=(Below.refl _ _).alloc (Nat.le_refl _) _
variable {W:World}{n:Nat}
theorem blk (hb:Below W.heap.size W w1) (hn:n<W.heap.size):(∀ o,w1.cell? ⟨n,o,none⟩=W.cell? ⟨n,o,none⟩)/\(∀ o,w1.frozen? ⟨n,o,none⟩=W.frozen? ⟨n,o,none⟩) :=
 ⟨λo=>hb.cell (p:=⟨n,o,none⟩) hn,λo=>hb.frozen (p:=⟨n,o,none⟩) hn⟩
theorem ZaV {p:Addr} (h:w.cell? p=some v):p.block<w.heap.size:=by
 unfold World.cell? at h
 cases hb:w.heap[p.block]? with
 | none=>simp [hb] at h
 | some o=>exact (Array.getElem?_eq_some_iff.1 hb).1
theorem keep3 {w w1 w2:World} {p q:Addr} {u v:Value} (h0:w1.cell? p=some u) (h1:w1.cell? q=some v) (h2:Below w.heap.size w w1) (hb:Below w1.heap.size w1 w2):w2.cell? p=some u/\w2.cell? q=some v/\Below w.heap.size w w2 :=
 ⟨(hb.cell (ZaV h0)).trans h0,(hb.cell (ZaV h1)).trans h1,Zq h2 hb⟩
theorem drewBelow (w:World):Below w.heap.size w w.drew:=(Below.refl _ _).drew
theorem Kf (w:World) (o:Obj) (h:n=w.heap.size):(w.alloc o).heap[n]? = some o:=by subst h;exact heap_alloc_new w o
variable {cap:Nat}
theorem IsInts.src {a:Option Addr} (h:IsInts lo w (.slice a n cap) xs) (h0:0<xs.length) :
 ∃ ad,a=some ad/\∀ w',Below w.heap.size w w'->∀ j v,(xs.map (Value.int .i64))[j]? = some v->w'.cell? (ad.add j)=some v:=by
 obtain ⟨a',cap',hv,hl,hm,hi,hc⟩:=h
 rcases hc with rfl | ⟨b,off,rfl,hlo,hbk,hcell⟩
 ·simp at h0
 simp only [Value.slice.injEq] at hv
 refine ⟨⟨b,off,none⟩,hv.1,λw' hb j v hj => ?_⟩
 have hjl:j<xs.length:=by have:=(List.getElem?_eq_some_iff.1 hj).1;simpa using this
 have e2:(⟨b,off,none⟩:Addr).add j=⟨b,off+j,none⟩:=by simp only [Addr.add];split<;>simp_all
 rw [e2,hb.cell (p:=⟨b,off+j,none⟩) hbk,hcell j hjl,<- hj]
 simp [hjl]
variable {g:Nat}{t:TypeId}
theorem KF {cur:Array Value} {fr:Nat × Nat} (hg:w.heap[g]? = some (.cells cur t fr)) (hlo:lo<=g) (hn:xs.length=n) (hl:n<=cap) (hm:cap<=maxLen) (hi:∀ x∈xs,I64 x)
 (hc:∀ i,i<n->cur[i]? = some (.int .i64 (xs.getD i 0))):IsInts lo w (.slice (some ⟨g,0,none⟩) n cap) xs:=by
 subst hn
 refine ⟨_,_,rfl,hl,hm,⟨hi,λe=>by cases e⟩,?_⟩
 by_cases h0:xs=[]
 ·exact .inl h0
 refine .inr ⟨g,0,rfl,hlo,(Array.getElem?_eq_some_iff.1 hg).1,λi h => ?_⟩
 have:=hc i h
 simp only [World.cell?,hg,Nat.zero_add]
 simpa using this
def OwnInts (lo:Nat) (w:World) (g:Nat) (xs:List Int):Prop :=
 lo<=g/\xs.length<=maxLen/\(∀ x∈xs,I64 x)/\∃ cur t,w.heap[g]? = some (.cells cur t (0,0))/\∀ i,i<xs.length->cur[i]? = some (.int .i64 (xs.getD i 0))
theorem OwnInts.lt (h:OwnInts lo w g xs):g<w.heap.size:=by
 obtain ⟨_,_,_,cur,t,hg,_⟩:=h
 exact (Array.getElem?_eq_some_iff.1 hg).1
theorem OwnInts.ints (h:OwnInts lo w g xs):IsInts lo w (.slice (some ⟨g,0,none⟩) xs.length xs.length) xs:=by
 obtain ⟨h1,h2,h3,cur,t,hg,hc⟩:=h
 exact KF hg h1 rfl (Nat.le_refl _) h2 h3 hc
theorem OwnInts.cell {lo:Nat} {w:World} {g:Nat} {xs:List Int} (h:OwnInts lo w g xs) (i:Nat) (hi:i<xs.length):w.cell? ⟨g,i,none⟩=some (.int .i64 (xs.getD i 0)):=by
 obtain ⟨h1,h2,h3,cur,t,hg,hc⟩:=h
 have:=hc i hi
 simp only [World.cell?,hg]
 simpa using this
theorem OwnInts.frozen {lo:Nat} {w:World} {g:Nat} {xs:List Int} (h:OwnInts lo w g xs) (i:Nat):w.frozen? ⟨g,i,none⟩=false:=by
 obtain ⟨h1,h2,h3,cur,t,hg,hc⟩:=h
 simp [World.frozen?,hg]
theorem OwnInts.but (h:OwnInts lo w g xs) (hb:w'.heap[g]? = w.heap[g]?):OwnInts lo w' g xs:=by
 obtain ⟨h1,h2,h3,cur,t,hg,hc⟩:=h
 exact ⟨h1,h2,h3,cur,t,by rw [hb];exact hg,hc⟩
theorem OwnInts.below (h:OwnInts lo w g xs) (hb:Below w.heap.size w w'):OwnInts lo w' g xs:=h.but (hb.block g h.lt)
theorem OwnInts.mono (h:OwnInts lo w g xs) (hl:lo'<=lo):OwnInts lo' w g xs:=⟨Nat.le_trans hl h.1,h.2⟩
theorem OwnInts.set {lo:Nat} {w:World} {g:Nat} {xs:List Int} (h:OwnInts lo w g xs) (i:Nat) (y:Int) (hy:I64 y):OwnInts lo (w.setCell ⟨g,i,none⟩ (.int .i64 y)) g (xs.set i y):=by
 obtain ⟨h1,h2,h3,cur,t,hg,hc⟩:=h
 refine ⟨h1,by simpa using h2,λx hx => ?_,cur.setIfInBounds i (.int .i64 y),t,heap_setCell_same w g i cur t _ hg,λj hj => ?_⟩
 ·rcases List.mem_or_eq_of_mem_set hx with hx | rfl
  ·exact h3 x hx
  exact hy
 rw [List.length_set] at hj
 have hcj:=hc j hj
 have hjc:j<cur.size:=(Array.getElem?_eq_some_iff.1 hcj).1
 by_cases e:i=j
 ·subst e
  simp [hjc,List.getD,hj]
 rw [Array.getElem?_setIfInBounds_ne e,hcj]
 simp [List.getD,List.getElem?_set_ne e]
theorem OwnInts.setOther (h:OwnInts lo w g xs) (a:Addr) (u:Value) (hne:a.block≠g):OwnInts lo (w.setCell a u) g xs :=
 h.but (Below.heap_setCell _ _ _ _ (λe=>hne e.symm))
section
variable {H:Type} {enc:TypeId × Value->H} {P:Program} {w:World} {base:Nat} {sp:Nat->Bool} {held:Bool}
theorem ZU {t e:TypeId} {x:DataW H × List MemPlace} (ht:P.underlying t=some (.slice e)) (he:P.underlying e=some (.int .i64)) (hc:P.cellsOf e=1)
 (h:DataW.trod enc P w base sp held n t [v]=some x):∃ xs,IsInts 0 w v xs:=by
 rcases open_ints ht he hc h with ⟨hcs,_⟩ | ⟨a,len,cap,zs,hcs,_,hl,hm,hz,_,hcell,hwz⟩
 ·simp at hcs
  exact ⟨[],none,0,hcs,by simp,by simp [maxLen],by simp,.inl rfl⟩
 simp at hcs
 have hlz:len<=zs.length:=by rw [hz];split<;>omega
 have hlen:(zs.take len).length=len:=by simp;omega
 refine ⟨zs.take len,some a,cap,by rw [hlen];exact hcs,by rw [hlen];exact hl,hm,⟨λx hx=>I64.of_wf (hwz x (List.mem_of_mem_take hx)),λe=>by cases e⟩,?_⟩
 by_cases h0:len=0
 ·exact .inl (by subst h0;rfl)
 refine .inr ?_
 obtain ⟨b,off,spot⟩:=a
 have hc0:=hcell 0 (by omega)
 have hspot:spot=none:=by simpa [Addr.add] using World.cell?_spot hc0
 subst hspot
 refine ⟨b,off,rfl,Nat.zero_le _,ZaV hc0,λi hi => ?_⟩
 rw [hlen] at hi
 have hci:=hcell i (by omega)
 have e1:(zs.take len).getD i 0=zs.getD i 0:=by simp [List.getD,hi]
 rw [e1]
 have e2:(⟨b,off,none⟩:Addr).add i=⟨b,off+i,none⟩:=by simp only [Addr.add];split<;>simp_all
 rw [e2] at hci
 exact hci
end
end Go.Proofs.YtmpgnibfhjdfpaaGreat
namespace Go.Proofs.YtmpgnibfhjdfpaaGreat
open Go.RowKit Go.Deep Go.ChangeShapes Go.WideShapes Go.ChangeAt Go.Joins
def IsSl {α:Type} (size:Nat) (P:Nat->World->List Value->α->Prop) (lo:Nat) (w:World) (v:Value) (xs:List α):Prop :=
 ∃ (a:Option Addr) (cap:Nat),v = .slice a xs.length cap/\xs.length<=cap/\cap<=maxLen/\(a=none->cap=0) /\
  (xs=[]\/∃ b off,a=some ⟨b,off,none⟩/\lo<=b/\b<w.heap.size /\
   ∀ i (hi:i<xs.length),∃ cs:List Value,cs.length=size/\(∀ j,j<size->w.cell? ⟨b,off+i*size+j,none⟩=cs[j]?)/\P lo w cs xs[i])
def Stays {α:Type} (P:Nat->World->List Value->α->Prop):Prop:=∀ lo w w' cs x,P lo w cs x->Below w.heap.size w w'->P lo w' cs x
def Mono {α:Type} (P:Nat->World->List Value->α->Prop):Prop:=∀ lo lo' w cs x,P lo w cs x->lo'<=lo->P lo' w cs x
variable {size lo:Nat}{w w':World}{v:Value}
theorem IsSl.below {α:Type} {P:Nat->World->List Value->α->Prop} (hP:Stays P) {xs:List α} (h:IsSl size P lo w v xs) (hb:Below w.heap.size w w'):IsSl size P lo w' v xs:=by
 obtain ⟨a,cap,hv,hl,hm,hn,hc⟩:=h
 refine ⟨a,cap,hv,hl,hm,hn,?_⟩
 rcases hc with hc | ⟨b,off,ha,hlo,hbk,hcell⟩
 ·exact .inl hc
 refine .inr ⟨b,off,ha,hlo,Nat.lt_of_lt_of_le hbk hb.size,λi hi => ?_⟩
 obtain ⟨cs,h1,h2,h3⟩:=hcell i hi
 exact ⟨cs,h1,λj hj=>(hb.cell (p:=⟨b,off+i*size+j,none⟩) hbk).trans (h2 j hj),hP _ _ _ _ _ h3 hb⟩
variable {lo':Nat}
theorem IsSl.mono {α:Type} {P:Nat->World->List Value->α->Prop} (hP:Mono P) {xs:List α} (h:IsSl size P lo w v xs) (hl:lo'<=lo):IsSl size P lo' w v xs:=by
 obtain ⟨a,cap,hv,h1,hm,hn,hc⟩:=h
 refine ⟨a,cap,hv,h1,hm,hn,?_⟩
 rcases hc with hc | ⟨b,off,ha,hlo,hbk,r⟩
 ·exact .inl hc
 exact .inr ⟨b,off,ha,Nat.le_trans hl hlo,hbk,λi hi=>by obtain ⟨cs,h1,h2,h3⟩:=r i hi;exact ⟨cs,h1,h2,hP _ _ _ _ _ h3 hl⟩⟩
theorem IsSl.shape {α:Type} {P:Nat->World->List Value->α->Prop} {xs:List α} (h:IsSl size P lo w v xs):∃ a cap,v = .slice a xs.length cap:=by
 obtain ⟨a,cap,hv,_⟩:=h
 exact ⟨a,cap,hv⟩
theorem IsSl.bound {α:Type} {P:Nat->World->List Value->α->Prop} {xs:List α} (h:IsSl size P lo w v xs):xs.length<=9223372036854775807:=by
 obtain ⟨a,cap,_,h1,hm,_⟩:=h
 unfold maxLen at hm;omega
theorem IsSl.at {α:Type} {size:Nat} {P:Nat->World->List Value->α->Prop} {lo:Nat} {w:World} {a:Option Addr} {n cap:Nat} {xs:List α} (h:IsSl size P lo w (.slice a n cap) xs) (k:Nat) (hk:k<xs.length) :
 ∃ b off cs,a=some ⟨b,off,none⟩/\lo<=b/\b<w.heap.size/\cs.length=size/\(∀ j,j<size->w.cell? ⟨b,off+k*size+j,none⟩=cs[j]?)/\P lo w cs xs[k]:=by
 obtain ⟨a',cap',hv,_,_,_,hc⟩:=h
 simp only [Value.slice.injEq] at hv
 rcases hc with rfl | ⟨b,off,ha,hlo,hb,hc⟩
 ·simp at hk
 obtain ⟨cs,h1,h2,h3⟩:=hc k hk
 exact ⟨b,off,cs,hv.1.trans ha,hlo,hb,h1,h2,h3⟩
section
variable {H:Type} {enc:TypeId × Value->H} {P:Program} {w:World} {base:Nat} {sp:Nat->Bool} {held:Bool}
variable {n:Nat}
theorem Y6 {α:Type} {Q:Nat->World->List Value->α->Prop} {t e:TypeId} {x:DataW H × List MemPlace} (ht:P.underlying t=some (.slice e)) (hce:P.cellsOf e=size) (hs:0<size) [Inhabited α]
 (hel:∀ (m:Nat) (cs:List Value) (y:DataW H × List MemPlace),DataW.trod enc P w base sp held m e cs=some y->cs.length=size->∃ a,Q 0 w cs a)
 (h:DataW.trod enc P w base sp held n t [v]=some x):∃ xs,IsSl size Q 0 w v xs:=by
 rcases open_slice ht h with ⟨hcs,_⟩ | ⟨a,len,cap,m,n',D,Pl,hcs,_,hl,hm,hmm,_,hi⟩
 ·simp at hcs
  exact ⟨[],none,0,hcs,by simp,by simp [maxLen],by simp,.inl rfl⟩
 simp at hcs
 have hlm:len<=m:=by rw [hmm];split<;>omega
 by_cases h0:len=0
 ·subst h0
  exact ⟨[],some a,cap,hcs,by simp,hm,(λe=>by cases e),.inl rfl⟩
 have hrow:∀ i,i<len->∃ q:List Value × α,q.1.length=size/\(∀ j,j<size->w.cell? ((a.add (i*size)).add j)=q.1[j]?)/\Q 0 w q.1 q.2:=λi hil=>by
  obtain ⟨cs',hc,htr⟩:=hi i (by omega)
  rw [hce] at hc
  obtain ⟨_,hlen,hat⟩:=World.cells?_some hc
  obtain ⟨y,hy⟩:=hel _ cs' _ htr hlen
  exact ⟨⟨cs',y⟩,hlen,λj hj=>hat j (by omega),hy⟩
 obtain ⟨f,hf⟩:=choose_lt hrow
 obtain ⟨b,off,spot⟩:=a
 have hc0:=(hf 0 (by omega)).2.1 0 hs
 have hl0:=(hf 0 (by omega)).1
 obtain ⟨v0,hv0⟩:∃ v0,(f 0).1[0]? = some v0:=⟨(f 0).1[0]'(by omega),List.getElem?_eq_getElem _⟩
 rw [hv0] at hc0
 have hspot:spot=none:=by simpa [Addr.add] using World.cell?_spot hc0
 subst hspot
 have hadd:∀ j,(⟨b,off,none⟩:Addr).add j=⟨b,off+j,none⟩:=λj=>by simp only [Addr.add];split<;>simp_all
 have hbk:b<w.heap.size:=by have:=ZaV hc0;simpa [Addr.add] using this
 have hlen:((List.range len).map λi=>(f i).2).length=len:=by simp
 refine ⟨(List.range len).map λi=>(f i).2,some ⟨b,off,none⟩,cap,by rw [hlen];exact hcs,by rw [hlen];exact hl,hm,(λe=>by cases e),.inr ⟨b,off,rfl,Nat.zero_le _,hbk,λi hil => ?_⟩⟩
 rw [hlen] at hil
 obtain ⟨g1,g2,g3⟩:=hf i hil
 have e1:((List.range len).map λi=>(f i).2)[i]'(by simpa using hil)=(f i).2:=by simp
 rw [e1]
 exact ⟨(f i).1,g1,λj hj=>by have:=g2 j hj;rwa [Go.Deep.add_add,hadd,<- Nat.add_assoc] at this,g3⟩
end
end Go.Proofs.YtmpgnibfhjdfpaaGreat
namespace Go.Proofs.YtmpgnibfhjdfpaaGreat
open Go.RowKit
variable {W w1:World}
theorem keep1 {p:Addr} {u:Value} (h:W.cell? p=some u) (hb:Below W.heap.size W w1):w1.cell? p=some u:=(hb.cell (ZaV h)).trans h
variable {n:Nat}
theorem Yk (w:World) (cs:Array Value) (t:TypeId) (i:Nat) (h:n=w.heap.size):(w.alloc (.cells cs t)).cell? ⟨n,i,none⟩=cs[i]? := by subst h;simp
end Go.Proofs.YtmpgnibfhjdfpaaGreat
namespace Go.Proofs.YtmpgnibfhjdfpaaGreat
open Go.RowKit Go.Deep
theorem Y1 {g:Nat} {t:TypeId}:∀ (vs:List Value) (o:Nat) (w:World) (cur:Array Value),w.heap[g]? = some (.cells cur t (0,0))->o+vs.length<=cur.size ->
 ∃ cur',(w.setCells g o vs).heap[g]? = some (.cells cur' t (0,0))/\cur'.size=cur.size/\∀ j,cur'[j]? = if o<=j/\j<o+vs.length then vs[j-o]? else cur[j]?
 | [],o,w,cur,h,_=>⟨cur,h,rfl,λj=>by rw [if_neg (by simp)]⟩
 | v::r,o,w,cur,h,hl=>by
   simp only [List.length_cons] at hl
   have h1:=heap_setCell_same w g o cur t v h
   obtain ⟨cur',h2,h3,h4⟩:=Y1 r (o+1) _ _ h1 (by simp;omega)
   refine ⟨cur',h2,by rw [h3];simp,λj => ?_⟩
   rw [h4 j]
   simp only [List.length_cons]
   by_cases hj:o+1<=j/\j<o+1+r.length
   ·rw [if_pos hj,if_pos (by omega),show j-o=(j-(o+1))+1 by omega,List.getElem?_cons_succ]
   rw [if_neg hj]
   by_cases hjo:j=o
   ·subst hjo
    rw [if_pos (by omega),Nat.sub_self,List.getElem?_cons_zero]
    simp only [Array.getElem?_setIfInBounds]
    rw [if_pos trivial,if_pos (by omega)]
   rw [if_neg (by omega),Array.getElem?_setIfInBounds_ne (by omega)]
variable {w:World}{g:Nat}{t:TypeId}
theorem Zch {cur:Array Value} (vs:List Value) (h:w.heap[g]? = some (.cells cur t (0,0))) (hl:vs.length=cur.size):(w.setCells g 0 vs).heap[g]? = some (.cells vs.toArray t (0,0)):=by
 obtain ⟨cur',h1,h2,h3⟩:=Y1 vs 0 w cur h (by omega)
 rw [h1]
 congr 2
 apply Array.ext'
 apply List.ext_getElem?
 intro j
 have:=h3 j
 simp only [Nat.zero_le,true_and,Nat.zero_add,Nat.sub_zero] at this
 simp only [Array.getElem?_toList]
 rw [this]
 split
 ·rfl
 rw [Array.getElem?_eq_none (by omega),List.getElem?_eq_none (by omega)]
theorem belowCells {B b:Nat} {a:World} (hb:B<=b):∀ (vs:List Value) (o:Nat) {w:World},Below B a w->Below B a (w.setCells b o vs)
 | [],_,_,h=>h
 | v::r,o,_,h=>belowCells hb r (o+1) (h.setCell hb v)
theorem Yi (g:Nat):∀ (vs:List Value) (o:Nat) (w:World),(w.setCells g o vs).heap.size=w.heap.size
 | [],_,_=>rfl
 | v::r,o,w=>by rw [World.setCells,Yi g r];simp [World.setCell]
theorem YL {g k:Nat} (hk:k≠g):∀ (vs:List Value) (o:Nat) (w:World),(w.setCells g o vs).heap[k]? = w.heap[k]?
 | [],_,_=>rfl
 | v::r,o,w=>by rw [World.setCells,YL hk r];exact Below.heap_setCell _ _ _ _ hk
variable {n:Nat}
theorem thereBlock {cur:Array Value} (h:w.heap[g]? = some (.cells cur t (0,0))) (hn:n=cur.size):w.there g 0 n:=λj hj=>by
 subst hn
 constructor
 ·simp only [World.cell?,h,Nat.zero_add];simp [hj]
 simp [World.frozen?,h]
theorem YX {fr:Nat × Nat} {cs:List Value} (h:w.heap[g]? = some (.cells cs.toArray t fr)):w.rangeAt g 0 cs:=λj v hj=>by
 simp only [World.cell?,h,Nat.zero_add]
 simpa using hj
variable {b o size:Nat}
theorem rangeOf {cs:List Value} (hl:cs.length=size) (h:∀ j,j<size->w.cell? ⟨b,o+j,none⟩=cs[j]?):w.rangeAt b o cs:=λj v hj=>by
 rw [h j (by have:=(List.getElem?_eq_some_iff.1 hj).1;omega),hj]
variable {w':World}
theorem rangeBelow {cs:List Value} (h:w.rangeAt b o cs) (hb:Below w.heap.size w w'):w'.rangeAt b o cs:=λj v hj=>keep1 (h j v hj) hb
variable {W w1:World}
theorem keepB {o:Obj} (h:W.heap[g]? = some o) (hb:Below W.heap.size W w1):w1.heap[g]? = some o:=(hb.block g (Array.getElem?_eq_some_iff.1 h).1).trans h
variable {v:Value}
theorem Yn {fr:Nat × Nat} {cs:Array Value} (h:w.heap[g]? = some (.cells cs t fr)) (i:Nat) (hv:cs[i]? = some v):w.cell? ⟨g,i,none⟩=some v:=by
 simp only [World.cell?,h];simpa using hv
theorem frozenB {cs:Array Value} (h:w.heap[g]? = some (.cells cs t (0,0))) (i:Nat):w.frozen? ⟨g,i,none⟩=false:=by simp [World.frozen?,h]
section
variable {P:Program} {ops:Array Oper} {rest:List Oper} {o:Oper} {a:Act} {w:World} {Q:Exit->Act->World->Prop}
variable {T:TypeId}
theorem ld_mid {fs:Array Field} (hu:P.underlying T=some (.struct fs)) (hi:(P.info? T).map (·.size)=some size) (hgd:o.guard=none) (x:Operand) (ho:o.op = .load T x)
 (b off:Nat) (cs:List Value) (hx:a.eval x = .pointer (some ⟨b,off,none⟩)) (hl:cs.length=size) (hc:w.rangeAt b off cs) (h:wpList P ops Q rest (a.put o.dst (.agg cs.toArray)) w):wpList P ops Q (o::rest) a w :=
 wpList_load_mid hgd T x ho b off hx cs _ hc hu rfl (by rw [hl];exact hi) h
theorem Zbl (hi:(P.info? T).map (·.size)=some size) (hgd:o.guard=none) (x y:Operand) (ho:o.op = .store T x y)
 (g:Nat) (cells:List Value) {cur:Array Value} {t:TypeId} (hx:a.eval x = .pointer (some ⟨g,0,none⟩)) (hy:a.eval y = .agg cells.toArray) (hl:cells.length=size) (hg:w.heap[g]? = some (.cells cur t (0,0))) (hcur:cur.size=size)
 (h1:∀ v∈cells,v.oneCell'=true)
 (h:∀ w',w'.heap[g]? = some (.cells cells.toArray t (0,0))->(∀ B w0,B<=g->Below B w0 w->Below B w0 w')->w'.heap.size=w.heap.size->(∀ k,k≠g->w'.heap[k]? = w.heap[k]?)->wpList P ops Q rest (a.put o.dst undef) w'):wpList P ops Q (o::rest) a w :=
 wpList_store_mid hgd T x y ho g 0 cells.toArray hx hy (thereBlock hg (by simp [hl,hcur])) (by simpa [hl] using hi) (all_oneCell_toArray h1)
  (h _ (by simpa using Zch cells hg (by omega)) (λB w0 hB hb=>belowCells hB _ _ hb) (Yi g _ _ _) (λk hk=>YL hk _ _ _))
end
variable {J:World->Prop}
inductive AV where
 | v (x:Value)
 | agg (cs:List AV)
 | tup (vs:List AV)
 | box (k o:Nat)
 | own (k:Nat)
 | sl (z n:Nat) (cs:List AV)
 | el (cs:List AV) (o:Nat)
 | fr (X:AV)
 | old (n:Nat) (X:AV)
 | bsl (k o n:Nat)
 | clo (f:FuncId) (cs:List AV)
 | any
def soft (w:World) (b:Nat):Prop:=∃ vs T,w.heap[b]? = some (.cells vs T (0,0))
theorem ZbE (e:w'.heap[b]? = w.heap[b]?) (h:soft w b):soft w' b:=by
 obtain ⟨vs,T,h⟩:=h;exact ⟨vs,T,e.trans h⟩
abbrev nw (w:World) (n b:Nat):Prop:=n<=b/\soft w b
inductive Pu (F:Nat->Prop) (w:World):(Nat->Prop)->AV->Value->Prop
 | any {ok:Nat->Prop} (x:Value):Pu F w ok .any x
 | v {ok:Nat->Prop} (x:Value):Pu F w ok (.v x) x
 | agg {ok:Nat->Prop} {cs:List AV} {vs:Array Value} (hl:vs.size=cs.length) (h:∀ j (hj:j<cs.length),Pu F w ok cs[j] (vs.getD j undef)):Pu F w ok (.agg cs) (.agg vs)
 | tup {ok:Nat->Prop} {cs:List AV} {vs:Array Value} (hl:vs.size=cs.length) (h:∀ j (hj:j<cs.length),Pu F w ok cs[j] (vs.getD j undef)):Pu F w ok (.tup cs) (.tuple vs)
 | fr {ok:Nat->Prop} {X:AV} {x:Value} (h:Pu F w (λb=>ok b/\F b/\soft w b) X x):Pu F w ok (.fr X) x
 | old {ok:Nat->Prop} {n:Nat} {X:AV} {x:Value} (h:Pu F w (λb=>ok b/\b<n) X x):Pu F w ok (.old n X) x
 | clo {ok:Nat->Prop} {f:FuncId} {cs:List AV} {vs:Array Value} (hl:vs.size=cs.length) (h:∀ j (hj:j<cs.length),Pu F w ok cs[j] (vs.getD j undef)):Pu F w ok (.clo f cs) (.func (.func f) #[] vs)
 | sl0 {ok:Nat->Prop} {z:Nat} {a:Option Addr} {cap:Nat} (h2:cap<=maxLen) (hz:a=none->cap=0):Pu F w ok (.sl z 0 []) (.slice a 0 cap)
 | sl {ok:Nat->Prop} {z n b off cap:Nat} {cs:List AV} {f:Nat->Value} (hc:cs.length=n*z) (h1:n<=cap) (h2:cap<=maxLen) (hb:ok b) (hw:b<w.heap.size)
  (hf:∀ j,j<cs.length->w.cell? ⟨b,off+j,none⟩=some (f j)) (h:∀ j (hj:j<cs.length),Pu F w ok cs[j] (f j)):Pu F w ok (.sl z n cs) (.slice (some ⟨b,off,none⟩) n cap)
 | el {ok:Nat->Prop} {b off o:Nat} {cs:List AV} {f:Nat->Value} (hb:ok b) (hw:b<w.heap.size)
  (hf:∀ j,j<cs.length->w.cell? ⟨b,off+j,none⟩=some (f j)) (h:∀ j (hj:j<cs.length),Pu F w ok cs[j] (f j)):Pu F w ok (.el cs o) (.pointer (some ⟨b,off+o,none⟩))
variable {X:AV}{x:Value}
theorem Pu.mono {F F' ok:Nat->Prop} (h:Pu F w ok X x):∀ {ok':Nat->Prop},(∀ b,ok b->b<w.heap.size->ok' b/\b<w'.heap.size/\w'.heap[b]? = w.heap[b]?)->(∀ b,b<w.heap.size->F b->F' b)->Pu F' w' ok' X x:=by
 induction h with
 | any x=>exact λ_ _ => .any x
 | v x=>exact λ_ _ => .v x
 | agg hl _ ih=>exact λhs hF => .agg hl λj hj=>ih j hj hs hF
 | tup hl _ ih=>exact λhs hF => .tup hl λj hj=>ih j hj hs hF
 | clo hl _ ih=>exact λhs hF => .clo hl λj hj=>ih j hj hs hF
 | fr _ ih=>exact λhs hF => .fr (ih (λb hb hw=>⟨⟨(hs b hb.1 hw).1,hF b hw hb.2.1,ZbE (hs b hb.1 hw).2.2 hb.2.2⟩,(hs b hb.1 hw).2⟩) hF)
 | old _ ih=>exact λhs hF => .old (ih (λb hb hw=>⟨⟨(hs b hb.1 hw).1,hb.2⟩,(hs b hb.1 hw).2⟩) hF)
 | sl0 h2 hz=>exact λ_ _ => .sl0 h2 hz
 | sl hc h1 h2 hb hw hf _ ih =>
   intro ok' hs hF
   obtain ⟨a1,a2,a3⟩:=hs _ hb hw
   exact .sl hc h1 h2 a1 a2 (λj hj=>(World.cell?_of_block (w:=_) (w':=w') (a:=⟨_,_,none⟩) a3).trans (hf j hj)) λj hj=>ih j hj hs hF
 | el hb hw hf _ ih =>
   intro ok' hs hF
   obtain ⟨a1,a2,a3⟩:=hs _ hb hw
   exact .el a1 a2 (λj hj=>(World.cell?_of_block (w:=_) (w':=w') (a:=⟨_,_,none⟩) a3).trans (hf j hj)) λj hj=>ih j hj hs hF
theorem Pu.weak {F ok ok':Nat->Prop} (h:Pu F w ok X x) (hs:∀ b,ok b->ok' b):Pu F w ok' X x:=h.mono (λb hb hw=>⟨hs b hb,hw,rfl⟩) λ_ _ h=>h
theorem Pu.strip {F ok:Nat->Prop} (h:Pu F w ok (.fr X) x):Pu F w ok X x:=by
 cases h with | fr h=>exact h.weak λ_ h=>h.1
theorem Pu.unold {F ok:Nat->Prop} (h:Pu F w ok (.old n X) x):Pu F w ok X x:=by
 cases h with | old h=>exact h.weak λ_ h=>h.1
inductive Nm where
 | nil
 | at (b c n:Nat)
structure Names where
 f:Nat->Option Nm
 H:Nat->Prop
instance namesFun:CoeFun Names λ_=>Nat->Option Nm:=⟨Names.f⟩
def Nm.val:Nm->Value
 | .nil => .slice none 0 0
 | .at b c n => .slice (some ⟨b,0,none⟩) n c
def okOf (ρ:Names) (b:Nat):Prop:=∀ k c n,ρ k≠some (.at b c n)
abbrev far:Nat:=2000000
def okN (ρ:Names) (b:Nat):Prop:=∀ k c n,k<far->ρ k≠some (.at b c n)
structure Beyond (ρ:Names) (w w':World):Prop where
 os:w'.os=w.os
 tape:w'.tape=w.tape
 output:w'.output=w.output
 size:w.heap.size<=w'.heap.size
 keep:∀ b,b<w.heap.size->okN ρ b->w'.heap[b]? = w.heap[b]?
variable {ρ:Names}
theorem Y8 (h:Below w.heap.size w w'):Beyond ρ w w':=⟨h.os,h.tape,h.output,h.size,λb hb _=>h.block b hb⟩
abbrev hand:Nat:=1000000
theorem WV:hand<far:=by decide
variable {k:Nat}
theorem Wx (h:Nat.blt k hand=true):k<hand:=by rw [Nat.blt_eq] at h;exact h
structure Wb where
 w:World
 H:Nat->Prop
 N:Nat->Option Nm
abbrev Wb.heap (x:Wb):=x.w.heap
structure Bel (w0:Wb) (w:World):Prop where
 os:w.os=w0.w.os
 tape:w.tape=w0.w.tape
 output:w.output=w0.w.output
 size:w0.heap.size<=w.heap.size
 block:∀ b,b<w0.heap.size->¬ w0.H b->w.heap[b]? = w0.heap[b]?
theorem Bel.refl (w0:Wb):Bel w0 w0.w:=⟨rfl,rfl,rfl,Nat.le_refl _,λ_ _ _=>rfl⟩
theorem Bel.trans {w0:Wb} {w w':World} (h:Bel w0 w) (h':Below w.heap.size w w'):Bel w0 w':=⟨h'.os.trans h.os,h'.tape.trans h.tape,h'.output.trans h.output,Nat.le_trans h.size h'.size,λb hb hH=>(h'.block b (Nat.lt_of_lt_of_le hb h.size)).trans (h.block b hb hH)⟩
theorem Bel.below {w0:Wb} (h:Bel w0 w) (hH:∀ b,¬ w0.H b):Below w0.w.heap.size w0.w w:=⟨h.os,h.tape,h.output,h.size,λb hb=>h.block b hb (hH b)⟩
def rowB (fr:Bool) (B:Nat):Nat:=if fr then B else 0
variable {fr:Bool}{B:Nat}
theorem Zdd (h:B<=n):rowB fr B<=n:=by unfold rowB;split<;>omega
def okR (ρ:Names) (fr:Bool) (B:Nat) (w:World) (b:Nat):Prop:=okOf ρ b/\(fr=true->B<=b/\soft w b)
def PartV (nm:Nm) (o m:Nat) (x:Value):Prop:=(∃ b c n o' cap,nm = .at b c n/\x = .slice (some ⟨b,o',none⟩) m cap/\(m≠0->o'=o))\/(m=0/\x = .slice none 0 0)
inductive Rel (ρ:Names) (B:Nat) (w:World):AV->Value->Prop
 | pu {X:AV} {x:Value} (h:Pu (B <= ·) w (okOf ρ) X x):Rel ρ B w X x
 | box {k o b c n:Nat} (h:ρ k=some (.at b c n)):Rel ρ B w (.box k o) (.pointer (some ⟨b,o,none⟩))
 | own {k:Nat} {nm:Nm} (h:ρ k=some nm):Rel ρ B w (.own k) nm.val
 | bsl {k o m:Nat} {nm:Nm} {x:Value} (h:ρ k=some nm) (hx:PartV nm o m x):Rel ρ B w (.bsl k o m) x
 | agg {cs:List AV} {vs:Array Value} (hl:vs.size=cs.length) (h:∀ j (hj:j<cs.length),Rel ρ B w cs[j] (vs.getD j undef)):Rel ρ B w (.agg cs) (.agg vs)
 | tup {cs:List AV} {vs:Array Value} (hl:vs.size=cs.length) (h:∀ j (hj:j<cs.length),Rel ρ B w cs[j] (vs.getD j undef)):Rel ρ B w (.tup cs) (.tuple vs)
 | clo {f:FuncId} {cs:List AV} {vs:Array Value} (hl:vs.size=cs.length) (h:∀ j (hj:j<cs.length),Rel ρ B w cs[j] (vs.getD j undef)):Rel ρ B w (.clo f cs) (.func (.func f) #[] vs)
inductive ABlk where
 | box (T:TypeId) (cs:List AV)
 | row (fr:Bool) (e z n:Nat) (cs:List AV)
def BlkR (ρ:Names) (w:World) (B:Nat) (nm:Nm):ABlk->Prop
 | .box T cs=>∃ b c n vs,nm = .at b c n/\w.heap[b]? = some (.cells vs T (0,0))/\vs.size=cs.length/\∀ j (hj:j<cs.length),Rel ρ B w cs[j] (vs.getD j undef)
 | .row fr e z n cs=>∃ xs,w.ownsRow (rowB fr B) e z nm.val n xs/\xs.length=cs.length/\∀ j (hj:j<cs.length),Pu (B <= ·) w (okR ρ fr B w) cs[j] (xs.getD j undef)
structure WF (ρ:Names) (B:Nat) (w:World):Prop where
 inj:∀ j k b c d m n,ρ j=some (.at b c m)->ρ k=some (.at b d n)->j=k
 lo:∀ k b c n,ρ k=some (.at b c n)->(B<=b\/ρ.H b\/far<=k)/\b<w.heap.size
inductive Ef where
 | no
 | new (k:Nat) (X:ABlk)
 | st (k:Nat) (X:ABlk)
 | ap (k:Nat) (X:ABlk)
 | nws (k:Nat) (X:ABlk) (k2:Nat) (X2:ABlk)
def Ef.old:Ef->Option Nat
 | .st k _ | .ap k _=>some k
 | _=>none
def Ef.name:Ef->Option Nat
 | .no=>none
 | .new k _ | .st k _ | .ap k _=>some k
 | .nws k _ _ _=>some k
def Ef.name2:Ef->Option Nat
 | .nws _ _ k _=>some k
 | _=>none
def Ef.isN (e:Ef) (k:Nat) (X:ABlk):Prop:=e = .new k X\/(∃ k2 X2,e = .nws k X k2 X2)\/∃ k1 X1,e = .nws k1 X1 k X
def Ef.blk2:Ef->Option (Nat × ABlk)
 | .nws _ _ k X=>some (k,X)
 | _=>none
def Ef.blk:Ef->Option (Nat × ABlk)
 | .no=>none
 | .new k X | .st k X | .ap k X=>some (k,X)
 | .nws k X _ _=>some (k,X)
structure Post (ρ:Names) (B:Nat) (w:World) (u:AV) (e:Ef) (ρ':Names) (w':World) (v:Value):Prop where
 hH:ρ'.H=ρ.H
 os:w'.os=w.os
 tape:w'.tape=w.tape
 output:w'.output=w.output
 size:w.heap.size<=w'.heap.size
 fr:∀ b,b<w.heap.size->(∀ k c n,e.old=some k->ρ k≠some (.at b c n))->w'.heap[b]? = w.heap[b]?
 nm:∀ j,e.name≠some j->e.name2≠some j->ρ' j=ρ j
 st:∀ k X,e = .st k X->ρ' k=ρ k
 made:∀ k X,e.blk=some (k,X)->∃ nm,ρ' k=some nm/\(∀ b c n,nm = .at b c n->b<w'.heap.size/\(B<=b\/ρ.H b\/far<=k)/\(w.heap.size<=b\/∃ c' n',ρ k=some (.at b c' n')))/\BlkR ρ' w' B nm X
 re:Rel ρ' B w' u v
 made2:∀ k X,e.blk2=some (k,X)->∃ nm,ρ' k=some nm/\(∀ b c n,nm = .at b c n->b<w'.heap.size/\B<=b/\w.heap.size<=b/\∀ k' c' n',e.name=some k'->ρ' k'≠some (.at b c' n'))/\BlkR ρ' w' B nm X
def ASpec (P:Program) (J:World->Prop) (o:Oper) (args:List (Operand × AV)) (rd:List (Nat × ABlk)) (u:AV) (e:Ef):Prop :=
 ∀ (ρ:Names) (B:Nat) (a:Act) (w:World) (K:Act->World->Prop) (Q:Exit->Act->World->Prop),WF ρ B w->B<=w.heap.size->(∀ w',Beyond ρ w w'->J w')->(∀ p∈args,Rel ρ B w p.2 (a.eval p.1)) ->
  (∀ p∈rd,∃ nm,ρ p.1=some nm/\BlkR ρ w B nm p.2)->(∀ k X,e.isN k X->ρ k=none)->(∀ ρ' w' v,Post ρ B w u e ρ' w' v->K (a.put o.dst v) w')->o.wp P a w K Q
def AV.free1 (k:Nat):AV->Bool
 | .box j _ => !(j==k)
 | .own j => !(j==k)
 | .bsl j _ _ => !(j==k)
 | .agg _=>false
 | .tup _=>false
 | .clo _ _=>false
 | _=>true
def AV.free2 (k:Nat):AV->Bool
 | .agg cs=>cs.all (AV.free1 k)
 | x=>x.free1 k
def AV.free3 (k:Nat):AV->Bool
 | .tup cs=>cs.all (AV.free2 k)
 | x=>x.free2 k
def AV.kill (k:Nat) (X:AV):AV:=if X.free3 k then X else .any
def ABlk.kill (k:Nat):ABlk->ABlk
 | .box T cs => .box T (cs.map (AV.kill k))
 | X=>X
section
variable {ρ ρ':Names} {B:Nat} {w w':World} {X:AV} {x:Value}
theorem Rel.keep (hp:∀ X x,Pu (B <= ·) w (okOf ρ) X x->Pu (B <= ·) w' (okOf ρ') X x) (hn:∀ j nm,ρ j=some nm->ρ' j=some nm) (h:Rel ρ B w X x):Rel ρ' B w' X x:=by
 induction h with
 | pu h=>exact .pu (hp _ _ h)
 | box h=>exact .box (hn _ _ h)
 | own h=>exact .own (hn _ _ h)
 | bsl h hx=>exact .bsl (hn _ _ h) hx
 | agg hl _ ih=>exact .agg hl ih
 | tup hl _ ih=>exact .tup hl ih
 | clo hl _ ih=>exact .clo hl ih
theorem Rel.keep1 (hp:∀ X x,Pu (B <= ·) w (okOf ρ) X x->Pu (B <= ·) w' (okOf ρ') X x) (hn:∀ j nm,j≠k->ρ j=some nm->ρ' j=some nm) (hf:X.free1 k=true) (h:Rel ρ B w X x):Rel ρ' B w' X x:=by
 cases h with
 | pu h=>exact .pu (hp _ _ h)
 | box h=>exact .box (hn _ _ (by simpa [AV.free1] using hf) h)
 | own h=>exact .own (hn _ _ (by simpa [AV.free1] using hf) h)
 | bsl h hx=>exact .bsl (hn _ _ (by simpa [AV.free1] using hf) h) hx
 | agg hl h=>cases hf
 | tup hl h=>cases hf
 | clo hl h=>cases hf
theorem Rel.keep2 (hp:∀ X x,Pu (B <= ·) w (okOf ρ) X x->Pu (B <= ·) w' (okOf ρ') X x) (hn:∀ j nm,j≠k->ρ j=some nm->ρ' j=some nm) (hf:X.free2 k=true) (h:Rel ρ B w X x):Rel ρ' B w' X x:=by
 cases h with
 | pu h=>exact .pu (hp _ _ h)
 | box h=>exact .box (hn _ _ (by simpa [AV.free1,AV.free2] using hf) h)
 | own h=>exact .own (hn _ _ (by simpa [AV.free1,AV.free2] using hf) h)
 | bsl h hx=>exact .bsl (hn _ _ (by simpa [AV.free1,AV.free2] using hf) h) hx
 | agg hl h=>exact .agg hl λj hj=>(h j hj).keep1 hp hn (List.all_eq_true.1 hf _ (List.getElem_mem hj))
 | tup hl h=>cases hf
 | clo hl h=>cases hf
theorem Rel.keep3 (hp:∀ X x,Pu (B <= ·) w (okOf ρ) X x->Pu (B <= ·) w' (okOf ρ') X x) (hn:∀ j nm,j≠k->ρ j=some nm->ρ' j=some nm) (hf:X.free3 k=true) (h:Rel ρ B w X x):Rel ρ' B w' X x:=by
 cases h with
 | pu h=>exact .pu (hp _ _ h)
 | box h=>exact .box (hn _ _ (by simpa [AV.free1,AV.free2,AV.free3] using hf) h)
 | own h=>exact .own (hn _ _ (by simpa [AV.free1,AV.free2,AV.free3] using hf) h)
 | bsl h hx=>exact .bsl (hn _ _ (by simpa [AV.free1,AV.free2,AV.free3] using hf) h) hx
 | agg hl h=>exact (Rel.agg hl h).keep2 hp hn hf
 | tup hl h=>exact .tup hl λj hj=>(h j hj).keep2 hp hn (List.all_eq_true.1 hf _ (List.getElem_mem hj))
 | clo hl h=>cases hf
theorem Rel.anyR:Rel ρ B w .any x := .pu (.any x)
theorem Rel.kill {k:Nat} (hp:∀ X x,Pu (B <= ·) w (okOf ρ) X x->Pu (B <= ·) w' (okOf ρ') X x) (hn:∀ j nm,j≠k->ρ j=some nm->ρ' j=some nm) (h:Rel ρ B w X x):Rel ρ' B w' (X.kill k) x:=by
 unfold AV.kill
 split
 ·rename_i hf;exact h.keep3 hp hn hf
 exact .anyR
variable {e z:Nat}
theorem ZaB {xs:List Value} (h:w.ownsRow B e z v n xs) (hb:∀ g,v.ownBlock=some g->w'.heap[g]? = w.heap[g]?):w'.ownsRow B e z v n xs:=by
 refine ⟨h.1,?_⟩
 rcases h.2 with h2 | ⟨g,cap,cur,rfl,h3,h4,h5⟩
 ·exact .inl h2
 exact .inr ⟨g,cap,cur,rfl,h3,(hb g rfl).trans h4,h5⟩
theorem Nm.own_block {nm:Nm} (h:nm.val.ownBlock=some g):∃ c n,nm = .at g c n:=by
 cases nm with
 | nil=>cases h
 | «at» b c n=>simp [Nm.val,Value.ownBlock] at h;subst h;exact ⟨_,_,rfl⟩
theorem BlkR.keep (hq:∀ fr X x,Pu (B <= ·) w (okR ρ fr B w) X x->Pu (B <= ·) w' (okR ρ' fr B w') X x) {nm:Nm} {Y:ABlk} (hp:∀ X x,Pu (B <= ·) w (okOf ρ) X x->Pu (B <= ·) w' (okOf ρ') X x) (hn:∀ j nm,ρ j=some nm->ρ' j=some nm) (hb:∀ b c n,nm = .at b c n->w'.heap[b]? = w.heap[b]?) (h:BlkR ρ w B nm Y):BlkR ρ' w' B nm Y:=by
 cases Y with
 | box T cs =>
   obtain ⟨b,c,n,vs,rfl,h1,h2,h3⟩:=h
   exact ⟨b,c,n,vs,rfl,(hb _ _ _ rfl).trans h1,h2,λj hj=>(h3 j hj).keep hp hn⟩
 | row fr e z n cs =>
   obtain ⟨xs,h1,h2,h3⟩:=h
   refine ⟨xs,ZaB h1 λg hg => ?_,h2,λj hj=>hq _ _ _ (h3 j hj)⟩
   obtain ⟨c,n,rfl⟩:=Nm.own_block hg
   exact hb _ _ _ rfl
theorem BlkR.kill (hq:∀ fr X x,Pu (B <= ·) w (okR ρ fr B w) X x->Pu (B <= ·) w' (okR ρ' fr B w') X x) {k:Nat} {nm:Nm} {Y:ABlk} (hp:∀ X x,Pu (B <= ·) w (okOf ρ) X x->Pu (B <= ·) w' (okOf ρ') X x) (hn:∀ j nm,j≠k->ρ j=some nm->ρ' j=some nm) (hb:∀ b c n,nm = .at b c n->w'.heap[b]? = w.heap[b]?) (h:BlkR ρ w B nm Y):BlkR ρ' w' B nm (Y.kill k):=by
 cases Y with
 | box T cs =>
   obtain ⟨b,c,n,vs,rfl,h1,h2,h3⟩:=h
   exact ⟨b,c,n,vs,rfl,(hb _ _ _ rfl).trans h1,by simpa using h2,λj hj=>by rw [List.getElem_map];exact (h3 j (by simpa using hj)).kill hp hn⟩
 | row fr e z n cs =>
   obtain ⟨xs,h1,h2,h3⟩:=h
   refine ⟨xs,ZaB h1 λg hg => ?_,h2,λj hj=>hq _ _ _ (h3 j hj)⟩
   obtain ⟨c,n,rfl⟩:=Nm.own_block hg
   exact hb _ _ _ rfl
end
abbrev AHeap:=Nat->Option ABlk
structure ATm where
 n:Nat
 f:Nat->AV
def ATm.get (t:ATm) (i:Nat):AV:=if i<t.n then t.f i else .any
structure Sat (J:World->Prop) (w0:Wb) (ρ:Names) (h:AHeap) (t:ATm) (a:Act) (w:World):Prop where
 wf:WF ρ w0.heap.size w
 hH:ρ.H=w0.H
 bel:Bel w0 w
 inv:∀ w',Bel w0 w'->J w'
 hp:∀ k X,h k=some X->∃ nm,ρ k=some nm/\BlkR ρ w w0.heap.size nm X
 dom:∀ k,k<hand->h k=none->ρ k=none
 pin:∀ k,hand<=k->ρ k=w0.N k
 tl:a.tmps.size=t.n
 tm:∀ i,i<t.n->Rel ρ w0.heap.size w (t.f i) (a.tmps.getD i undef)
 df:a.defers=[]
 gh:∀ k,far<=k->h k=none
def aev (t:ATm):Operand->AV
 | .tmp i=>t.get i
 | .const x => .v x
 | .global g => .v (.pointer (some ⟨g,0,none⟩))
 | .func f => .v (.func (.func f) #[] #[])
variable {a:Act}
theorem Sat.ev {w0:Wb} {h:AHeap} {t:ATm} (s:Sat J w0 ρ h t a w) (x:Operand):Rel ρ w0.heap.size w (aev t x) (a.eval x):=by
 cases x with
 | tmp i =>
   simp only [aev,Act.eval,ATm.get]
   split
   ·rename_i hi;exact s.tm i hi
   exact .anyR
 | const x=>exact .pu (.v x)
 | global g=>exact .pu (.v _)
 | func f=>exact .pu (.v _)
def aput (t:ATm) (d:Option Tmp) (u:AV):ATm:=match d with | some i=>⟨t.n,λj=>if j=i then u else t.f j⟩ | none=>t
def Ef.heap (e:Ef) (h:AHeap):AHeap:=match e with
 | .no=>h
 | .new k X=>λj=>if j=k then some X else h j
 | .st k X=>λj=>if j=k then some X else h j
 | .ap k X=>λj=>if j=k then some X else (h j).map (ABlk.kill k)
 | .nws k X k2 X2=>λj=>if j=k then some X else if j=k2 then some X2 else h j
def Ef.low:Ef->Bool
 | .new k _=>Nat.blt k hand
 | .ap k _=>Nat.blt k hand
 | .nws k _ k2 _=>Nat.blt k hand&&(Nat.blt k2 hand && !Nat.beq k k2)
 | _=>true
def Ef.slots (e:Ef) (t:ATm):ATm:=match e with
 | .ap k _=>⟨t.n,λj=>(t.f j).kill k⟩
 | _=>t
def AV.mkFr:AV->AV
 | .v x => .v x
 | .fr X => .fr X
 | X => .fr X
def Fits (X Y:AV):Prop:=X=Y\/X = .fr Y\/(∃ cs,X = .fr (.agg cs)/\Y = .agg (cs.map AV.mkFr))\/∃ n,X = .old n Y
theorem Pu.mkFr {F ok:Nat->Prop} {w:World} {X:AV} {x:Value} (h:Pu F w (λb=>ok b/\F b/\soft w b) X x):Pu F w ok X.mkFr x:=by
 cases h with
 | v x=>exact .v x
 | fr h=>exact .fr (h.weak λ_ h=>⟨h.1.1,h.2⟩)
 | any x=>exact .fr (.any x)
 | agg hl h=>exact .fr (.agg hl h)
 | tup hl h=>exact .fr (.tup hl h)
 | clo hl h=>exact .fr (.clo hl h)
 | old h=>exact .fr (.old h)
 | sl0 h2 hz=>exact .fr (.sl0 h2 hz)
 | sl hc h1 h2 hb hw hf h=>exact .fr (.sl hc h1 h2 hb hw hf h)
 | el hb hw hf h=>exact .fr (.el hb hw hf h)
theorem Fits.rel {X Y:AV} (f:Fits X Y) (h:Rel ρ B w X x):Rel ρ B w Y x:=by
 rcases f with rfl | rfl | ⟨cs,rfl,rfl⟩ | ⟨n,rfl⟩
 ·exact h
 ·cases h with | pu h=>exact .pu h.strip
 ·cases h with | pu h=>cases h with | fr h=>cases h with | agg hl h=>exact .pu (.agg (by simpa using hl) λj hj=>by rw [List.getElem_map];exact (h j (by simpa using hj)).mkFr)
 cases h with | pu h=>exact .pu h.unold
def AStep (P:Program) (J:World->Prop) (h:AHeap) (t:ATm) (o:Oper) (u:AV) (e:Ef):Prop :=
 ∃ args rd,ASpec P J o args rd u e/\(∀ p∈args,Fits (aev t p.1) p.2)/\(∀ p∈rd,h p.1=some p.2)/\(∀ k X,e.isN k X->h k=none)/\(∀ k,e.old=some k->(h k).isSome=true)/\e.low=true
section
variable {P:Program} {w0:Wb}
theorem Wr (a:Act) (d:Option Tmp) (v:Value):(a.put d v).tmps.size=a.tmps.size:=by cases d<;>simp [Act.put]
theorem Kn (a:Act) (d:Option Tmp) (v:Value):(a.put d v).defers=a.defers:=by cases d<;>simp [Act.put]
theorem Wf (t:ATm) (d:Option Tmp) (u:AV):(aput t d u).n=t.n:=by cases d<;>rfl
variable {u:AV}
theorem Zak {t:ATm} (d:Option Tmp) (hl:a.tmps.size=t.n) (ht:∀ i,i<t.n->Rel ρ B w (t.f i) (a.tmps.getD i undef)) (hu:Rel ρ B w u v) :
 ∀ i,i<(aput t d u).n->Rel ρ B w ((aput t d u).f i) ((a.put d v).tmps.getD i undef):=by
 cases d with
 | none=>exact ht
 | some d =>
   intro i hi
   simp only [aput,Act.put] at hi ⊢
   by_cases e:i=d
   ·subst e
    rw [if_pos rfl,Array.getD_eq_getD_getElem?,Array.getElem?_setIfInBounds]
    simp only [if_true]
    rw [if_pos (by omega)]
    exact hu
   rw [if_neg e,Array.getD_eq_getD_getElem?,Array.getElem?_setIfInBounds_ne (by omega),<- Array.getD_eq_getD_getElem?]
   exact ht i hi
theorem Sat.bey {h:AHeap} {t:ATm} (s:Sat J w0 ρ h t a w) (hb:Beyond ρ w w'):Bel w0 w' :=
 ⟨hb.os.trans s.bel.os,hb.tape.trans s.bel.tape,hb.output.trans s.bel.output,Nat.le_trans s.bel.size hb.size,λb h1 hH=>(hb.keep b (Nat.lt_of_lt_of_le h1 s.bel.size) λk c n hk2 hk=>(s.wf.lo _ _ _ _ hk).1.elim (λh2=>by omega) λh2=>h2.elim (λh2=>hH (by rw [<- s.hH];exact h2)) λh2=>by omega).trans (s.bel.block b h1 hH)⟩
theorem ZbU {k k2:Nat} {X X2:ABlk} (h:(Ef.nws k X k2 X2).low=true):k<hand/\k2<hand/\k≠k2:=by
 have h':(Nat.blt k hand&&(Nat.blt k2 hand && !Nat.beq k k2))=true:=h
 rw [Bool.and_eq_true,Bool.and_eq_true,Bool.not_eq_true'] at h'
 exact ⟨Wx h'.1,Wx h'.2.1,λe=>by have:=h'.2.2;rw [e,Nat.beq_refl] at this;cases this⟩
theorem isN_low {e:Ef} {X:ABlk} (h:e.isN k X) (hl:e.low=true):k<hand:=by
 rcases h with rfl | ⟨_,_,rfl⟩ | ⟨_,_,rfl⟩
 ·exact Wx hl
 ·exact (ZbU hl).1
 exact (ZbU hl).2.1
theorem Zfx {e:Ef} (h:e.name2=some k):∃ X,e.blk2=some (k,X):=by
 cases e with
 | nws k1 X1 k2 X2=>exact ⟨X2,by rw [<- Option.some.inj h];rfl⟩
 | _=>cases h
theorem Sat.step {h:AHeap} {t:ATm} {o:Oper} {e:Ef} {K:Act->World->Prop} {Q:Exit->Act->World->Prop} (s:Sat J w0 ρ h t a w) (ho:AStep P J h t o u e)
 (hk:∀ ρ' a' w',Sat J w0 ρ' (e.heap h) (aput (e.slots t) o.dst u) a' w'->K a' w'):o.wp P a w K Q:=by
 obtain ⟨args,rd,hs,hargs,hrd,hnew,hold⟩:=ho
 refine hs ρ w0.heap.size a w K Q s.wf s.bel.size (λw' hb=>s.inv w' (s.bey hb)) (λp hp=>(hargs p hp).rel (s.ev p.1)) (λp hp=>s.hp _ _ (hrd p hp)) (λk X he=>s.dom k (isN_low he hold.2) (hnew k X he)) fun ρ' w' v p=>hk ρ' _ w' ?_
 have hpin:∀ k,hand<=k->ρ' k=w0.N k:=λk hk=>by
  rw [<- s.pin k hk]
  by_cases hn:e.name=some k
  ·cases e with
   | no=>cases hn
   | new k0 X0=>cases hn;have:=Wx hold.2;omega
   | ap k0 X0=>cases hn;have:=Wx hold.2;omega
   | st k0 X0=>cases hn;exact p.st _ _ rfl
   | nws k0 X0 k2 X2=>cases hn;have:=(ZbU hold.2).1;omega
  refine p.nm k hn λhn2 => ?_
  cases e<;>first | (cases hn2) | skip
  rename_i k0 X0 k2 X2
  have:=(ZbU hold.2).2.1
  omega
 -- what has no name stands as it stood
 have hok:∀ b,okOf ρ b->b<w.heap.size->okOf ρ' b/\b<w'.heap.size/\w'.heap[b]? = w.heap[b]? := λb hb hw=>by
  refine ⟨λk c n hk => ?_,Nat.lt_of_lt_of_le hw p.size,p.fr b hw λk c n _=>hb k c n⟩
  by_cases hkn:e.name=some k
  ·cases hb':e.blk with
   | none=>cases e<;>simp_all [Ef.name,Ef.blk]
   | some q =>
     obtain ⟨k',X'⟩:=q
     obtain rfl:k'=k:=by cases e<;>simp_all [Ef.name,Ef.blk]
     obtain ⟨nm,h1,h2,_⟩:=p.made k' X' hb'
     rw [hk] at h1
     cases h1
     obtain ⟨_,_,h3⟩:=h2 b c n rfl
     rcases h3 with h3 | ⟨c',n',h3⟩
     ·omega
     exact hb _ _ _ h3
  by_cases hk2:e.name2=some k
  ·obtain ⟨X2,hb2⟩:=Zfx hk2
   obtain ⟨nm,h1,h2,_⟩:=p.made2 k X2 hb2
   rw [hk] at h1
   cases h1
   have:=(h2 b c n rfl).2.2.1
   omega
  rw [p.nm k hkn hk2] at hk;exact hb _ _ _ hk
 have hpu:∀ X x,Pu (w0.heap.size <= ·) w (okOf ρ) X x->Pu (w0.heap.size <= ·) w' (okOf ρ') X x:=λX x hx=>hx.mono hok λ_ _ h=>h
 have hpq:∀ fr X x,Pu (w0.heap.size <= ·) w (okR ρ fr w0.heap.size w) X x->Pu (w0.heap.size <= ·) w' (okR ρ' fr w0.heap.size w') X x:=λfr X x hx=>hx.mono (λb hb hw=>⟨⟨(hok b hb.1 hw).1,λe=>⟨(hb.2 e).1,ZbE (hok b hb.1 hw).2.2 (hb.2 e).2⟩⟩,(hok b hb.1 hw).2⟩) λ_ _ h=>h
 have hblk:∀ j nm,e.name≠some j->ρ j=some nm->∀ b c n,nm = .at b c n->w'.heap[b]? = w.heap[b]? := λj nm hj hr b c n hnm=>by
  subst hnm
  refine p.fr b (s.wf.lo _ _ _ _ hr).2 λk c' n' hk hrk => ?_
  have:=s.wf.inj _ _ _ _ _ _ _ hr hrk
  subst this
  exact hj (by cases e<;>simp_all [Ef.old,Ef.name])
 have hwf:WF ρ' w0.heap.size w':=by
  constructor
  ·intro j k b c d m n hj hk
   have one:∀ j k c d m n,e.name=some j->e.name≠some k->e.name2≠some k->ρ' j=some (.at b c m)->ρ' k=some (.at b d n)->False:=λj k c d m n hjn hkn hkn2 hj hk=>by
    rw [p.nm k hkn hkn2] at hk
    cases hb':e.blk with
    | none=>cases e<;>simp_all [Ef.name,Ef.blk]
    | some q =>
      obtain ⟨k',X'⟩:=q
      obtain rfl:k'=j:=by cases e<;>simp_all [Ef.name,Ef.blk]
      obtain ⟨nm,h1,h2,_⟩:=p.made k' X' hb'
      rw [hj] at h1
      cases h1
      obtain ⟨_,_,h3⟩:=h2 b c m rfl
      have:=(s.wf.lo _ _ _ _ hk).2
      rcases h3 with h3 | ⟨c',n',h3⟩
      ·omega
      have:=s.wf.inj _ _ _ _ _ _ _ h3 hk
      subst this
      exact hkn hjn
   have two:∀ j k c d m n,e.name2=some j->e.name2≠some k->ρ' j=some (.at b c m)->ρ' k=some (.at b d n)->False:=λj k c d m n hj2 hk2 hj hk=>by
    obtain ⟨X2,hb2⟩:=Zfx hj2
    obtain ⟨nm,h1,h2,_⟩:=p.made2 j X2 hb2
    rw [hj] at h1
    cases h1
    by_cases hkn:e.name=some k
    ·exact (h2 b c m rfl).2.2.2 k d n hkn hk
    rw [p.nm k hkn hk2] at hk
    have:=(s.wf.lo _ _ _ _ hk).2
    have:=(h2 b c m rfl).2.2.1
    omega
   by_cases hj2:e.name2=some j
   ·by_cases hk2:e.name2=some k
    ·exact Option.some.inj (hj2.symm.trans hk2)
    exact (two j k c d m n hj2 hk2 hj hk).elim
   by_cases hk2:e.name2=some k
   ·exact (two k j d c n m hk2 hj2 hk hj).elim
   by_cases hjn:e.name=some j
   ·by_cases hkn:e.name=some k
    ·exact Option.some.inj (hjn.symm.trans hkn)
    exact (one j k c d m n hjn hkn hk2 hj hk).elim
   by_cases hkn:e.name=some k
   ·exact (one k j d c n m hkn hjn hj2 hk hj).elim
   rw [p.nm j hjn hj2] at hj;rw [p.nm k hkn hk2] at hk
   exact s.wf.inj _ _ _ _ _ _ _ hj hk
  intro k b c n hk
  by_cases hkn:e.name=some k
  ·cases hb':e.blk with
   | none=>cases e<;>simp_all [Ef.name,Ef.blk]
   | some q =>
     obtain ⟨k',X'⟩:=q
     obtain rfl:k'=k:=by cases e<;>simp_all [Ef.name,Ef.blk]
     obtain ⟨nm,h1,h2,_⟩:=p.made k' X' hb'
     rw [hk] at h1
     cases h1
     exact ⟨by rw [p.hH];exact (h2 b c n rfl).2.1,(h2 b c n rfl).1⟩
  by_cases hk2:e.name2=some k
  ·obtain ⟨X2,hb2⟩:=Zfx hk2
   obtain ⟨nm,h1,h2,_⟩:=p.made2 k X2 hb2
   rw [hk] at h1
   cases h1
   exact ⟨.inl (h2 b c n rfl).2.1,(h2 b c n rfl).1⟩
  rw [p.nm k hkn hk2] at hk
  have:=s.wf.lo _ _ _ _ hk
  exact ⟨by rw [p.hH];exact this.1,Nat.lt_of_lt_of_le this.2 p.size⟩
 have hlow:∀ k,e.old=some k->k<far:=λk he=>by
  rcases Nat.lt_or_ge k far with h1 | h1
  ·exact h1
  have:=hold.1 k he
  rw [s.gh k h1] at this
  cases this
 have hbel:Bel w0 w':=by
  exact s.bey ⟨p.os,p.tape,p.output,p.size,λb hb hok=>p.fr b hb λk c n he=>hok k c n (hlow k he)⟩
 cases e with
 | no =>
   have hn:∀ j nm,ρ j=some nm->ρ' j=some nm:=λj nm hj=>by rw [p.nm j (by simp [Ef.name]) (by simp [Ef.name2])];exact hj
   refine ⟨hwf,p.hH.trans s.hH,hbel,s.inv,λk X hk => ?_,λk hl hk=>by rw [p.nm k (by simp [Ef.name]) (by simp [Ef.name2])];exact s.dom k hl hk,hpin,by rw [Wr,Wf];exact s.tl,Zak _ s.tl (λi hi=>(s.tm i hi).keep hpu hn) p.re,by rw [Kn];exact s.df,s.gh⟩
   obtain ⟨nm,h1,h2⟩:=s.hp k X hk
   exact ⟨nm,hn _ _ h1,h2.keep hpq hpu hn (hblk k nm (by simp [Ef.name]) h1)⟩
 | new k0 X0 =>
   have hn:∀ j nm,ρ j=some nm->ρ' j=some nm:=λj nm hj=>by
    rw [p.nm j (by simp only [Ef.name,ne_eq,Option.some.injEq];rintro rfl;rw [s.dom _ (Wx hold.2) (hnew _ _ (.inl rfl))] at hj;cases hj) (by simp [Ef.name2])];exact hj
   refine ⟨hwf,p.hH.trans s.hH,hbel,s.inv,λk X hk => ?_,λk hl hk => ?_,hpin,by rw [Wr,Wf];exact s.tl,Zak _ s.tl (λi hi=>(s.tm i hi).keep hpu hn) p.re,by rw [Kn];exact s.df,λk hk=>by show (if k=k0 then _ else _)=none;rw [if_neg (by have:=Wx hold.2;have:=WV;omega)];exact s.gh k hk⟩
   ·simp only [Ef.heap] at hk
    by_cases hne:k=k0
    ·rw [if_pos hne] at hk
     obtain rfl:=Option.some.inj hk
     obtain ⟨nm,h1,_,h3⟩:=p.made _ _ rfl
     exact ⟨nm,by rw [hne];exact h1,h3⟩
    rw [if_neg hne] at hk
    obtain ⟨nm,h1,h2⟩:=s.hp k X hk
    exact ⟨nm,hn _ _ h1,h2.keep hpq hpu hn (hblk k nm (by simp [Ef.name];exact λe=>hne e.symm) h1)⟩
   simp only [Ef.heap] at hk
   split at hk
   ·cases hk
   rename_i hne
   rw [p.nm k (by simp [Ef.name];exact λe=>hne e.symm) (by simp [Ef.name2])];exact s.dom k hl hk
 | st k0 X0 =>
   have hn:∀ j nm,ρ j=some nm->ρ' j=some nm:=λj nm hj=>by
    by_cases e:j=k0
    ·subst e;rw [p.st _ _ rfl];exact hj
    rw [p.nm j (by simp [Ef.name];exact λh=>e h.symm) (by simp [Ef.name2])];exact hj
   refine ⟨hwf,p.hH.trans s.hH,hbel,s.inv,λk X hk => ?_,λk hl hk => ?_,hpin,by rw [Wr,Wf];exact s.tl,Zak _ s.tl (λi hi=>(s.tm i hi).keep hpu hn) p.re,by rw [Kn];exact s.df,λk hk=>by show (if k=k0 then _ else _)=none;rw [if_neg (by have:=hlow k0 rfl;omega)];exact s.gh k hk⟩
   ·simp only [Ef.heap] at hk
    by_cases hne:k=k0
    ·rw [if_pos hne] at hk
     obtain rfl:=Option.some.inj hk
     obtain ⟨nm,h1,_,h3⟩:=p.made _ _ rfl
     exact ⟨nm,by rw [hne];exact h1,h3⟩
    rw [if_neg hne] at hk
    obtain ⟨nm,h1,h2⟩:=s.hp k X hk
    exact ⟨nm,hn _ _ h1,h2.keep hpq hpu hn (hblk k nm (by simp [Ef.name];exact λe=>hne e.symm) h1)⟩
   simp only [Ef.heap] at hk
   split at hk
   ·cases hk
   rename_i hne
   rw [p.nm k (by simp [Ef.name];exact λe=>hne e.symm) (by simp [Ef.name2])];exact s.dom k hl hk
 | ap k0 X0 =>
   have hn:∀ j nm,j≠k0->ρ j=some nm->ρ' j=some nm:=λj nm hne hj=>by
    rw [p.nm j (by simp [Ef.name];exact λh=>hne h.symm) (by simp [Ef.name2])];exact hj
   refine ⟨hwf,p.hH.trans s.hH,hbel,s.inv,λk X hk => ?_,λk hl hk => ?_,hpin,by rw [Wr,Wf];simpa [Ef.slots] using s.tl,Zak _ (by simpa [Ef.slots] using s.tl) (λi hi => ?_) p.re,by rw [Kn];exact s.df,λk hk=>by show (if k=k0 then _ else _)=none;rw [if_neg (by have:=hlow k0 rfl;omega),s.gh k hk];rfl⟩
   ·simp only [Ef.heap] at hk
    by_cases hne:k=k0
    ·rw [if_pos hne] at hk
     obtain rfl:=Option.some.inj hk
     obtain ⟨nm,h1,_,h3⟩:=p.made _ _ rfl
     exact ⟨nm,by rw [hne];exact h1,h3⟩
    rw [if_neg hne] at hk
    obtain ⟨Y,hY,rfl⟩:=Option.map_eq_some_iff.1 hk
    obtain ⟨nm,h1,h2⟩:=s.hp k Y hY
    exact ⟨nm,hn _ _ hne h1,h2.kill hpq hpu hn (hblk k nm (by simp [Ef.name];exact λe=>hne e.symm) h1)⟩
   ·simp only [Ef.heap] at hk
    split at hk
    ·cases hk
    rename_i hne
    rw [p.nm k (by simp [Ef.name];exact λe=>hne e.symm) (by simp [Ef.name2])];exact s.dom k hl (by simpa using hk)
   exact (s.tm i (by simpa [Ef.slots] using hi)).kill hpu hn
 | nws k0 X0 k2 X2 =>
   have hlo:=ZbU hold.2
   have hf0:ρ k0=none:=s.dom _ hlo.1 (hnew _ _ (.inr (.inl ⟨_,_,rfl⟩)))
   have hf2:ρ k2=none:=s.dom _ hlo.2.1 (hnew _ _ (.inr (.inr ⟨_,_,rfl⟩)))
   have hn:∀ j nm,ρ j=some nm->ρ' j=some nm:=λj nm hj=>by
    rw [p.nm j (λe=>by cases e;rw [hf0] at hj;cases hj) (λe=>by cases e;rw [hf2] at hj;cases hj)];exact hj
   refine ⟨hwf,p.hH.trans s.hH,hbel,s.inv,λk X hk => ?_,λk hl hk => ?_,hpin,by rw [Wr,Wf];exact s.tl,Zak _ s.tl (λi hi=>(s.tm i hi).keep hpu hn) p.re,by rw [Kn];exact s.df,λk hk=>by show (if k=k0 then _ else if k=k2 then _ else _)=none;rw [if_neg (by have:=WV;omega),if_neg (by have:=WV;omega)];exact s.gh k hk⟩
   ·simp only [Ef.heap] at hk
    by_cases hne:k=k0
    ·rw [if_pos hne] at hk
     obtain rfl:=Option.some.inj hk
     obtain ⟨nm,h1,_,h3⟩:=p.made _ _ rfl
     exact ⟨nm,by rw [hne];exact h1,h3⟩
    rw [if_neg hne] at hk
    by_cases hne2:k=k2
    ·rw [if_pos hne2] at hk
     obtain rfl:=Option.some.inj hk
     obtain ⟨nm,h1,_,h3⟩:=p.made2 _ _ rfl
     exact ⟨nm,by rw [hne2];exact h1,h3⟩
    rw [if_neg hne2] at hk
    obtain ⟨nm,h1,h2⟩:=s.hp k X hk
    exact ⟨nm,hn _ _ h1,h2.keep hpq hpu hn (hblk k nm (by simp [Ef.name];exact λe=>hne e.symm) h1)⟩
   simp only [Ef.heap] at hk
   by_cases hne:k=k0
   ·rw [if_pos hne] at hk;cases hk
   rw [if_neg hne] at hk
   by_cases hne2:k=k2
   ·rw [if_pos hne2] at hk;cases hk
   rw [if_neg hne2] at hk
   rw [p.nm k (by simp [Ef.name];exact λe=>hne e.symm) (by simp [Ef.name2];exact λe=>hne2 e.symm)];exact s.dom k hl hk
def ETri (J:World->Prop) (w0:Wb) (h:AHeap) (t:ATm) (Φ:Act->World->Prop):Prop:=∀ ρ a w,Sat J w0 ρ h t a w->Φ a w
theorem ZL {h:AHeap} {t:ATm} {ops:Array Oper} {Q:Exit->Act->World->Prop} (H:ETri J w0 h t (Q .normal)):ETri J w0 h t (wpList P ops Q []):=H
theorem tri_op {h:AHeap} {t:ATm} {ops:Array Oper} {o:Oper} {rest:List Oper} {Q:Exit->Act->World->Prop} {e:Ef} (hg:o.guard=none) (ho:AStep P J h t o u e)
 (H:ETri J w0 (e.heap h) (aput (e.slots t) o.dst u) (wpList P ops Q rest)):ETri J w0 h t (wpList P ops Q (o::rest)):=fun ρ a w s=>by
 refine wpList_plain hg λK hK => ?_
 exact s.step ho fun ρ' a' w' s'=>hK _ _ (H ρ' a' w' s')
end
section
variable {ρ:Names} {B:Nat} {w:World} {x:Value}
theorem Rel.v_inv {y:Value} (h:Rel ρ B w (.v x) y):y=x:=by cases h with | pu h=>cases h with | v _=>rfl
theorem Rel.box_inv (h:Rel ρ B w (.box k o) x):∃ b c n,ρ k=some (.at b c n)/\x = .pointer (some ⟨b,o,none⟩):=by
 cases h with
 | pu h=>cases h
 | box h=>exact ⟨_,_,_,h,rfl⟩
theorem Rel.own_inv (h:Rel ρ B w (.own k) x):∃ nm,ρ k=some nm/\x=nm.val:=by
 cases h with
 | pu h=>cases h
 | own h=>exact ⟨_,h,rfl⟩
variable {z:Nat}{cs:List AV}
theorem Rel.sl_inv (h:Rel ρ B w (.sl z n cs) x):Pu (B <= ·) w (okOf ρ) (.sl z n cs) x:=by cases h with | pu h=>exact h
theorem Rel.el_inv (h:Rel ρ B w (.el cs o) x):Pu (B <= ·) w (okOf ρ) (.el cs o) x:=by cases h with | pu h=>exact h
theorem Rel.agg_inv (h:Rel ρ B w (.agg cs) x):∃ vs:Array Value,x = .agg vs/\vs.size=cs.length/\∀ j (hj:j<cs.length),Rel ρ B w cs[j] (vs.getD j undef):=by
 cases h with
 | pu h=>cases h with | agg hl h=>exact ⟨_,rfl,hl,λj hj => .pu (h j hj)⟩
 | agg hl h=>exact ⟨_,rfl,hl,h⟩
theorem Rel.clo_inv {f:FuncId} (h:Rel ρ B w (.clo f cs) x):∃ vs:Array Value,x = .func (.func f) #[] vs/\vs.size=cs.length/\∀ j (hj:j<cs.length),Rel ρ B w cs[j] (vs.getD j undef):=by
 cases h with
 | pu h=>cases h with | clo hl h=>exact ⟨_,rfl,hl,λj hj => .pu (h j hj)⟩
 | clo hl h=>exact ⟨_,rfl,hl,h⟩
theorem Rel.tup_inv (h:Rel ρ B w (.tup cs) x):∃ vs:Array Value,x = .tuple vs/\vs.size=cs.length/\∀ j (hj:j<cs.length),Rel ρ B w cs[j] (vs.getD j undef):=by
 cases h with
 | pu h=>cases h with | tup hl h=>exact ⟨_,rfl,hl,λj hj => .pu (h j hj)⟩
 | tup hl h=>exact ⟨_,rfl,hl,h⟩
end
def ABlk.cells:ABlk->List AV
 | .box _ cs=>cs
 | .row _ _ _ _ cs=>cs
theorem BlkR.cell {ρ:Names} {w:World} {B:Nat} {nm:Nm} {Y:ABlk} (h:BlkR ρ w B nm Y) {j:Nat} (hj:j<Y.cells.length):∃ b c n v,nm = .at b c n/\w.cell? ⟨b,j,none⟩=some v/\w.frozen? ⟨b,j,none⟩=false/\Rel ρ B w Y.cells[j] v:=by
 cases Y with
 | box T cs =>
   obtain ⟨b,c,n,vs,rfl,h1,h2,h3⟩:=h
   have hj':j<vs.size:=by rw [h2];exact hj
   refine ⟨b,c,n,vs.getD j undef,rfl,?_,frozenB h1 j,h3 j hj⟩
   rw [Yn h1 j (v:=vs.getD j undef) (by simp [Array.getD,hj'])]
 | row fr e z n cs =>
   obtain ⟨xs,h1,h2,h3⟩:=h
   have hj':j<xs.length:=by rw [h2];exact hj
   obtain ⟨h4,h5⟩:=h1
   rcases h5 with ⟨_,h0⟩ | ⟨g,cap,cur,hv,hb,hg,hn,hm,hs,ht⟩
   ·subst h0;rw [Nat.zero_mul] at h4;omega
   cases nm with
   | nil=>cases hv
   | «at» b c m =>
     simp only [Nm.val,Value.slice.injEq,Option.some.injEq,Addr.mk.injEq,and_true] at hv
     obtain ⟨rfl,rfl,rfl⟩:=hv
     refine ⟨b,c,m,xs.getD j undef,rfl,?_,frozenB hg j,.pu ((h3 j hj).weak λ_ h=>h.1)⟩
     have:cur.toList[j]? = xs[j]? := by rw [<- ht,List.getElem?_take,if_pos (by rw [<- h4];exact hj')]
     rw [Yn hg j (v:=xs.getD j undef) (by rw [<- Array.getElem?_toList,this,List.getD_eq_getElem?_getD,List.getElem?_eq_getElem hj'];rfl)]
variable {c m e z:Nat}{cs:List AV}
theorem BlkR.softR {nm:Nm} (h:BlkR ρ w B nm (.row fr e z n cs)) (hnm:nm = .at b c m):soft w b:=by
 obtain ⟨xs,⟨_,h5⟩,_,_⟩:=h
 subst hnm
 rcases h5 with ⟨hv,_⟩ | ⟨g,cap,cur,hv,_,hg,_⟩
 ·cases hv
 simp only [Nm.val,Value.slice.injEq,Option.some.injEq,Addr.mk.injEq,and_true] at hv
 obtain ⟨rfl,_,_⟩:=hv
 exact ⟨_,_,hg⟩
theorem BlkR.lowR {nm:Nm} (h:BlkR ρ w B nm (.row true e z n cs)) (hnm:nm = .at b c m):B<=b:=by
 obtain ⟨xs,⟨_,h5⟩,_,_⟩:=h
 subst hnm
 rcases h5 with ⟨hv,_⟩ | ⟨g,cap,cur,hv,hB,_⟩
 ·cases hv
 simp only [Nm.val,Value.slice.injEq,Option.some.injEq,Addr.mk.injEq,and_true] at hv
 obtain ⟨rfl,_,_⟩:=hv
 exact hB
section
variable {P:Program} {o:Oper}
variable {u:AV}
theorem ZF {args:List (Operand × AV)} {rd:List (Nat × ABlk)} (H:∀ (ρ:Names) (B:Nat) (a:Act) (w:World),WF ρ B w->(∀ p∈args,Rel ρ B w p.2 (a.eval p.1))->(∀ p∈rd,∃ nm,ρ p.1=some nm/\BlkR ρ w B nm p.2) ->
 ∃ v,(execOp a.eval o).run P w = .ok (.value v) w/\Rel ρ B w u v):ASpec P J o args rd u .no:=by
 intro ρ B a w K Q hwf hB _ ha hr _ hk
 obtain ⟨v,h1,h2⟩:=H ρ B a w hwf ha hr
 unfold Oper.wp
 rw [h1]
 exact hk ρ w v ⟨rfl,rfl,rfl,rfl,Nat.le_refl _,λ_ _ _=>rfl,λ_ _ _=>rfl,(λ_ _ h=>by cases h),(λ_ _ h=>by cases h),h2,λ_ _ h=>nomatch h⟩
theorem Z7 {s:Sem Value} (h:s.run P w = .ok v w'):(do pure (Next.value (<- s)):Sem Next).run P w = .ok (.value v) w':=by
 rw [Sem.run_bind,h];simp
theorem sp_move (x:Operand) (X:AV) (ho:o.op = .move x):ASpec P J o [(x,X)] [] X .no :=
 ZF fun ρ B a w _ ha _=>⟨a.eval x,by simp [execOp,ho],ha (x,X) (by simp)⟩
theorem sp_assign (x:Operand) (X:AV) (ho:o.op = .assign x):ASpec P J o [(x,X)] [] X .no :=
 ZF fun ρ B a w _ ha _=>⟨a.eval x,by simp [execOp,ho],ha (x,X) (by simp)⟩
theorem sp_pick (c x y:Operand) (b:Bool) (X Y:AV) (ho:o.op = .pick c x y):ASpec P J o [(c,.v (.bool b)),(x,X),(y,Y)] [] (if b then X else Y) .no :=
 ZF fun ρ B a w _ ha _=>by
  have h1:=(ha (c,.v (.bool b)) (by simp)).v_inv
  refine ⟨if b then a.eval x else a.eval y,by simp [execOp,ho,h1,asBool],?_⟩
  cases b
  ·exact ha (y,Y) (by simp)
  exact ha (x,X) (by simp)
variable {S:TypeId}{f:Nat}
theorem Zd2 {fs:Array Field} {fl:Field} (hu:P.underlying S=some (.struct fs)) (hf:fs[f]? = some fl) (hz:(P.info? fl.type).map (·.size)=some z) (h0:0<z) (b off:Nat) (w:World) :
 (Instr.fieldAt S (.pointer (some ⟨b,off,none⟩)) f).run P w = .ok (.pointer (some ⟨b,off+fl.offset,none⟩)) w:=by
 obtain ⟨i,hi,hiz⟩:=Option.map_eq_some_iff.1 hz
 have:¬ i.size=0:=by omega
 simp [Instr.fieldAt,run_underlying hu,hf,Instr.sureAddr,fieldPlace,sizeOf,typeInfo,hi,this,Addr.add_mid]
variable {off off':Nat}
theorem Ze2 {fs:Array Field} {fl:Field} (x:Operand) (ho:o.op = .fieldAddr S x f) (hu:P.underlying S=some (.struct fs)) (hf:fs[f]? = some fl) (hz:(P.info? fl.type).map (·.size)=some z) (h0:0<z) (e:off+fl.offset=off') :
 ASpec P J o [(x,.box k off)] [] (.box k off') .no :=
 ZF fun ρ B a w _ ha _=>by
  obtain ⟨b,c,n,h1,h2⟩:=(ha (x,.box k off) (by simp)).box_inv
  refine ⟨_,?_,.box (o:=off') h1⟩
  simp only [execOp,ho,h2]
  exact Z7 (by rw [Zd2 hu hf hz h0,e])
theorem sp_fieldEl {fs:Array Field} {fl:Field} (x:Operand) (ho:o.op = .fieldAddr S x f) (hu:P.underlying S=some (.struct fs)) (hf:fs[f]? = some fl) (hz:(P.info? fl.type).map (·.size)=some z) (h0:0<z) (e:off+fl.offset=off') :
 ASpec P J o [(x,.el cs off)] [] (.el cs off') .no :=
 ZF fun ρ B a w _ ha _=>by
  have h:=(ha (x,.el cs off) (by simp)).el_inv
  generalize hx:a.eval x=v at h
  cases h with
  | el hb hw hfc hr =>
    rename_i b o1 fc
    refine ⟨_,?_,.pu (.el (o:=off') hb hw hfc hr)⟩
    simp only [execOp,ho,hx]
    exact Z7 (by rw [Zd2 hu hf hz h0,Nat.add_assoc,e])
theorem ZbK {t e:TypeId} (hu:P.underlying t=some (.slice e)) (hz:(P.info? e).map (·.size)=some z) (b off n c:Nat) (ik:IntKind) (i:Int) (h0:0<=i) (h1:i<n) (w:World) :
 (Instr.indexAt t (.slice (some ⟨b,off,none⟩) n c) (.int ik i)).run P w = .ok (.pointer (some ⟨b,off+i.toNat*z,none⟩)) w:=by
 obtain ⟨j,hj,hjz⟩:=Option.map_eq_some_iff.1 hz
 simp [Instr.indexAt,asIntOf,run_underlying hu,h0,h1,sizeOf,typeInfo,hj,hjz,Addr.add_mid]
variable {i:Int}
theorem ZZ {t e:TypeId} {ik:IntKind} (x y:Operand) (ho:o.op = .indexAddr t x y) (hu:P.underlying t=some (.slice e)) (hz:(P.info? e).map (·.size)=some z) (h0:0<=i) (h1:i<n) (he:i.toNat*z=off) :
 ASpec P J o [(x,.sl z n cs),(y,.v (.int ik i))] [] (.el cs off) .no :=
 ZF fun ρ B a w _ ha _=>by
  have h:=(ha (x,.sl z n cs) (by simp)).sl_inv
  have hy:=(ha (y,.v (.int ik i)) (by simp)).v_inv
  generalize hx:a.eval x=v at h
  cases h with
  | sl0 h2 hz=>omega
  | sl hc h1' h2 hb hw hfc hr =>
    refine ⟨_,?_,.pu (.el (o:=off) hb hw hfc hr)⟩
    simp only [execOp,ho,hx,hy]
    exact Z7 (by rw [ZbK hu hz _ _ _ _ _ _ h0 h1,he])
theorem BlkR.row_at {nm:Nm} (h:BlkR ρ w B nm (.row fr e z n cs)):(nm = .nil/\n=0/\cs=[])\/∃ b c,nm = .at b c n:=by
 obtain ⟨xs,⟨h4,h5⟩,h2,h3⟩:=h
 cases nm with
 | nil =>
   left
   rcases h5 with ⟨_,h0⟩ | ⟨g,cap,cur,hv,_⟩
   ·subst h0;rw [Nat.zero_mul] at h4;exact ⟨rfl,rfl,List.eq_nil_of_length_eq_zero (by omega)⟩
   cases hv
 | «at» b c m =>
   right
   rcases h5 with ⟨hv,h0⟩ | ⟨g,cap,cur,hv,_⟩
   ·cases hv
   simp only [Nm.val,Value.slice.injEq] at hv
   exact ⟨b,c,by rw [hv.2.1]⟩
theorem ZP {t e e':TypeId} {ik:IntKind} (x y:Operand) (ho:o.op = .indexAddr t x y) (hu:P.underlying t=some (.slice e)) (hz:(P.info? e).map (·.size)=some z) (h0:0<=i) (h1:i<n) (he:i.toNat*z=off) :
 ASpec P J o [(x,.own k),(y,.v (.int ik i))] [(k,.row fr e' z n cs)] (.box k off) .no :=
 ZF fun ρ B a w _ ha hr=>by
  obtain ⟨nm,h2,h3⟩:=(ha (x,.own k) (by simp)).own_inv
  have hy:=(ha (y,.v (.int ik i)) (by simp)).v_inv
  obtain ⟨nm',h2',hb⟩:=hr (k,.row fr e' z n cs) (by simp)
  rw [h2] at h2'
  cases h2'
  rcases hb.row_at with ⟨_,h0',_⟩ | ⟨b,c,rfl⟩
  ·omega
  refine ⟨_,?_,.box (o:=off) h2⟩
  simp only [execOp,ho,h3,hy,Nm.val]
  exact Z7 (by rw [ZbK hu hz _ _ _ _ _ _ h0 h1,he,Nat.zero_add])
theorem Zbo {t e ty:TypeId} (hu:P.underlying t=some (.slice e)) (ad:Option Addr) (n c:Nat) (w:World):(Builtin.len_ #[t] ty #[.slice ad n c]).run P w = .ok (.int .i64 n) w:=by
 simp [Builtin.len_,run_underlying hu,goInt]
theorem sp_lenSl {t e:TypeId} (x:Operand) (ho:o.op = .call { callee := .builtin .len,args := #[x],argTypes := #[t] }) (hu:P.underlying t=some (.slice e)):ASpec P J o [(x,.sl z n cs)] [] (.v (.int .i64 n)) .no :=
 ZF fun ρ B a w _ ha _=>by
  have h:=(ha (x,.sl z n cs) (by simp)).sl_inv
  generalize hx:a.eval x=v at h
  refine ⟨.int .i64 n,?_,.pu (.v _)⟩
  cases h with
  | sl0 h2 hz=>simp [execOp,ho,resolve,invoke,builtin,hx,Zbo hu]
  | sl hc h1' h2 hb hw hfc hr=>simp [execOp,ho,resolve,invoke,builtin,hx,Zbo hu]
theorem Kc {t e e':TypeId} (x:Operand) (ho:o.op = .call { callee := .builtin .len,args := #[x],argTypes := #[t] }) (hu:P.underlying t=some (.slice e)):ASpec P J o [(x,.own k)] [(k,.row fr e' z n cs)] (.v (.int .i64 n)) .no :=
 ZF fun ρ B a w _ ha hr=>by
  obtain ⟨nm,h2,h3⟩:=(ha (x,.own k) (by simp)).own_inv
  obtain ⟨nm',h2',hb⟩:=hr (k,.row fr e' z n cs) (by simp)
  rw [h2] at h2'
  cases h2'
  refine ⟨.int .i64 n,?_,.pu (.v _)⟩
  rcases hb.row_at with ⟨rfl,rfl,_⟩ | ⟨b,c,rfl⟩<;>simp [execOp,ho,resolve,invoke,builtin,h3,Nm.val,Zbo hu]
theorem Yb {s:ByteArray} (x:Operand) (ho:o.op = .call { callee := .builtin .len,args := #[x],argTypes := #[t] }) (hu:P.underlying t=some .string):ASpec P J o [(x,.v (.string s))] [] (.v (.int .i64 s.size)) .no :=
 ZF fun ρ B a w _ ha _=>by
  have h:=(ha (x,.v (.string s)) (by simp)).v_inv
  refine ⟨_,?_,.pu (.v _)⟩
  simp [execOp,ho,resolve,invoke,builtin,h,Builtin.len_,run_underlying hu,goInt]
end
section
variable {P:Program} {o:Oper}
variable {T:TypeId}{off:Nat}
theorem ZbJ {d:TypeDesc} (hu:P.underlying T=some d) (hd:d.isRow=false) (hc:w.cell? ⟨b,off,none⟩=some v):(Instr.loadAt T (.pointer (some ⟨b,off,none⟩))).run P w = .ok v w:=by
 have h1:(isAgg T).run P w = .ok false w:=by
  unfold isAgg
  rw [Sem.run_bind,run_underlying hu w]
  cases d<;>simp_all
 simp [Instr.loadAt,Instr.sureAddr,loadVar,Sem.run_bind,h1,load,Sem.run,hc]
theorem Kl {d:TypeDesc} {Y:ABlk} (x:Operand) (ho:o.op = .load T x) (hu:P.underlying T=some d) (hd:d.isRow=false) (hX:Y.cells[off]? = some X):ASpec P J o [(x,.box k off)] [(k,Y)] X .no :=
 ZF fun ρ B a w _ ha hr=>by
  obtain ⟨b,c,n,h1,h2⟩:=(ha (x,.box k off) (by simp)).box_inv
  obtain ⟨nm,h1',hb⟩:=hr (k,Y) (by simp)
  rw [h1] at h1';cases h1'
  obtain ⟨hj,hX⟩:=List.getElem?_eq_some_iff.1 hX
  obtain ⟨b',c',n',v,e,h3,_,h4⟩:=hb.cell hj
  cases e
  refine ⟨v,?_,by rw [<- hX];exact h4⟩
  simp only [execOp,ho,h2]
  exact Z7 (ZbJ hu hd h3)
theorem WR {d:TypeDesc} (x:Operand) (ho:o.op = .load T x) (hu:P.underlying T=some d) (hd:d.isRow=false) (hX:cs[off]? = some X):ASpec P J o [(x,.el cs off)] [] X .no :=
 ZF fun ρ B a w _ ha _=>by
  have h:=(ha (x,.el cs off) (by simp)).el_inv
  generalize hx:a.eval x=v at h
  obtain ⟨hj,hX⟩:=List.getElem?_eq_some_iff.1 hX
  cases h with
  | el hb hw hfc hr =>
    rename_i b o1 fc
    refine ⟨fc off,?_,.pu (by rw [<- hX];exact hr off hj)⟩
    simp only [execOp,ho,hx]
    exact Z7 (ZbJ hu hd (hfc off hj))
theorem Zd1 {d:TypeDesc} (hu:P.underlying T=some d) (hd:d.isRow=true) (hz:(P.info? T).map (·.size)=some z) (vs:List Value) (hl:vs.length=z) (hc:∀ j,j<z->w.cell? ⟨b,off+j,none⟩=some (vs.getD j undef)) :
 (Instr.loadAt T (.pointer (some ⟨b,off,none⟩))).run P w = .ok (.agg vs.toArray) w :=
 run_loadAt_mid w b off T vs d (λj v hj=>by
  obtain ⟨h1,h2⟩:=List.getElem?_eq_some_iff.1 hj
  rw [hc j (by omega),List.getD_eq_getElem?_getD,hj];rfl) hu hd (by rw [hl];exact hz)
variable {ds:List AV}
theorem Wj (hX:(cs.drop off).take z=ds) (hl:ds.length=z) (j:Nat) (hj:j<ds.length):∃ h:off+j<cs.length,cs[off+j]=ds[j]:=by
 subst hX
 have h1:off+j<cs.length:=by simp at hl hj;omega
 exact ⟨h1,by simp⟩
theorem Wm {d:TypeDesc} {Y:ABlk} (x:Operand) (ho:o.op = .load T x) (hu:P.underlying T=some d) (hd:d.isRow=true) (hz:(P.info? T).map (·.size)=some z) (h0:0<z) (hX:(Y.cells.drop off).take z=ds) (hl:ds.length=z):ASpec P J o [(x,.box k off)] [(k,Y)] (.agg ds) .no :=
 ZF fun ρ B a w _ ha hr=>by
  obtain ⟨b,c,n,h1,h2⟩:=(ha (x,.box k off) (by simp)).box_inv
  obtain ⟨nm,h1',hb⟩:=hr (k,Y) (by simp)
  rw [h1] at h1';cases h1'
  have H:∀ j,j<z->∃ v,w.cell? ⟨b,off+j,none⟩=some v/\∃ hj:j<ds.length,Rel ρ B w ds[j] v:=λj hj=>by
   obtain ⟨h3,h4⟩:=Wj hX hl j (by omega)
   obtain ⟨b',c',n',v,e,h5,_,h6⟩:=hb.cell h3
   cases e
   exact ⟨v,h5,by omega,by rw [<- h4];exact h6⟩
  obtain ⟨f,hf⟩:=choose_lt H
  refine ⟨.agg ((List.range z).map f).toArray,?_,.agg (by simp [hl]) λj hj => ?_⟩
  ·simp only [execOp,ho,h2]
   exact Z7 (Zd1 hu hd hz _ (by simp) λj hj=>by rw [(hf j hj).1];simp [hj])
  obtain ⟨_,h⟩:=(hf j (by omega)).2
  have:j<z:=by omega
  simpa [Array.getD,this] using h
theorem Zl {d:TypeDesc} (x:Operand) (ho:o.op = .load T x) (hu:P.underlying T=some d) (hd:d.isRow=true) (hz:(P.info? T).map (·.size)=some z) (hX:(cs.drop off).take z=ds) (hl:ds.length=z):ASpec P J o [(x,.el cs off)] [] (.agg ds) .no :=
 ZF fun ρ B a w _ ha _=>by
  have h:=(ha (x,.el cs off) (by simp)).el_inv
  generalize hx:a.eval x=v at h
  cases h with
  | el hb hw hfc hr =>
    rename_i b o1 fc
    refine ⟨.agg ((List.range z).map λj=>fc (off+j)).toArray,?_,.pu (.agg (by simp [hl]) λj hj => ?_)⟩
    ·simp only [execOp,ho,hx]
     exact Z7 (Zd1 hu hd hz _ (by simp) λj hj=>by
      obtain ⟨h3,h4⟩:=Wj hX hl j (by omega)
      rw [Nat.add_assoc,hfc _ h3];simp [hj])
    obtain ⟨h3,h4⟩:=Wj hX hl j hj
    have h5:=hr _ h3
    rw [h4] at h5
    have:j<z:=by omega
    simpa [Array.getD,this] using h5
def AV.cell:AV->Bool
 | .agg _=>false
 | .tup _=>false
 | .any=>false
 | .v x=>x.oneCell'
 | .fr X=>X.cell
 | .old _ X=>X.cell
 | _=>true
theorem Pu.one {F ok:Nat->Prop} {w:World} {X:AV} {x:Value} (h:Pu F w ok X x) (hc:X.cell=true):x.oneCell'=true:=by
 cases h with
 | any _=>cases hc
 | v x=>exact hc
 | agg hl h=>cases hc
 | tup hl h=>cases hc
 | fr h=>exact h.one hc
 | sl0 h2 hz=>rfl
 | sl hc h1 h2 hb hw hfc hr=>rfl
 | el hb hw hfc hr=>rfl
 | clo hl h=>rfl
 | old h=>exact h.one hc
theorem Nm.one (nm:Nm):nm.val.oneCell'=true:=by cases nm<;>rfl
theorem Rel.one {ρ:Names} {B:Nat} {w:World} {X:AV} {x:Value} (h:Rel ρ B w X x) (hc:X.cell=true):x.oneCell'=true:=by
 cases h with
 | pu h=>exact h.one hc
 | box h=>rfl
 | own h=>exact Nm.one _
 | bsl h hx=>rcases hx with ⟨_,_,_,_,_,_,rfl,_⟩ | ⟨_,rfl⟩<;>rfl
 | agg hl h=>cases hc
 | tup hl h=>cases hc
 | clo hl h=>rfl
theorem cells_one (h:x.oneCell'=true):x.cells = #[x]:=by cases x<;>first | rfl | cases h
def AV.cellsOf:AV->List AV
 | .agg cs=>cs
 | X=>[X]
theorem Rel.cells {ρ:Names} {B:Nat} {w:World} {X:AV} {x:Value} (h:Rel ρ B w X x) (hc:X.cellsOf.all AV.cell=true):x.cells.size=X.cellsOf.length/\(∀ v∈x.cells,v.oneCell'=true)/\∀ j (hj:j<X.cellsOf.length),Rel ρ B w X.cellsOf[j] (x.cells.getD j undef):=by
 have one:X.cell=true->X.cellsOf=[X]->x.cells.size=X.cellsOf.length/\(∀ v∈x.cells,v.oneCell'=true)/\∀ j (hj:j<X.cellsOf.length),Rel ρ B w X.cellsOf[j] (x.cells.getD j undef):=λh1 h2=>by
  have h3:=cells_one (h.one h1)
  refine ⟨by rw [h2,h3];rfl,λv hv=>by rw [h3] at hv;simp at hv;rw [hv];exact h.one h1,λj hj => ?_⟩
  have:j=0:=by rw [h2] at hj;simp at hj;exact hj
  subst this
  simp only [h2,h3]
  exact h
 cases X with
 | agg cs =>
   obtain ⟨vs,rfl,hl,hr⟩:=h.agg_inv
   simp only [AV.cellsOf] at hc ⊢
   refine ⟨hl,λv hv => ?_,hr⟩
   obtain ⟨j,hj,rfl⟩:=Array.getElem_of_mem (show v∈vs from hv)
   have:=(hr j (by omega)).one (List.all_eq_true.1 hc _ (List.getElem_mem _))
   simpa [Array.getD,hj] using this
 | tup cs=>simp [AV.cellsOf,AV.cell] at hc
 | any=>simp [AV.cellsOf,AV.cell] at hc
 | v y=>exact one (by simpa [AV.cellsOf] using hc) rfl
 | box k o=>exact one rfl rfl
 | own k=>exact one rfl rfl
 | fr X=>exact one (by simpa [AV.cellsOf] using hc) rfl
 | sl z n cs=>exact one rfl rfl
 | el cs o=>exact one rfl rfl
 | clo f cs=>exact one rfl rfl
 | old n X=>exact one (by simpa [AV.cellsOf] using hc) rfl
 | bsl k o m=>exact one rfl rfl
def upd (ρ:Names) (k:Nat) (nm:Nm):Names:=⟨λj=>if j=k then some nm else ρ j,ρ.H⟩
theorem Yc (ρ:Names) (k:Nat) (nm:Nm):upd ρ k nm k=some nm:=if_pos rfl
variable {j:Nat}
theorem Ya {nm:Nm} (h:j≠k):upd ρ k nm j=ρ j:=if_neg h
theorem ok_new {ob:Obj} (hb:okOf ρ b) (hw:b<w.heap.size):okOf (upd ρ k (.at w.heap.size c n)) b/\b<(w.alloc ob).heap.size/\(w.alloc ob).heap[b]? = w.heap[b]? :=
 ⟨λj c' n' hj=>by
  by_cases e:j=k
  ·subst e;rw [Yc] at hj;cases hj;omega
  rw [Ya e] at hj;exact hb _ _ _ hj,by simp;omega,heap_alloc_old w _ hw⟩
theorem rel_new {ob:Obj} (hk:ρ k=none) (h:Rel ρ B w X x):Rel (upd ρ k (.at w.heap.size c n)) B (w.alloc ob) X x :=
 h.keep (λ_ _ h=>h.mono (λ_ hb hw=>ok_new hb hw) λ_ _ h=>h) λj nm hj=>by rw [Ya (by rintro rfl;rw [hk] at hj;cases hj)];exact hj
variable {u:AV}
theorem We {args:List (Operand × AV)} {rd:List (Nat × ABlk)} {X:ABlk}
 (H:∀ (ρ:Names) (B:Nat) (a:Act) (w:World),WF ρ B w->B<=w.heap.size->(∀ p∈args,Rel ρ B w p.2 (a.eval p.1))->(∀ p∈rd,∃ nm,ρ p.1=some nm/\BlkR ρ w B nm p.2)->ρ k=none ->
  ∃ v c n cs T,(execOp a.eval o).run P w = .ok (.value v) (w.alloc (.cells cs T))/\Rel (upd ρ k (.at w.heap.size c n)) B (w.alloc (.cells cs T)) u v/\BlkR (upd ρ k (.at w.heap.size c n)) (w.alloc (.cells cs T)) B (.at w.heap.size c n) X):ASpec P J o args rd u (.new k X):=by
 intro ρ B a w K Q hwf hB _ ha hr hn hk
 obtain ⟨v,c,n,cs,T,h1,h2,h3⟩:=H ρ B a w hwf hB ha hr (hn _ _ (.inl rfl))
 unfold Oper.wp
 rw [h1]
 refine hk (upd ρ k (.at w.heap.size c n)) _ v ⟨rfl,rfl,rfl,rfl,by simp,λb hb _=>heap_alloc_old w _ hb,λj hj _=>Ya (by rintro rfl;exact hj rfl),(λ_ _ h=>by cases h),λk' X' he => ?_,h2,λ_ _ h=>nomatch h⟩
 cases he
 exact ⟨_,Yc _ _ _,λb c' n' e=>by cases e;exact ⟨by simp,.inl hB,.inl (Nat.le_refl _)⟩,h3⟩
theorem sp_alloc {z:Value} (ho:o.op = .alloc T) (hz:(P.info? T).bind (·.zero)=some z):ASpec P J o [] [] (.box k 0) (.new k (.box T (z.cells.toList.map AV.v))) :=
 We fun ρ B a w _ _ _ _ hk=>by
  obtain ⟨i,hi,hiz⟩:=Option.bind_eq_some_iff.1 hz
  refine ⟨.pointer (some ⟨w.heap.size,0,none⟩),0,0,z.cells,T,?_,.box (Yc _ _ _),⟨_,0,0,z.cells,rfl,heap_alloc_new w _,by simp,λj hj => ?_⟩⟩
  ·simp only [execOp,ho]
   exact Z7 (by simp [Instr.alloc,zeroValue,typeInfo,hi,hiz,newVar,newRow])
  simp only [List.getElem_map,Array.getElem_toList]
  have:j<z.cells.size:=by simpa using hj
  simp only [Array.getD,this,dif_pos]
  exact .pu (.v _)
theorem sp_box (x:Operand) (ho:o.op = .box T x) (hc:X.cellsOf.all AV.cell=true):ASpec P J o [(x,X)] [] (.box k 0) (.new k (.box T X.cellsOf)) :=
 We fun ρ B a w _ _ ha _ hk=>by
  have h:=ha (x,X) (by simp)
  obtain ⟨h1,h2,h3⟩:=h.cells hc
  refine ⟨.pointer (some ⟨w.heap.size,0,none⟩),0,0,(a.eval x).cells,T,?_,.box (Yc _ _ _),⟨_,0,0,_,rfl,heap_alloc_new w _,h1,λj hj=>rel_new hk (h3 j hj)⟩⟩
  simp only [execOp,ho]
  exact Z7 (by simp [Instr.box,newVar,newRow])
end
def setAll:List AV->Nat->List AV->List AV
 | cs,_,[]=>cs
 | cs,off,d::ds=>setAll (cs.set off d) (off+1) ds
theorem KD (ds:List AV):∀ (cs:List AV) (off:Nat),(setAll cs off ds).length=cs.length:=by
 induction ds with
 | nil=>intro cs off;rfl
 | cons d ds ih=>intro cs off;rw [setAll,ih,List.length_set]
theorem Zcw (ds:List AV):∀ (cs:List AV) (off:Nat),off+ds.length<=cs.length->∀ j (hj:j<(setAll cs off ds).length),(off<=j/\∃ h:j-off<ds.length,(setAll cs off ds)[j]=ds[j-off])\/((j<off\/off+ds.length<=j)/\∃ h:j<cs.length,(setAll cs off ds)[j]=cs[j]):=by
 induction ds with
 | nil=>intro cs off _ j hj;exact .inr ⟨by simp;omega,hj,rfl⟩
 | cons d ds ih =>
   intro cs off hl j hj
   simp only [List.length_cons] at hl
   rcases ih (cs.set off d) (off+1) (by rw [List.length_set];omega) j hj with ⟨h1,h2,h3⟩ | ⟨h1,h2,h3⟩
   ·refine .inl ⟨by omega,by simp;omega,Eq.trans (show (setAll cs off (d::ds))[j]=_ from h3) ?_⟩
    simp only [show j-off=(j-(off+1))+1 by omega,List.getElem_cons_succ]
   by_cases e:off=j
   ·subst e
    refine .inl ⟨Nat.le_refl _,by simp,Eq.trans (show (setAll cs off (d::ds))[off]=_ from h3) ?_⟩
    simp
   refine .inr ⟨by simp;omega,by simpa using h2,Eq.trans (show (setAll cs off (d::ds))[j]=_ from h3) ?_⟩
   rw [List.getElem_set_ne e]
section
variable {P:Program} {o:Oper}
variable {T:TypeId}{off:Nat}
theorem Zcx (hz:(P.info? T).map (·.size)=some z) (x:Value) (hl:x.cells.size=z) (h1:∀ v∈x.cells,v.oneCell'=true) (ht:w.there b off z) :
 (Instr.storeAt T (.pointer (some ⟨b,off,none⟩)) x).run P w = .ok () (w.setCells b off x.cells.toList):=by
 have:=run_storeCells_cells (P:=P) b off x.cells.toList 0 w (λj hj=>by simpa using (ht j (by rw [<- hl];simpa using hj)).1) (λj hj=>by simpa using (ht j (by rw [<- hl];simpa using hj)).2)
  (λv hv=>h1 v (by simpa using hv))
 cases hq:P.info? T with
 | none=>simp [hq] at hz
 | some i =>
   have hs:x.cells.size=i.size:=by simp [hq] at hz;omega
   simp only [Nat.add_zero] at this
   simp [Instr.storeAt,Instr.sureAddr,storeVar,sizeOf,typeInfo,hq,hs,this]
theorem Ws {vs:List Value} (hk:ρ k=some (.at b c n)) {b':Nat} (hb:okOf ρ b') (hw:b'<w.heap.size):okOf ρ b'/\b'<(w.setCells b off vs).heap.size/\(w.setCells b off vs).heap[b']? = w.heap[b']? :=
 ⟨hb,by rw [Yi];exact hw,YL (λe=>by subst e;exact hb _ _ _ hk) _ _ _⟩
theorem Wp (b:Nat):∀ (vs:List Value) (off:Nat) (w:World),(w.setCells b off vs).os=w.os/\(w.setCells b off vs).tape=w.tape/\(w.setCells b off vs).output=w.output
 | [],_,_=>⟨rfl,rfl,rfl⟩
 | _::r,off,_=>Wp b r (off+1) _
variable {ds:List AV}
theorem Yo {T T0:TypeId} (x y:Operand) (ho:o.op = .store T x y) (hz:(P.info? T).map (·.size)=some z) (hX:X.cellsOf.all AV.cell=true) (hl:X.cellsOf.length=z) (hr:off+z<=cs.length) (hd:setAll cs off X.cellsOf=ds) :
 ASpec P J o [(x,.box k off),(y,X)] [(k,.box T0 cs)] (.v undef) (.st k (.box T0 ds)):=by
 intro ρ B a w K Q hwf hB _ ha hr' _ hk
 obtain ⟨b,c,n,h1,h2⟩:=(ha (x,.box k off) (by simp)).box_inv
 have hy:=ha (y,X) (by simp)
 obtain ⟨h3,h4,h5⟩:=hy.cells hX
 obtain ⟨nm,h1',b',c',n',vs,e,hg,hvs,hrel⟩:=hr' (k,.box T0 cs) (by simp)
 rw [h1] at h1';cases h1';cases e
 have hsz:(a.eval y).cells.size=z:=h3.trans hl
 have hth:w.there b off z:=λj hj=>⟨by simp only [World.cell?,hg];simp;omega,frozenB hg _⟩
 obtain ⟨cur',hg',hs',hget⟩:=Y1 (a.eval y).cells.toList off w vs hg (by simp;omega)
 have hrun:=Zcx (P:=P) hz (a.eval y) hsz h4 hth
 unfold Oper.wp
 simp only [execOp,ho,h2,Sem.run_bind,hrun,Result.andThen_ok,Sem.run_pure]
 obtain ⟨q1,q2,q3⟩:=Wp b (a.eval y).cells.toList off w
 have hlo:=hwf.lo _ _ _ _ h1
 have hkeep:∀ {X:AV} {x:Value},Rel ρ B w X x->Rel ρ B (w.setCells b off (a.eval y).cells.toList) X x:=λh=>h.keep (λ_ _ h=>h.mono (λ_ hb hw=>Ws h1 hb hw) λ_ _ h=>h) λ_ _ h=>h
 refine hk ρ _ undef ⟨rfl,q1,q2,q3,by rw [Yi];exact Nat.le_refl _,λb' _ hne=>YL (λe=>by subst e;exact hne k c n rfl h1) _ _ _,λ_ _ _=>rfl,λ_ _ _=>rfl,λk' X' he => ?_,.pu (.v _),λ_ _ h=>nomatch h⟩
 cases he
 refine ⟨_,h1,λb' c' n' e=>by cases e;exact ⟨by rw [Yi];exact hlo.2,hlo.1,.inr ⟨_,_,h1⟩⟩,b,c,n,cur',rfl,hg',by rw [hs',hvs,<- hd,KD],λj hj => ?_⟩
 subst hd
 have hcur:=hget j
 have hjc:j<cs.length:=by rw [KD] at hj;exact hj
 have hjs:j<cur'.size:=by omega
 rw [Array.getD_eq_getD_getElem?]
 rcases Zcw X.cellsOf cs off (by omega) j hj with ⟨e1,e2,e3⟩ | ⟨e1,e2,e3⟩
 ·rw [e3,hcur,if_pos ⟨e1,by simp;omega⟩]
  have:=hkeep (h5 (j-off) e2)
  rw [Array.getD_eq_getD_getElem?] at this
  simpa using this
 rw [e3,hcur,if_neg (by simp;omega)]
 have:=hkeep (hrel j e2)
 rw [Array.getD_eq_getD_getElem?] at this
 exact this
theorem sp_extract {i:Nat} (x:Operand) (ho:o.op = .extract x i) (hX:cs[i]? = some X):ASpec P J o [(x,.tup cs)] [] X .no :=
 ZF fun ρ B a w _ ha _=>by
  obtain ⟨vs,h1,h2,h3⟩:=(ha (x,.tup cs) (by simp)).tup_inv
  obtain ⟨hj,hX⟩:=List.getElem?_eq_some_iff.1 hX
  have hi:i<vs.size:=by omega
  refine ⟨vs.getD i undef,?_,by rw [<- hX];exact h3 i hj⟩
  simp only [execOp,ho,h1]
  exact Z7 (by simp [Instr.extract,Array.getD,hi])
theorem Y5 (cs:List AV) (l m j:Nat) (hj:j<((cs.drop l).take m).length):∃ h:l+j<cs.length,((cs.drop l).take m)[j]=cs[l+j]:=by
 have h1:l+j<cs.length:=by simp at hj;omega
 exact ⟨h1,by simp⟩
theorem WQ {t e:TypeId} {z n l h:Nat} (x:Operand) (lo hi:Option Operand) (ho:o.op = .slice t x lo hi none) (hu:P.underlying t=some (.slice e)) (hz:(P.info? e).map (·.size)=some z)
 (Lo Hi:List (Operand × AV)) (hlo:(lo=none/\l=0/\Lo=[])\/∃ y ik,lo=some y/\Lo=[(y,.v (.int ik (l:Int)))]) (hhi:(hi=none/\h=n/\Hi=[])\/∃ y ik,hi=some y/\Hi=[(y,.v (.int ik (h:Int)))]) (h1:l<=h) (h2:h<=n) (hd:(cs.drop (l*z)).take ((h-l)*z)=ds) :
 ASpec P J o ((x,.sl z n cs)::(Lo++Hi)) [] (.sl z (h-l) ds) .no :=
 ZF fun ρ B a w _ ha _=>by
  have hx:=(ha (x,.sl z n cs) (by simp)).sl_inv
  have hbd:∀ (ad:Option Addr) (cap:Nat),n<=cap->a.eval x = .slice ad n cap->(execOp a.eval o).run P w = .ok (.value (.slice (if cap=l then ad else ad.map (·.add (l*z))) (h-l) (cap-l))) w:=λad cap hc e=>by
   obtain ⟨i,hi',hiz⟩:=Option.map_eq_some_iff.1 hz
   simp only [execOp,ho,e]
   refine Z7 ?_
   have r1:∀ (v:Value) (ik:IntKind) (m y:Nat) (code:BoundsCode),m<=y->v = .int ik (m:Int)->(Instr.sliceBound v y code).run P w = .ok m w:=λv ik m y code hm hv=>by
    subst hv
    simp [Instr.sliceBound,asIntOf,hm]
   have hb:(Instr.sliceBounds true n cap (lo.map a.eval) (hi.map a.eval) none).run P w = .ok (l,h,cap) w:=by
    rcases hhi with ⟨rfl,rfl,rfl⟩ | ⟨y,ik,rfl,rfl⟩
    ·rcases hlo with ⟨rfl,rfl,rfl⟩ | ⟨y',ik',rfl,rfl⟩
     ·simp [Instr.sliceBounds]
     have e2:=(ha (y',.v (.int ik' (l:Int))) (by simp)).v_inv
     simp [Instr.sliceBounds,r1 _ ik' l h .sliceB h1 e2]
    have e1:=(ha (y,.v (.int ik (h:Int))) (by simp)).v_inv
    rcases hlo with ⟨rfl,rfl,rfl⟩ | ⟨y',ik',rfl,rfl⟩
    ·simp [Instr.sliceBounds,r1 _ ik h cap .sliceAcap (by omega) e1]
    have e2:=(ha (y',.v (.int ik' (l:Int))) (by simp)).v_inv
    simp [Instr.sliceBounds,r1 _ ik h cap .sliceAcap (by omega) e1,r1 _ ik' l h .sliceB h1 e2]
   simp [Instr.sliceAt,Instr.slice,run_underlying hu,hb,sizeOf,typeInfo,hi',hiz]
  generalize hxe:a.eval x=v at hx hbd
  cases hx with
  | sl0 h3 h4 =>
    rename_i ad cap
    have:l=0:=by omega
    subst this
    have:h=0:=by omega
    subst this
    refine ⟨_,hbd ad cap (Nat.zero_le _) rfl,.pu ?_⟩
    have:ds=[]:=by subst hd;simp
    subst this
    refine .sl0 (by omega) λe => ?_
    split at e
    ·rename_i hc;rw [h4 e]
    cases ad with
    | none=>rw [h4 rfl]
    | some ad=>cases e
  | sl hc h3 h4 hb hw hfc hr =>
    rename_i b off cap f
    refine ⟨_,hbd _ cap h3 rfl,.pu ?_⟩
    have hlen:ds.length=(h-l)*z:=by
     subst hd
     rw [List.length_take,List.length_drop,hc,<- Nat.sub_mul]
     exact Nat.min_eq_left (Nat.mul_le_mul_right _ (by omega))
    by_cases hcl:cap=l
    ·have:h-l=0:=by omega
     rw [if_pos hcl,this]
     rw [this,Nat.zero_mul] at hlen
     have:=List.eq_nil_of_length_eq_zero hlen
     subst this
     exact .sl0 (by omega) λe=>by cases e
    rw [if_neg hcl]
    simp only [Option.map_some,Addr.add_mid]
    refine .sl (f:=λj=>f (l*z+j)) hlen (by omega) (by omega) hb hw (λj hj => ?_) λj hj => ?_
    ·subst hd
     obtain ⟨h5,_⟩:=Y5 cs (l*z) _ j hj
     rw [Nat.add_assoc];exact hfc _ h5
    subst hd
    obtain ⟨h5,h6⟩:=Y5 cs (l*z) _ j hj
    rw [h6];exact hr _ h5
end
def AV.unfr:AV->AV
 | .fr X=>X
 | X=>X
def AV.isNew:AV->Bool
 | .v _=>true
 | .fr _=>true
 | _=>false
def Z6 (fr:Bool) (ds:List AV):List AV:=if fr then ds.map AV.unfr else ds
theorem Yy (fr:Bool) (ds:List AV):(Z6 fr ds).length=ds.length:=by cases fr<;>simp [Z6]
variable {ds:List AV}{j:Nat}
theorem Pu.row (hn:fr=true->∀ d∈ds,d.isNew=true) (hj:j<(Z6 fr ds).length) (hj':j<ds.length) (h:Pu (B <= ·) w (okOf ρ) ds[j] x):Pu (B <= ·) w (okR ρ fr B w) (Z6 fr ds)[j] x:=by
 cases fr with
 | false=>exact h.weak λ_ h=>⟨h,by simp⟩
 | true =>
   have hd:=hn rfl _ (List.getElem_mem hj')
   simp only [Z6,if_true,List.getElem_map]
   generalize ds[j]=X at h hd
   cases h with
   | v x=>exact .v x
   | fr h=>exact h.weak λb h=>⟨h.1,λ_=>h.2⟩
   | any x=>cases hd
   | agg hl h=>cases hd
   | tup hl h=>cases hd
   | sl0 h2 hz=>cases hd
   | sl hc h1 h2 hb hw hf h=>cases hd
   | el hb hw hf h=>cases hd
   | clo hl h=>cases hd
   | old h=>cases hd
def Src (ρ:Names) (B:Nat) (w:World) (x:Value) (z m:Nat) (ds:List AV):Prop :=
 ∃ (ad:Option Addr) (c:Nat) (ys:List Value),x = .slice ad m c/\ys.length=m*z/\ys.length=ds.length/\((ad=none/\m=0/\c=0)\/∃ a,ad=some a/\∀ j u,ys[j]? = some u->w.cell? (a.add j)=some u)/\∀ j (hj:j<ds.length),Pu (B <= ·) w (okOf ρ) ds[j] (ys.getD j undef)
theorem src_sl (h:Rel ρ B w (.sl z m ds) x):Src ρ B w x z m ds:=by
 have hp:=h.sl_inv
 clear h
 cases hp with
 | sl0 h2 hz =>
   rename_i a cap
   refine ⟨a,cap,[],rfl,by simp,rfl,?_,by simp⟩
   cases a with
   | none=>exact .inl ⟨rfl,rfl,hz rfl⟩
   | some a=>exact .inr ⟨a,rfl,by simp⟩
 | sl hc h1 h2 hb hw hf h =>
   rename_i b off cap f
   refine ⟨_,cap,(List.range ds.length).map f,rfl,by simp [hc],by simp,.inr ⟨_,rfl,λj u hu => ?_⟩,λj hj=>by simpa [hj] using h j hj⟩
   have hj:j<ds.length:=by have:=(List.getElem?_eq_some_iff.1 hu).1;simpa using this
   rw [Addr.add_mid,hf j hj]
   simpa [hj] using hu
theorem src_own {nm:Nm} (h:BlkR ρ w B nm (.row fr e z m ds)):Src ρ B w nm.val z m ds:=by
 obtain ⟨xs,h1,h2,h3⟩:=h
 have h4:=h1
 obtain ⟨h5,h6⟩:=h4
 rcases h6 with ⟨e1,e2⟩ | ⟨g,cap,cur,hv,hr⟩
 ·subst e2
  exact ⟨none,0,xs,e1,h5,h2,.inl ⟨rfl,rfl,rfl⟩,λj hj=>(h3 j hj).weak λ_ h=>h.1⟩
 exact ⟨_,cap,xs,hv,h5,h2,.inr ⟨_,rfl,h1.cells (g:=g) (by rw [hv];rfl)⟩,λj hj=>(h3 j hj).weak λ_ h=>h.1⟩
theorem owns_nm {xs:List Value} (h:w.ownsRow B e z v n xs):∃ nm:Nm,v=nm.val/\∀ b c n',nm = .at b c n'->B<=b/\b<w.heap.size:=by
 rcases h.2 with ⟨rfl,_⟩ | ⟨g,cap,cur,rfl,h3,h4,_⟩
 ·exact ⟨.nil,rfl,by simp⟩
 exact ⟨.at g cap n,rfl,λb c n' e=>by cases e;exact ⟨h3,(Array.getElem?_eq_some_iff.1 h4).1⟩⟩
section
variable {P:Program} {o:Oper}
structure Elt (P:Program) (t e z bytes:Nat):Prop where
 hu:P.underlying t=some (.slice e)
 hi:(P.info? e).map (λi=>(i.size,i.bytes,i.zero.map (·.cells.size)))=some (z,bytes,some z)
 h0:0<z
variable {ty:TypeId}
theorem Zci {t e z bytes:Nat} (E:Elt P t e z bytes) {xs:List Value} (hown:w.ownsRow B e z v n xs) (hB:B<=w.heap.size) {B':Nat} (hx:Src ρ B' w x z m ds)
 (h63:n+m<=maxLen) (hby:(n+m)*bytes<=140737488355328) (hc:∀ d∈ds,d.cell=true) :
 ∃ v' w' ys,(Builtin.append_ #[t,t] ty #[v,x]).run P w = .ok v' w'/\w'.ownsRow B e z v' (n+m) (xs++ys)/\w.grownBy w' v.ownBlock/\(v'.ownBlock=v.ownBlock\/v'.ownBlock=some w.heap.size)/\ys.length=ds.length/\∀ j (hj:j<ds.length),Pu (B' <= ·) w (okOf ρ) ds[j] (ys.getD j undef):=by
 obtain ⟨ad,c,ys,rfl,h1,h2,h3,h4⟩:=hx
 obtain ⟨i,hi,hj⟩:=Option.map_eq_some_iff.1 E.hi
 simp only [Prod.mk.injEq] at hj
 obtain ⟨j1,j2,j3⟩:=hj
 obtain ⟨zv,hz1,hz2⟩:=Option.map_eq_some_iff.1 j3
 have hone:∀ u∈ys,u.oneCell'=true:=λu hu=>by
  obtain ⟨j,hj,rfl⟩:=List.getElem_of_mem hu
  have:=(h4 j (by omega)).one (hc _ (List.getElem_mem _))
  simpa [hj] using this
 rcases h3 with ⟨rfl,rfl,rfl⟩ | ⟨a,rfl,h3⟩
 ·have hy:ys=[]:=List.eq_nil_of_length_eq_zero (by simpa using h1)
  subst hy
  refine ⟨v,w,[],?_,by simpa using hown,⟨rfl,rfl,rfl,Nat.le_refl _,λ_ _ _=>rfl⟩,.inl rfl,h2,h4⟩
  rcases hown.2 with ⟨rfl,rfl⟩ | ⟨g,cap,cur,rfl,_,_,hn,_⟩
  ·simp [Builtin.append_,run_underlying E.hu,sizeOf,typeInfo,hi,Builtin.lenOf,Builtin.firstCells]
  have:n+0<=cap:=hn
  simp [Builtin.append_,run_underlying E.hu,sizeOf,typeInfo,hi,Builtin.lenOf,Builtin.firstCells,hn,Builtin,storeCells]
 obtain ⟨v',w',r1,r2,r3,_,r5⟩:=run_append_own_at (P:=P) w B t ty e i zv z bytes E.hu hi hz1 j1 j2 hz2 E.h0 v n xs hown a m c ys h1 h3 hone h63 hby hB
 exact ⟨v',w',ys,r1,r2,r3,r5,h2,h4⟩
theorem Zfp (xs ys:List Value) (j:Nat):(xs++ys).getD j undef=if j<xs.length then xs.getD j undef else ys.getD (j-xs.length) undef:=by
 simp only [List.getD_eq_getElem?_getD]
 split
 ·rw [List.getElem?_append_left (by assumption)]
 rw [List.getElem?_append_right (by omega)]
theorem Zb6 {t e z bytes:Nat} (E:Elt P t e z bytes) (hwf:WF ρ B w) (hB:B<=w.heap.size) {nm:Nm} (hv:v=nm.val) (hk:ρ k=some nm\/(ρ k=none/\nm = .nil)) (hb:BlkR ρ w B nm (.row fr e z n cs)) (hx:Src ρ B w x z m ds)
 (hn:fr=true->∀ d∈ds,d.isNew=true) (h63:n+m<=maxLen) (hby:(n+m)*bytes<=140737488355328) (hc:∀ d∈ds,d.cell=true) {ef:Ef} (hef:ef = .ap k (.row fr e z (n+m) (cs++Z6 fr ds))\/(ef = .new k (.row fr e z (n+m) (cs++Z6 fr ds))/\nm = .nil)) :
 ∃ v' w' ρ',(Builtin.append_ #[t,t] ty #[v,x]).run P w = .ok v' w'/\Post ρ B w (.own k) ef ρ' w' v':=by
 subst hv
 obtain ⟨xs,h1,h2,h3⟩:=hb
 obtain ⟨v',w',ys,r1,r2,r3,r4,r5,r6⟩:=Zci E (ty:=ty) h1 (show rowB fr B<=w.heap.size by unfold rowB;split<;>omega) hx h63 hby hc
 obtain ⟨nm',rfl,hnm⟩:=owns_nm r2
 refine ⟨_,w',upd ρ k nm',r1,?_⟩
 have hname:ef.name=some k:=by rcases hef with rfl | ⟨rfl,_⟩<;>rfl
 have hblk:ef.blk=some (k,.row fr e z (n+m) (cs++Z6 fr ds)):=by rcases hef with rfl | ⟨rfl,_⟩<;>rfl
 have hold:∀ b c n',nm' = .at b c n'->w.heap.size<=b\/∃ c' n',nm = .at b c' n':=λb c n' e=>by
  subst e
  rcases r4 with r4 | r4
  ·obtain ⟨c',n'',e⟩:=Nm.own_block (nm:=nm) (g:=b) (by rw [<- r4];rfl)
   exact .inr ⟨_,_,e⟩
  simp [Nm.val,Value.ownBlock] at r4
  left;omega
 have hold':∀ b c n',nm' = .at b c n'->w.heap.size<=b\/∃ c' n',ρ k=some (.at b c' n'):=λb c n' e=>by
  rcases hold b c n' e with h | ⟨c',n'',h⟩
  ·exact .inl h
  rcases hk with hk | ⟨_,rfl⟩
  ·exact .inr ⟨c',n'',by rw [hk,h]⟩
  cases h
 have hok:∀ b,okOf ρ b->b<w.heap.size->okOf (upd ρ k nm') b/\b<w'.heap.size/\w'.heap[b]? = w.heap[b]? := λb hb hw=>by
  refine ⟨λj c n' hj => ?_,Nat.lt_of_lt_of_le hw r3.size,r3.block b hw λe => ?_⟩
  ·by_cases e:j=k
   ·subst e
    rw [Yc] at hj
    rcases hold' _ _ _ (Option.some.inj hj) with h | ⟨_,_,h⟩
    ·omega
    exact hb _ _ _ h
   rw [Ya e] at hj;exact hb _ _ _ hj
  obtain ⟨c',n',e'⟩:=Nm.own_block e.symm
  rcases hk with hk | ⟨_,h⟩
  ·exact hb _ _ _ (hk.trans (by rw [e']))
  rw [h] at e';cases e'
 have hpr:∀ X y,Pu (B <= ·) w (okR ρ fr B w) X y->Pu (B <= ·) w' (okR (upd ρ k nm') fr B w') X y:=λX y h=>h.mono (λb hb hw=>⟨⟨(hok b hb.1 hw).1,λe=>⟨(hb.2 e).1,ZbE (hok b hb.1 hw).2.2 (hb.2 e).2⟩⟩,(hok b hb.1 hw).2⟩) λ_ _ h=>h
 refine ⟨rfl,r3.os,r3.tape,r3.output,r3.size,λb hb hne=>r3.block b hb λe' => ?_,λj hj _=>Ya λe=>hj (by rw [hname,e]),(λk' X he=>by rcases hef with rfl | ⟨rfl,_⟩<;>cases he),λk' X he => ?_,.own (Yc _ _ _),λk' X he=>by rcases hef with rfl | ⟨rfl,_⟩<;>cases he⟩
 ·obtain ⟨c',n',e''⟩:=Nm.own_block e'.symm
  rcases hef with rfl | ⟨rfl,h⟩
  ·rcases hk with hk | ⟨_,h⟩
   ·exact hne k c' n' rfl (hk.trans (by rw [e'']))
   rw [h] at e'';cases e''
  rw [h] at e'';cases e''
 rw [hblk] at he
 cases he
 refine ⟨nm',Yc _ _ _,λb c n' e=>⟨(hnm b c n' e).2,(hold' b c n' e).elim (λh => .inl (Nat.le_trans hB h)) (λ⟨_,_,h⟩=>(hwf.lo _ _ _ _ h).1),hold' b c n' e⟩,xs++ys,r2,by simp [Yy,h2,r5],λj hj => ?_⟩
 rw [Zfp]
 by_cases hjc:j<cs.length
 ·rw [if_pos (by omega),List.getElem_append_left hjc]
  exact hpr _ _ (h3 j hjc)
 have hj2:j-cs.length<ds.length:=by simp [Yy] at hj;omega
 rw [if_neg (by omega),List.getElem_append_right (by omega),h2]
 exact hpr _ _ (Pu.row hn (by rw [Yy];exact hj2) hj2 (r6 _ hj2))
theorem Zbv {K:Act->World->Prop} {Q:Exit->Act->World->Prop} {s x:Operand} (ho:o.op = .call { callee := .builtin .append,args := #[s,x],argTypes := #[t,t] }) 
 (hr:(Builtin.append_ #[t,t] o.type #[a.eval s,a.eval x]).run P w = .ok v w') (h:K (a.put o.dst v) w'):o.wp P a w K Q:=by
 unfold Oper.wp execOp
 simp only [ho,resolve,invoke,builtin,Sem.run_bind,Sem.run_pure,Result.andThen_ok,List.map_toArray,List.map_cons,List.map_nil,hr]
 exact h
theorem K1 {t e z bytes:Nat} (E:Elt P t e z bytes) (s x:Operand) (ho:o.op = .call { callee := .builtin .append,args := #[s,x],argTypes := #[t,t] })
 (hn:fr=true->∀ d∈ds,d.isNew=true) (h63:n+m<=maxLen) (hby:(n+m)*bytes<=140737488355328) (hc:∀ d∈ds,d.cell=true) {es:List AV} (hes:cs++Z6 fr ds=es) :
 ASpec P J o [(s,.own k),(x,.sl z m ds)] [(k,.row fr e z n cs)] (.own k) (.ap k (.row fr e z (n+m) es)):=by
 subst hes
 intro ρ B a w K Q hwf hB _ ha hr _ hk
 obtain ⟨nm,h1,h2⟩:=(ha (s,.own k) (by simp)).own_inv
 obtain ⟨nm',h1',hb⟩:=hr (k,.row fr e z n cs) (by simp)
 rw [h1] at h1';cases h1'
 obtain ⟨v',w',ρ',q1,q2⟩:=Zb6 E (ty:=o.type) hwf hB h2 (.inl h1) hb (src_sl (ha (x,.sl z m ds) (by simp))) hn h63 hby hc (.inl rfl)
 exact Zbv ho q1 (hk _ _ _ q2)
variable {e':TypeId}
theorem Za6 {t e z bytes:Nat} (E:Elt P t e z bytes) {fr fr':Bool} {n m k k':Nat} (s x:Operand) (ho:o.op = .call { callee := .builtin .append,args := #[s,x],argTypes := #[t,t] })
 (hn:fr=true->∀ d∈ds,d.isNew=true) (h63:n+m<=maxLen) (hby:(n+m)*bytes<=140737488355328) (hc:∀ d∈ds,d.cell=true) {es:List AV} (hes:cs++Z6 fr ds=es) :
 ASpec P J o [(s,.own k),(x,.own k')] [(k,.row fr e z n cs),(k',.row fr' e' z m ds)] (.own k) (.ap k (.row fr e z (n+m) es)):=by
 subst hes
 intro ρ B a w K Q hwf hB _ ha hr _ hk
 obtain ⟨nm,h1,h2⟩:=(ha (s,.own k) (by simp)).own_inv
 obtain ⟨nm',h1',hb⟩:=hr (k,.row fr e z n cs) (by simp)
 rw [h1] at h1';cases h1'
 obtain ⟨nn,g1,g2⟩:=(ha (x,.own k') (by simp)).own_inv
 obtain ⟨nn',g1',gb⟩:=hr (k',.row fr' e' z m ds) (by simp)
 rw [g1] at g1';cases g1'
 obtain ⟨v',w',ρ',q1,q2⟩:=Zb6 E (ty:=o.type) hwf hB h2 (.inl h1) hb (show Src ρ B w (a.eval x) z m ds by rw [g2];exact src_own gb) hn h63 hby hc (.inl rfl)
 exact Zbv ho q1 (hk _ _ _ q2)
theorem blk_nil (ρ:Names) (w:World) (B:Nat) (fr:Bool) (e z:Nat):BlkR ρ w B .nil (.row fr e z 0 []):=⟨[],World.ownsRow_nil _ _ _ _,rfl,by simp⟩
end
end Go.Proofs.YtmpgnibfhjdfpaaGreat
