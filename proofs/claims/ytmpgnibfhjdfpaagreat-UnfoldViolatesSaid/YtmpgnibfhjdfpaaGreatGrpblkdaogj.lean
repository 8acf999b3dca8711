import Derived.Test.YtmpgnibfhjdfpaaGreatProg
import Derived.WalkSpells
import Derived.WalkLawsBesides
import Derived.LoopTactic
import Derived.Lib.Hide
import Derived.Outline
import Derived.Deep.DeepCutAuto
import Derived.Deep.QuietTactic
import Derived.BigQuiet
import Derived.StillTailTactics
import Derived.Laws.MakeOwn
import Derived.Test.YtmpgnibfhjdfpaaGreatGrppoikgaho
import Derived.Test.YtmpgnibfhjdfpaaGreatGrpmgeggbob
import Derived.Test.YtmpgnibfhjdfpaaGreatGrpaggajjjj
import Derived.Test.YtmpgnibfhjdfpaaGreatGrpcdiljnim
import Derived.Test.YtmpgnibfhjdfpaaGreatGrpcjplndde
import Derived.Test.YtmpgnibfhjdfpaaGreatGrplfdmpooj
import Derived.Test.YtmpgnibfhjdfpaaGreatGrphhmpajpk
import Derived.Test.YtmpgnibfhjdfpaaGreatGrphbjjdkil
import Derived.Test.YtmpgnibfhjdfpaaGreatGrpegdbhmoc
import Derived.Test.YtmpgnibfhjdfpaaGreatGrpeojcophi
set_option linter.all false
namespace Go.Proofs.YtmpgnibfhjdfpaaGreat
open Go.RowKit Go.Deep Tryz
variable {J:World->Prop}
section
variable {P:Program} {o:Oper}
variable {B off:Nat}{w:World}{cs:List AV}{v:Value}
theorem rel_el {ρ:Names} (h:Rel ρ B w (.el cs off) v) :
 ∃ b base,∃ f:Nat->Value,v = .pointer (some ⟨b,base+off,none⟩)/\okOf ρ b/\b<w.heap.size/\(∀ j,j<cs.length->w.cell? ⟨b,base+j,none⟩=some (f j))/\∀ j (hj:j<cs.length),Pu (B <= ·) w (okOf ρ) cs[j] (f j):=by
 cases h with
 | pu h=>cases h with | el hb hw hf h=>exact ⟨_,_,_,rfl,hb,hw,hf,h⟩
variable {t e:TypeId}
theorem ZV {z len off off':Nat} {ik:IntKind} {i:Int} (x y:Operand) (ho:o.op = .indexAddr t x y) (hu:P.underlying t=some (.array len e)) (hz:(P.info? e).map (·.size)=some z) (h0:0<=i) (h1:i<len) (he:off+i.toNat*z=off') :
 ASpec P J o [(x,.el cs off),(y,.v (.int ik i))] [] (.el cs off') .no :=
 ZF fun ρ B a w _ ha _=>by
  obtain ⟨b,base,f,h2,hb,hw,hf,hp⟩:=rel_el (ha (x,.el cs off) (by simp))
  have hy:=(ha (y,.v (.int ik i)) (by simp)).v_inv
  refine ⟨.pointer (some ⟨b,base+off',none⟩),?_,.pu (.el hb hw hf hp)⟩
  simp only [execOp,ho,h2,hy]
  exact Z7 (by rw [Za8 hu hz _ _ _ _ _ h0 h1,<- he,Nat.add_assoc])
variable {m:Int}{len n:Nat}
theorem Wl {cs ds:List AV} {ik:IntKind} (x y:Operand) (ho:o.op = .slice t x none (some y) none) (hu:P.underlying t=some (.array len e)) (hz:(P.info? e).map (·.size)=some 1) (hn:n<=len) (h0:Nat.blt 0 len=true) (hm:len<=maxLen) (hl:off+n<=cs.length) (hd:(cs.drop off).take n=ds) (hmn:m=(n:Int)) :
 ASpec P J o [(x,.el cs off),(y,.v (.int ik m))] [] (.sl 1 n ds) .no :=
 ZF fun ρ B a w _ ha _=>by
  subst hmn
  obtain ⟨b,base,f,h2,hb,hw,hf,hp⟩:=rel_el (ha (x,.el cs off) (by simp))
  have hy:=(ha (y,.v (.int ik (n:Int))) (by simp)).v_inv
  obtain ⟨it,hi,_⟩:=Option.map_eq_some_iff.1 hz
  have h0':0<len:=by rwa [Nat.blt_eq] at h0
  have hlen:ds.length=n*1:=by subst hd;rw [List.length_take,List.length_drop];omega
  refine ⟨.slice (some ⟨b,base+off,none⟩) n len,?_,.pu (.sl (f:=λj=>f (off+j)) hlen hn hm hb hw (λj hj => ?_) λj hj => ?_)⟩
  ·simp only [execOp,ho,h2]
   refine Z7 ?_
   have r2:(Instr.sliceBound (a.eval y) len .sliceAlen).run P w = .ok n w:=by
    rw [hy];simp [Instr.sliceBound,asIntOf,hn]
   simp [Instr.sliceAt,run_underlying hu,Instr.sureAddr,Instr.sliceBounds,sizeOf,typeInfo,hi,r2,Addr.add_mid]
  ·subst hd
   obtain ⟨h5,_⟩:=Y5 cs off _ j hj
   rw [Nat.add_assoc];exact hf _ h5
  subst hd
  obtain ⟨h5,h6⟩:=Y5 cs off _ j hj
  rw [h6];exact hp _ h5
end
def midF (A:List AV) (n:Nat) (g:Nat->AV) (C:List AV):List AV:=A++((List.range n).map g++C)
variable {A C:List AV}{n:Nat}
theorem midF_len {g:Nat->AV}:(midF A n g C).length=A.length+(n+C.length):=by simp [midF]
variable {i o:Nat}
theorem midF_get {g:Nat->AV} (hi:i<n) (ho:A.length+i=o):(midF A n g C)[o]? = some (g i):=by
 subst ho
 unfold midF
 rw [List.getElem?_append_right (by omega),Nat.add_sub_cancel_left,List.getElem?_append_left (by simpa using hi),List.getElem?_map,List.getElem?_range hi]
 rfl
theorem midF_set {g g':Nat->AV} {X:AV} (hi:i<n) (ho:A.length+i=o) (h1:g' i=X) (h2:∀ j,j<n->j≠i->g' j=g j):setAll (midF A n g C) o [X]=midF A n g' C:=by
 subst ho
 show (midF A n g C).set (A.length+i) X=_
 unfold midF
 rw [List.set_append_right _ _ (by omega),Nat.add_sub_cancel_left,List.set_append_left _ _ (by simpa using hi)]
 congr 2
 apply List.ext_getElem (by simp)
 intro j a b
 have hj:j<n:=by simpa using b
 rw [List.getElem_set]
 split
 ·subst_vars;simp
 rename_i hne;simp [h2 j hj (λe=>hne e.symm)]
theorem midF_congr {g g':Nat->AV} (h:∀ j,j<n->g' j=g j):midF A n g' C=midF A n g C:=by
 unfold midF
 congr 2
 apply List.map_congr_left
 intro j hj
 exact h j (List.mem_range.1 hj)
end Go.Proofs.YtmpgnibfhjdfpaaGreat
namespace Go.Proofs.YtmpgnibfhjdfpaaGreat
def shpF:List Int->Int->Bool
 | [],m=>decide (m=0)
 | c::cs,m=>if m=0 then false else if c≠0/\c≠2 then false else shpF cs (m+c-1)
def shp (xs:List Int):Bool:=shpF xs 1
structure TS where
 fi:Nat->Int
 se:Nat->Int
 pa:Nat->Int
 wt:List Nat
def tkid (s:TS) (i:Nat):TS :=
 match s.wt.getLast? with
 | none=>⟨up s.fi i (-1),up s.se i (-1),up s.pa i (-1),s.wt⟩
 | some p=>if up s.fi i (-1) p<0 then ⟨up (up s.fi i (-1)) p i,up s.se i (-1),up (up s.pa i (-1)) i p,s.wt⟩ else ⟨up s.fi i (-1),up (up s.se i (-1)) p i,up (up s.pa i (-1)) i p,s.wt.dropLast⟩
def tstep (s:TS) (i:Nat) (c:Int):TS:=if c=2 then ⟨(tkid s i).fi,(tkid s i).se,(tkid s i).pa,(tkid s i).wt++[i]⟩ else tkid s i
def trun (xs:List Int):Nat->TS
 | 0=>⟨λ_=>0,λ_=>0,λ_=>0,[]⟩
 | k+1=>tstep (trun xs k) k (xs.getD k 0)
def lack (fi:Nat->Int) (p:Nat):Int:=if fi p<0 then 2 else 1
def lacks (fi:Nat->Int) (w:List Nat):Int:=(w.map (lack fi)).sum
structure TI (s:TS) (k:Nat) (m:Int):Prop where
 par:∀ j,j<k->s.pa j = -1\/∃ p:Nat,p<k/\s.pa j=p/\(s.fi p=j\/s.se p=j)
 fst:∀ p,p<k->s.fi p = -1\/∃ j:Nat,j<k/\s.fi p=j/\s.pa j=p
 snd:∀ p,p<k->s.se p = -1\/∃ j:Nat,j<k/\s.se p=j/\s.pa j=p
 wlt:∀ p∈s.wt,p<k/\s.se p = -1
 asc:s.wt.Pairwise (· < ·)
 two:∀ p,p<k->p ∉ s.wt->(s.fi p = -1↔s.se p = -1)
 cnt:m=if k=0 then 1 else lacks s.fi s.wt
theorem Zan {f g:Nat->Int} {w:List Nat} (h:∀ p∈w,f p=g p):lacks f w=lacks g w:=by
 unfold lacks;rw [List.map_congr_left (λp hp=>show lack f p=lack g p by unfold lack;rw [h p hp])]
theorem Wa (f:Nat->Int) (w:List Nat) (i:Nat):lacks f (w++[i])=lacks f w+lack f i:=by simp [lacks]
theorem Kt (f:Nat->Int):lacks f []=0:=rfl
theorem lack_pos (f:Nat->Int) (p:Nat):1<=lack f p:=by unfold lack;split<;>omega
theorem Zbc (f:Nat->Int):∀ w:List Nat,0<=lacks f w
 | []=>by simp [lacks]
 | p::w=>by
   have:=Zbc f w
   have:=lack_pos f p
   simp only [lacks,List.map_cons,List.sum_cons] at *
   omega
theorem lacks_zero (f:Nat->Int):∀ w:List Nat,lacks f w=0->w=[]
 | [],_=>rfl
 | p::w,h=>by
   have:=Zbc f w
   have:=lack_pos f p
   simp only [lacks,List.map_cons,List.sum_cons] at *
   omega
variable {k:Nat}{m:Int}
theorem kid_ok {s:TS} (h:TI s k m) (hm:m≠0) : 
 (∀ j,j<k+1->(tkid s k).pa j = -1\/∃ p:Nat,p<k+1/\(tkid s k).pa j=p/\((tkid s k).fi p=j\/(tkid s k).se p=j)) /\
 (∀ p,p<k+1->(tkid s k).fi p = -1\/∃ j:Nat,j<k+1/\(tkid s k).fi p=j/\(tkid s k).pa j=p) /\
 (∀ p,p<k+1->(tkid s k).se p = -1\/∃ j:Nat,j<k+1/\(tkid s k).se p=j/\(tkid s k).pa j=p) /\
 (∀ p∈(tkid s k).wt,p<k/\(tkid s k).se p = -1)/\(tkid s k).wt.Pairwise (· < ·) /\
 (∀ p,p<k->p ∉ (tkid s k).wt->((tkid s k).fi p = -1↔(tkid s k).se p = -1)) /\
 (tkid s k).fi k = -1/\(tkid s k).se k = -1/\lacks (tkid s k).fi (tkid s k).wt=m-1:=by
 obtain ⟨par,fst,snd,wlt,asc,two,cnt⟩:=h
 rcases hw:s.wt.getLast? with _ | p
 ·have hnil:s.wt=[]:=by simpa using hw
  have hk:k=0:=by
   by_cases e:k=0
   ·exact e
   rw [if_neg e,hnil,Kt] at cnt;exact absurd cnt hm
  subst hk
  rw [if_pos rfl] at cnt
  have ht:tkid s 0=⟨up s.fi 0 (-1),up s.se 0 (-1),up s.pa 0 (-1),s.wt⟩:=by unfold tkid;rw [hw]
  rw [ht]
  dsimp only
  rw [hnil]
  refine ⟨λj hj => .inl ?_,λj hj => .inl ?_,λj hj => .inl ?_,by simp,by simp,λp hp=>by omega,Yx _ _ _,Yx _ _ _,by rw [Kt];omega⟩ <;>
   (obtain rfl:j=0:=by omega
    exact Yx _ _ _)
 obtain ⟨ys,hys⟩:∃ ys,s.wt=ys++[p]:=List.getLast?_eq_some_iff.1 hw
 have hpm:p∈s.wt:=by rw [hys];simp
 obtain ⟨hpk,hpse⟩:=wlt p hpm
 have hk0:k≠0:=by omega
 have hnek:p≠k:=by omega
 rw [if_neg hk0] at cnt
 have hys_lt:∀ q∈ys,q<p:=by
  rw [hys,List.pairwise_append] at asc
  exact λq hq=>asc.2.2 q hq p (by simp)
 have hysm:∀ q∈ys,q<k/\s.se q = -1:=λq hq=>wlt q (by rw [hys];simp [hq])
 have hfp:up s.fi k (-1) p=s.fi p:=Ka _ _ hnek
 by_cases hf:s.fi p<0
 ·have ht:tkid s k=⟨up (up s.fi k (-1)) p k,up s.se k (-1),up (up s.pa k (-1)) k p,s.wt⟩:=by unfold tkid;rw [hw];dsimp only;rw [hfp,if_pos hf]
  have hfm:s.fi p = -1:=by
   rcases fst p hpk with e | ⟨j,_,e,_⟩
   ·exact e
   omega
  rw [ht]
  dsimp only
  have pak:up (up s.pa k (-1)) k p k=p:=Yx _ _ _
  have paj:∀ j,j≠k->up (up s.pa k (-1)) k p j=s.pa j:=λj hj=>by rw [Ka _ _ hj,Ka _ _ hj]
  have fik:up (up s.fi k (-1)) p k p=k:=Yx _ _ _
  have fij:∀ j,j≠p->j≠k->up (up s.fi k (-1)) p k j=s.fi j:=λj hj hk=>by rw [Ka _ _ hj,Ka _ _ hk]
  have fikk:up (up s.fi k (-1)) p k k = -1:=by rw [Ka _ _ (Ne.symm hnek),Yx]
  have sek:up s.se k (-1) k = -1:=Yx _ _ _
  have sej:∀ j,j≠k->up s.se k (-1) j=s.se j:=λj hj=>Ka _ _ hj
  refine ⟨λj hj => ?_,λq hq => ?_,λq hq => ?_,λq hq => ?_,asc,λq hq hqw => ?_,fikk,sek,?_⟩
  ·by_cases e:j=k
   ·subst e;exact .inr ⟨p,by omega,pak,.inl fik⟩
   rcases par j (by omega) with e1 | ⟨q,h1,h2,h3⟩
   ·exact .inl (by rw [paj j e];exact e1)
   refine .inr ⟨q,by omega,by rw [paj j e];exact h2,?_⟩
   rw [sej q (by omega)]
   by_cases eq:q=p
   ·subst eq
    rcases h3 with h3 | h3
    ·omega
    exact .inr h3
   rw [fij q eq (by omega)];exact h3
  ·by_cases e:q=p
   ·subst e;exact .inr ⟨k,by omega,fik,pak⟩
   by_cases e2:q=k
   ·subst e2;exact .inl fikk
   rw [fij q e e2]
   rcases fst q (by omega) with e1 | ⟨j,h1,h2,h3⟩
   ·exact .inl e1
   exact .inr ⟨j,by omega,h2,by rw [paj j (by omega)];exact h3⟩
  ·by_cases e2:q=k
   ·subst e2;exact .inl sek
   rw [sej q e2]
   rcases snd q (by omega) with e1 | ⟨j,h1,h2,h3⟩
   ·exact .inl e1
   exact .inr ⟨j,by omega,h2,by rw [paj j (by omega)];exact h3⟩
  ·have:=wlt q hq
   exact ⟨this.1,by rw [sej q (by omega)];exact this.2⟩
  ·have hqp:q≠p:=λe=>hqw (e ▸ hpm)
   rw [fij q hqp (by omega),sej q (by omega)]
   exact two q hq hqw
  rw [cnt,hys,Wa,Wa,Zan (g:=s.fi) (λq hq=>fij q (by have:=hys_lt q hq;omega) (by have:=(hysm q hq).1;omega))]
  unfold lack
  rw [fik,if_neg (by omega),if_pos hf];omega
 have ht:tkid s k=⟨up s.fi k (-1),up (up s.se k (-1)) p k,up (up s.pa k (-1)) k p,s.wt.dropLast⟩:=by unfold tkid;rw [hw];dsimp only;rw [hfp,if_neg hf]
 have hdl:s.wt.dropLast=ys:=by rw [hys];simp
 rw [ht,hdl]
 dsimp only
 have pak:up (up s.pa k (-1)) k p k=p:=Yx _ _ _
 have paj:∀ j,j≠k->up (up s.pa k (-1)) k p j=s.pa j:=λj hj=>by rw [Ka _ _ hj,Ka _ _ hj]
 have sep:up (up s.se k (-1)) p k p=k:=Yx _ _ _
 have sej:∀ j,j≠p->j≠k->up (up s.se k (-1)) p k j=s.se j:=λj hj hk=>by rw [Ka _ _ hj,Ka _ _ hk]
 have sek:up (up s.se k (-1)) p k k = -1:=by rw [Ka _ _ (Ne.symm hnek),Yx]
 have fik:up s.fi k (-1) k = -1:=Yx _ _ _
 have fij:∀ j,j≠k->up s.fi k (-1) j=s.fi j:=λj hj=>Ka _ _ hj
 refine ⟨λj hj => ?_,λq hq => ?_,λq hq => ?_,λq hq => ?_,?_,λq hq hqw => ?_,fik,sek,?_⟩
 ·by_cases e:j=k
  ·subst e;exact .inr ⟨p,by omega,pak,.inr sep⟩
  rcases par j (by omega) with e1 | ⟨q,h1,h2,h3⟩
  ·exact .inl (by rw [paj j e];exact e1)
  refine .inr ⟨q,by omega,by rw [paj j e];exact h2,?_⟩
  rw [fij q (by omega)]
  by_cases eq:q=p
  ·subst eq
   rcases h3 with h3 | h3
   ·exact .inl h3
   omega
  rw [sej q eq (by omega)];exact h3
 ·by_cases e2:q=k
  ·subst e2;exact .inl fik
  rw [fij q e2]
  rcases fst q (by omega) with e1 | ⟨j,h1,h2,h3⟩
  ·exact .inl e1
  exact .inr ⟨j,by omega,h2,by rw [paj j (by omega)];exact h3⟩
 ·by_cases e:q=p
  ·subst e;exact .inr ⟨k,by omega,sep,pak⟩
  by_cases e2:q=k
  ·subst e2;exact .inl sek
  rw [sej q e e2]
  rcases snd q (by omega) with e1 | ⟨j,h1,h2,h3⟩
  ·exact .inl e1
  exact .inr ⟨j,by omega,h2,by rw [paj j (by omega)];exact h3⟩
 ·have h1:=hysm q hq
  have h2:=hys_lt q hq
  exact ⟨h1.1,by rw [sej q (by omega) (by omega)];exact h1.2⟩
 ·rw [hys,List.pairwise_append] at asc;exact asc.1
 ·by_cases e:q=p
  ·subst e
   rw [fij q (by omega),sep]
   omega
  rw [fij q (by omega),sej q e (by omega)]
  exact two q hq (by rw [hys];simp [hqw,e])
 rw [cnt,hys,Wa,Zan (g:=s.fi) (λq hq=>fij q (by have:=(hysm q hq).1;omega))]
 unfold lack
 rw [if_neg hf];omega
variable {c:Int}
theorem step_ok {s:TS} (h:TI s k m) (hm:m≠0) (hc:c=0\/c=2):TI (tstep s k c) (k+1) (m+c-1):=by
 obtain ⟨par,fst,snd,wlt,asc,two,fk,sk,cnt⟩:=kid_ok h hm
 unfold tstep
 rcases hc with rfl | rfl
 ·rw [if_neg (by omega)]
  refine ⟨par,fst,snd,λp hp=>⟨by have:=(wlt p hp).1;omega,(wlt p hp).2⟩,asc,λp hp hw => ?_,by rw [if_neg (by omega),cnt];omega⟩
  by_cases e:p=k
  ·subst e;rw [fk,sk]
  exact two p (by omega) hw
 rw [if_pos rfl]
 refine ⟨par,fst,snd,λp hp => ?_,?_,λp hp hw => ?_,?_⟩
 ·rcases List.mem_append.1 hp with hp | hp
  ·exact ⟨by have:=(wlt p hp).1;omega,(wlt p hp).2⟩
  obtain rfl:p=k:=by simpa using hp
  exact ⟨by omega,sk⟩
 ·refine List.pairwise_append.2 ⟨asc,by simp,λa ha b hb => ?_⟩
  obtain rfl:b=k:=by simpa using hb
  exact (wlt a ha).1
 ·have h1:p ∉ (tkid s k).wt/\p≠k:=by simpa [not_or] using hw
  exact two p (by omega) h1.1
 rw [if_neg (by omega)]
 dsimp only
 rw [Wa,cnt]
 unfold lack
 rw [fk];simp;omega
theorem run_ok (xs:List Int) (hs:shp xs=true):∀ k,k<=xs.length->∃ m,TI (trun xs k) k m/\shpF (xs.drop k) m=true
 | 0,_=>⟨1,⟨λ_ h=>by omega,λ_ h=>by omega,λ_ h=>by omega,λ_ h=>by simp [trun] at h,by simp [trun],λ_ h=>by omega,by simp⟩,by simpa [shp] using hs⟩
 | k+1,hk=>by
   obtain ⟨m,hI,hF⟩:=run_ok xs hs k (by omega)
   have hd:xs.drop k=xs[k]'(by omega)::xs.drop (k+1):=List.drop_eq_getElem_cons (by omega)
   rw [hd,shpF] at hF
   by_cases h0:m=0
   ·rw [if_pos h0] at hF;cases hF
   rw [if_neg h0] at hF
   by_cases h1:xs[k]'(by omega)≠0/\xs[k]'(by omega)≠2
   ·rw [if_pos h1] at hF;cases hF
   rw [if_neg h1] at hF
   refine ⟨_,?_,hF⟩
   have hg:xs.getD k 0=xs[k]'(by omega):=by simp [List.getD,List.getElem?_eq_getElem (show k<xs.length by omega)]
   show TI (tstep (trun xs k) k (xs.getD k 0)) (k+1) _
   rw [hg]
   exact step_ok hI h0 (by omega)
def treeL (xs:List Int) (i:Nat):Int × Int × Int:=((trun xs xs.length).fi i,(trun xs xs.length).se i,(trun xs xs.length).pa i)
theorem Zbz (xs:List Int) (hs:shp xs=true):TI (trun xs xs.length) xs.length 0/\(trun xs xs.length).wt=[]:=by
 obtain ⟨m,hI,hF⟩:=run_ok xs hs xs.length (Nat.le_refl _)
 rw [List.drop_length] at hF
 have hm:m=0:=by simpa [shpF] using hF
 subst hm
 refine ⟨hI,?_⟩
 have hc:=hI.cnt
 by_cases h0:xs.length=0
 ·have:xs=[]:=List.eq_nil_of_length_eq_zero h0
  subst this
  rfl
 rw [if_neg h0] at hc;exact lacks_zero _ _ hc.symm
def rowL (top count i:Int):Int × Int × Int :=
 (if top=3/\i=0 then count-1 else i-1,if i=count-1 then (if top=3 then 0 else -1) else i+1,-1)
def nbr (top:Int) (xs:List Int) (count i:Int):Int × Int × Int :=
 if 0<=i/\i<count then (if top=2\/top=3 then rowL top count i else if top=4/\(xs.length:Int)=count/\shp xs=true then treeL xs i.toNat else (-1,-1,-1)) else (-1,-1,-1)
end Go.Proofs.YtmpgnibfhjdfpaaGreat
namespace Go.Proofs.YtmpgnibfhjdfpaaGreat
open Go.RowKit Go.Deep Tryz
set_option maxHeartbeats 12800000
def cf (s:TS) (j:Nat):Int:=if j % 3=0 then s.fi (j / 3) else if j % 3=1 then s.se (j / 3) else s.pa (j / 3)
theorem cf_fi (s:TS) (i:Nat):cf s (i*3)=s.fi i:=by unfold cf;rw [if_pos (by omega)];congr 1;omega
theorem cf_se (s:TS) (i:Nat):cf s (i*3+1)=s.se i:=by unfold cf;rw [if_neg (by omega),if_pos (by omega)];congr 1;omega
theorem cf_pa (s:TS) (i:Nat):cf s (i*3+2)=s.pa i:=by unfold cf;rw [if_neg (by omega),if_neg (by omega)];congr 1;omega
theorem up_fi (s:TS) (i:Nat) (v:Int):up (cf s) (i*3) v=cf ⟨up s.fi i v,s.se,s.pa,s.wt⟩:=by
 funext j;unfold up cf
 by_cases e:j=i*3
 ·subst e;rw [if_pos rfl,if_pos (by omega)];dsimp only;rw [if_pos (by omega)]
 rw [if_neg e];split
 ·dsimp only;rw [if_neg (by omega)]
 rfl
theorem up_se (s:TS) (i:Nat) (v:Int):up (cf s) (i*3+1) v=cf ⟨s.fi,up s.se i v,s.pa,s.wt⟩:=by
 funext j;unfold up cf
 by_cases e:j=i*3+1
 ·subst e;rw [if_pos rfl,if_neg (by omega),if_pos (by omega)];dsimp only;rw [if_pos (by omega)]
 rw [if_neg e];split
 ·rfl
 split
 ·dsimp only;rw [if_neg (by omega)]
 rfl
theorem up_pa (s:TS) (i:Nat) (v:Int):up (cf s) (i*3+2) v=cf ⟨s.fi,s.se,up s.pa i v,s.wt⟩:=by
 funext j;unfold up cf
 by_cases e:j=i*3+2
 ·subst e;rw [if_pos rfl,if_neg (by omega),if_neg (by omega)];dsimp only;rw [if_pos (by omega)]
 rw [if_neg e];split
 ·rfl
 split
 ·rfl
 dsimp only;rw [if_neg (by omega)]
theorem info_link:(Tryz.prog.info? 84).map (λi=>(i.zero,i.size,i.bytes))=some (some (.agg #[.int .i64 0,.int .i64 0,.int .i64 0]),3,24):=by kernel_rfl
theorem elInt:ElT Tryz.prog 24 3 (.int .i64 0) 1 8:=⟨underlying24,by kernel_rfl,rfl,by decide⟩
theorem W7 (b off n cap:Nat) (w:World) (xs:List Int) (hx:xs.length=n) (hn:n<=100) (h0:0<n)
 (hc:∀ i,i<n->w.cell? ⟨b,off+i,none⟩=some (.int .i64 (xs.getD i 0))) :
 Calls Tryz.prog 28 #[.slice (some ⟨b,off,none⟩) n cap] w λe w'=>∃ g,e = .returned (.slice (some ⟨g,0,none⟩) n n)/\OwnF w.heap.size w' g (n*3) (cf (trun xs n))/\Below w.heap.size w w':=by
 have HC:=Lib.hid hc
 have HX:=Lib.hid hx
 clear hc hx
 have hmk:=make_n (P:=Tryz.prog) 87 84 _ 3 24 underlying87 info_link n (by omega) (by omega)
 go_enter func28,ntmps28
 go_wp2_with fail
 have HO0:Hid (OwnF w.heap.size (w.alloc (.cells (madeCells #[Value.int IntKind.i64 0,Value.int IntKind.i64 0,Value.int IntKind.i64 0] (n*3)) 84)) w.heap.size (n*3) (cf (trun xs 0))):=by
  refine ⟨Nat.le_refl _,_,_,heap_alloc_new _ _,λj hj=>made_get _ _ _ _ hj ?_⟩
  have h3:j % 3=0\/j % 3=1\/j % 3=2:=by omega
  unfold cf trun
  rcases h3 with h | h | h<;>simp [h]
 go_loopw [4,14] (λv u wr=>∃ (k:Nat) (av:Option Addr) (cv:Nat),k<=n/\u = .int .i64 k/\v = .slice av (trun xs k).wt.length cv/\OwnF w.heap.size wr w.heap.size (n*3) (cf (trun xs k))/\wr.ownsRow (w.heap.size+1) 3 1 (.slice av (trun xs k).wt.length cv) (trun xs k).wt.length ((trun xs k).wt.map λp:Nat=>Value.int .i64 p)/\(∀ p∈(trun xs k).wt,p<k)/\(trun xs k).wt.length<=k/\Below w.heap.size w wr) (λ_ u _=>n-(intOf u).toNat)
 case atStart=>exact ⟨0,_,_,Nat.zero_le _,rfl,rfl,HO0.out,World.ownsRow_nil _ _ _ _,by simp [trun],by simp [trun],Zm _ _⟩
 case round =>
  obtain ⟨k,av,cv,hk,rfl,rfl,hO,hR,hW,hL,hB⟩:=hrel
  have HO:=Lib.hid hO
  have HR:=Lib.hid hR
  have HW:=Lib.hid hW
  have HB:=Lib.hid hB
  by_cases hlt:k<n
  ·have g1:wr.cell? ⟨b,off+k,none⟩=some (.int .i64 (xs.getD k 0)):=keep1 (HC.out k hlt) hB
   have hT:trun xs (k+1)=tstep (trun xs k) k (xs.getD k 0):=rfl
   have HT:=Lib.hid hT
   generalize hX:xs.getD k 0=x at g1 HT
   generalize hS:trun xs k=s at HO HR HW HT hL
   have f0:=HO.out.cell (k*3) (by omega)
   have f1:=HO.out.cell (k*3+1) (by omega)
   have f2:=HO.out.cell (k*3+2) (by omega)
   have z0:=HO.out.frozen (k*3)
   have z1:=HO.out.frozen (k*3+1)
   have z2:=HO.out.frozen (k*3+2)
   have zz:=HO.out.lt
   clear hX hS hT hO hR hW hB
   rcases hw:s.wt.getLast? with _ | p
   ·have hnil:s.wt=[]:=by simpa using hw
    have hl0:s.wt.length=0:=by rw [hnil];rfl
    have HNil:=Lib.hid hnil
    have HW0:=Lib.hid hw
    rw [hl0] at HR ⊢
    clear hnil hl0 hw
    have HS:Hid (OwnF w.heap.size (((wr.setCell ⟨w.heap.size,k*3,none⟩ (.int .i64 (-1))).setCell ⟨w.heap.size,k*3+1,none⟩ (.int .i64 (-1))).setCell ⟨w.heap.size,k*3+2,none⟩ (.int .i64 (-1))) w.heap.size (n*3) (cf (tkid s k))):=by
     have:=((HO.out.set (k*3) (-1)).set (k*3+1) (-1)).set (k*3+2) (-1)
     rw [up_fi,up_se,up_pa] at this
     show OwnF _ _ _ _ _
     unfold tkid
     rw [HW0.out]
     exact this
    have HK:Hid ((tkid s k).wt=[]):=by
     show (tkid s k).wt=[]
     unfold tkid
     rw [HW0.out]
     exact HNil.out
    have HR2:Hid ((((wr.setCell ⟨w.heap.size,k*3,none⟩ (.int .i64 (-1))).setCell ⟨w.heap.size,k*3+1,none⟩ (.int .i64 (-1))).setCell ⟨w.heap.size,k*3+2,none⟩ (.int .i64 (-1))).ownsRow (w.heap.size+1) 3 1 (.slice av 0 cv) 0 []):=by
     have h:=HR.out
     rw [HNil.out] at h
     exact ownsRow_setCell_below (ownsRow_setCell_below (ownsRow_setCell_below h (by simp) _) (by simp) _) (by simp) _
    by_cases x2:x=2
    ·subst x2
     go_wp2_with (at_builtin;refine KJ elInt (by rfl) (.tmp 58) (.tmp 60) (by rfl) (w.heap.size+1) _ 0 [] [.int .i64 k] wr.heap.size (by rfl) (by rfl) (by simp) HR2.out (by rfl) (by intro u hu;simp at hu;subst hu;rfl) (by omega) (by unfold maxLen;omega) (by omega) (by rfl) ?_;intro g cap w1 hown hgrow hat hlo hlt hsz)
     go_roundw
     case rel =>
      have hTS:trun xs (k+1)=⟨(tkid s k).fi,(tkid s k).se,(tkid s k).pa,[k]⟩:=by rw [HT.out];unfold tstep;rw [if_pos rfl,HK.out];rfl
      refine ⟨k+1,some ⟨g,0,none⟩,cap,by omega,by go_num,?_,?_,?_,?_,?_,?_⟩
      all_goals (try rw [hTS])
      ·rfl
      ·exact HS.out.grown hgrow (λe=>by have:=(HR2.out.lt _ e).1;omega)
      ·exact hown
      ·simp
      ·simp
      exact (((HB.out.setCell (by simp) _).setCell (by simp) _).setCell (by simp) _).grown hgrow (by simp;omega) (λk hk=>by have:=(HR2.out.lt _ hk).1;omega)
     case measure=>simp [intOf];omega
    have x3:(x==2)=false:=by simpa using x2
    have X2:=Lib.hid x2
    clear x2
    go_wp2_with fail
    go_roundw
    case rel =>
     have hTS:trun xs (k+1)=tkid s k:=by rw [HT.out];unfold tstep;rw [if_neg X2.out]
     refine ⟨k+1,av,cv,by omega,by go_num,?_,?_,?_,?_,?_,((HB.out.setCell (by simp) _).setCell (by simp) _).setCell (by simp) _⟩
     all_goals rw [hTS]
     ·rw [HK.out];rfl
     ·exact HS.out
     ·rw [HK.out];exact HR2.out
     ·rw [HK.out];simp
     rw [HK.out];simp
    case measure=>simp [intOf];omega
   obtain ⟨ys,hys⟩:∃ ys,s.wt=ys++[p]:=List.getLast?_eq_some_iff.1 hw
   have hpk:p<k:=HW.out p (by rw [hys];simp)
   have hl1:s.wt.length=ys.length+1:=by rw [hys];simp
   have hyl:ys.length+1<=k:=by omega
   have HY:=Lib.hid hys
   have HW0:=Lib.hid hw
   rw [hl1] at HR ⊢
   obtain ⟨gw,rfl,hgw,hgs,hcv,hcm,hcells⟩:=row_last HR.out
   have q1:wr.cell? ⟨gw,ys.length,none⟩=some (.int .i64 p):=by rw [hcells _ (by omega),HY.out];simp
   have q2:wr.cell? ⟨w.heap.size,p*3,none⟩=some (.int .i64 (s.fi p)):=by rw [<- cf_fi];exact HO.out.cell _ (by omega)
   have q3:wr.cell? ⟨w.heap.size,p*3+1,none⟩=some (.int .i64 (s.se p)):=by rw [<- cf_se];exact HO.out.cell _ (by omega)
   have q4:=HO.out.frozen (p*3)
   have q5:=HO.out.frozen (p*3+1)
   have n1:p*3≠k*3:=by omega
   have n2:p*3≠k*3+1:=by omega
   have n3:p*3≠k*3+2:=by omega
   have n4:p*3+1≠k*3:=by omega
   have n5:p*3+1≠k*3+1:=by omega
   have n6:p*3+1≠k*3+2:=by omega
   have n7:gw≠w.heap.size:=by omega
   have CM:=Lib.hid hcm
   unfold maxLen at hcm
   clear hys hl1 hw hcells hL
   by_cases hf:s.fi p<0
   ·have HK:Hid ((tkid s k).wt=s.wt):=by
     show (tkid s k).wt=s.wt
     unfold tkid
     rw [HW0.out]
     dsimp only
     rw [Ka _ _ (by omega:p≠k),if_pos hf]
    have HS:Hid (OwnF w.heap.size (((((wr.setCell ⟨w.heap.size,k*3,none⟩ (.int .i64 (-1))).setCell ⟨w.heap.size,k*3+1,none⟩ (.int .i64 (-1))).setCell ⟨w.heap.size,k*3+2,none⟩ (.int .i64 (-1))).setCell ⟨w.heap.size,k*3+2,none⟩ (.int .i64 p)).setCell ⟨w.heap.size,p*3,none⟩ (.int .i64 k)) w.heap.size (n*3) (cf (tkid s k))):=by
     have:=((((HO.out.set (k*3) (-1)).set (k*3+1) (-1)).set (k*3+2) (-1)).set (k*3+2) p).set (p*3) k
     rw [up_fi,up_se,up_pa,up_pa,up_fi] at this
     show OwnF _ _ _ _ _
     unfold tkid
     rw [HW0.out]
     dsimp only
     rw [Ka _ _ (by omega:p≠k),if_pos hf]
     exact this
    have HL:Hid (s.wt.length=(ys.length+1)):=by
     show _=_
     rw [HY.out];simp
    have HR2:Hid ((((((wr.setCell ⟨w.heap.size,k*3,none⟩ (.int .i64 (-1))).setCell ⟨w.heap.size,k*3+1,none⟩ (.int .i64 (-1))).setCell ⟨w.heap.size,k*3+2,none⟩ (.int .i64 (-1))).setCell ⟨w.heap.size,k*3+2,none⟩ (.int .i64 p)).setCell ⟨w.heap.size,p*3,none⟩ (.int .i64 k)).ownsRow (w.heap.size+1) 3 1 (.slice (some ⟨gw,0,none⟩) (ys.length+1) cv) (ys.length+1) (s.wt.map λp:Nat=>Value.int .i64 p)):=by
     exact ownsRow_setCell_below (ownsRow_setCell_below (ownsRow_setCell_below (ownsRow_setCell_below (ownsRow_setCell_below HR.out (by simp) _) (by simp) _) (by simp) _) (by simp) _) (by simp) _
    have HM:Hid (∀ q∈s.wt,q<k):=λq hq=>HW.out q (by exact hq)
    by_cases x2:x=2
    ·subst x2
     go_wp2_with (at_builtin;refine KJ elInt (by rfl) (.tmp 58) (.tmp 60) (by rfl) (w.heap.size+1) _ (ys.length+1) _ [.int .i64 k] wr.heap.size (by rfl) (by rfl) (by simp) HR2.out (by rfl) (by intro u hu;simp at hu;subst hu;rfl) (by omega) (by unfold maxLen;omega) (by omega) (by rfl) ?_;intro g cap w1 hown hgrow hat hlo hlt hsz)
     go_roundw
     case rel =>
      have hTS:trun xs (k+1)=⟨(tkid s k).fi,(tkid s k).se,(tkid s k).pa,s.wt++[k]⟩:=by rw [HT.out];unfold tstep;rw [if_pos rfl,HK.out]
      have hln:(s.wt++[k]).length=(ys.length+1)+1:=by rw [List.length_append,HL.out];rfl
      refine ⟨k+1,some ⟨g,0,none⟩,cap,by omega,by go_num,?_,?_,?_,?_,?_,(((((HB.out.setCell (by simp) _).setCell (by simp) _).setCell (by simp) _).setCell (by simp) _).setCell (by simp) _).grown hgrow (by simp;omega) (λk hk=>by have:=(HR2.out.lt _ hk).1;omega)⟩
      all_goals rw [hTS]
      ·dsimp only;rw [hln]
      ·exact HS.out.grown hgrow (λe=>by have:=(HR2.out.lt _ e).1;omega)
      ·dsimp only;rw [hln,List.map_append];exact hown
      ·intro q hq
       rcases List.mem_append.1 hq with hq | hq
       ·have:=HM.out q hq;omega
       obtain rfl:q=k:=by simpa using hq
       omega
      dsimp only;rw [hln];omega
     case measure=>simp [intOf];omega
    have x3:(x==2)=false:=by simpa using x2
    have X2:=Lib.hid x2
    clear x2
    go_wp2_with fail
    go_roundw
    case rel =>
     have hTS:trun xs (k+1)=tkid s k:=by rw [HT.out];unfold tstep;rw [if_neg X2.out]
     refine ⟨k+1,some ⟨gw,0,none⟩,cv,by omega,by go_num,?_,?_,?_,?_,?_,((((HB.out.setCell (by simp) _).setCell (by simp) _).setCell (by simp) _).setCell (by simp) _).setCell (by simp) _⟩
     all_goals rw [hTS]
     ·rw [HK.out,HL.out]
     ·exact HS.out
     ·rw [HK.out,HL.out];exact HR2.out
     ·rw [HK.out];exact λq hq=>by have:=HM.out q hq;omega
     rw [HK.out,HL.out];omega
    case measure=>simp [intOf];omega
   have HK:Hid ((tkid s k).wt=ys):=by
    show (tkid s k).wt=ys
    unfold tkid
    rw [HW0.out]
    dsimp only
    rw [Ka _ _ (by omega:p≠k),if_neg hf]
    show s.wt.dropLast=ys;rw [HY.out];simp
   have HS:Hid (OwnF w.heap.size (((((wr.setCell ⟨w.heap.size,k*3,none⟩ (.int .i64 (-1))).setCell ⟨w.heap.size,k*3+1,none⟩ (.int .i64 (-1))).setCell ⟨w.heap.size,k*3+2,none⟩ (.int .i64 (-1))).setCell ⟨w.heap.size,k*3+2,none⟩ (.int .i64 p)).setCell ⟨w.heap.size,p*3+1,none⟩ (.int .i64 k)) w.heap.size (n*3) (cf (tkid s k))):=by
    have:=((((HO.out.set (k*3) (-1)).set (k*3+1) (-1)).set (k*3+2) (-1)).set (k*3+2) p).set (p*3+1) k
    rw [up_fi,up_se,up_pa,up_pa,up_se] at this
    show OwnF _ _ _ _ _
    unfold tkid
    rw [HW0.out]
    dsimp only
    rw [Ka _ _ (by omega:p≠k),if_neg hf]
    exact this
   have HL:Hid (ys.length=ys.length):=by
    show _=_
    rfl
   have HR2:Hid ((((((wr.setCell ⟨w.heap.size,k*3,none⟩ (.int .i64 (-1))).setCell ⟨w.heap.size,k*3+1,none⟩ (.int .i64 (-1))).setCell ⟨w.heap.size,k*3+2,none⟩ (.int .i64 (-1))).setCell ⟨w.heap.size,k*3+2,none⟩ (.int .i64 p)).setCell ⟨w.heap.size,p*3+1,none⟩ (.int .i64 k)).ownsRow (w.heap.size+1) 3 1 (.slice (some ⟨gw,0,none⟩) ys.length cv) ys.length (ys.map λp:Nat=>Value.int .i64 p)):=by
    have h:=row_cut HR.out
    rw [HY.out,List.map_append,List.take_append_of_le_length (by simp),List.take_of_length_le (by simp)] at h
    exact ownsRow_setCell_below (ownsRow_setCell_below (ownsRow_setCell_below (ownsRow_setCell_below (ownsRow_setCell_below h (by simp) _) (by simp) _) (by simp) _) (by simp) _) (by simp) _
   have HM:Hid (∀ q∈ys,q<k):=λq hq=>HW.out q (by rw [HY.out];simp [hq])
   by_cases x2:x=2
   ·subst x2
    go_wp2_with (at_builtin;refine KJ elInt (by rfl) (.tmp 58) (.tmp 60) (by rfl) (w.heap.size+1) _ ys.length _ [.int .i64 k] wr.heap.size (by rfl) (by rfl) (by simp) HR2.out (by rfl) (by intro u hu;simp at hu;subst hu;rfl) (by omega) (by unfold maxLen;omega) (by omega) (by rfl) ?_;intro g cap w1 hown hgrow hat hlo hlt hsz)
    go_roundw
    case rel =>
     have hTS:trun xs (k+1)=⟨(tkid s k).fi,(tkid s k).se,(tkid s k).pa,ys++[k]⟩:=by rw [HT.out];unfold tstep;rw [if_pos rfl,HK.out]
     have hln:(ys++[k]).length=ys.length+1:=by rw [List.length_append,HL.out];rfl
     refine ⟨k+1,some ⟨g,0,none⟩,cap,by omega,by go_num,?_,?_,?_,?_,?_,(((((HB.out.setCell (by simp) _).setCell (by simp) _).setCell (by simp) _).setCell (by simp) _).setCell (by simp) _).grown hgrow (by simp;omega) (λk hk=>by have:=(HR2.out.lt _ hk).1;omega)⟩
     all_goals rw [hTS]
     ·dsimp only;rw [hln]
     ·exact HS.out.grown hgrow (λe=>by have:=(HR2.out.lt _ e).1;omega)
     ·dsimp only;rw [hln,List.map_append];exact hown
     ·intro q hq
      rcases List.mem_append.1 hq with hq | hq
      ·have:=HM.out q hq;omega
      obtain rfl:q=k:=by simpa using hq
      omega
     dsimp only;rw [hln];omega
    case measure=>simp [intOf];omega
   have x3:(x==2)=false:=by simpa using x2
   have X2:=Lib.hid x2
   clear x2
   go_wp2_with fail
   go_roundw
   case rel =>
    have hTS:trun xs (k+1)=tkid s k:=by rw [HT.out];unfold tstep;rw [if_neg X2.out]
    refine ⟨k+1,some ⟨gw,0,none⟩,cv,by omega,by go_num,?_,?_,?_,?_,?_,((((HB.out.setCell (by simp) _).setCell (by simp) _).setCell (by simp) _).setCell (by simp) _).setCell (by simp) _⟩
    all_goals rw [hTS]
    ·rw [HK.out,HL.out]
    ·exact HS.out
    ·rw [HK.out,HL.out];exact HR2.out
    ·rw [HK.out];exact λq hq=>by have:=HM.out q hq;omega
    rw [HK.out,HL.out];omega
   case measure=>simp [intOf];omega
  obtain rfl:k=n:=by omega
  go_wp2_with fail
  go_ret
  exact ⟨_,rfl,HO.out,HB.out⟩
def isShp (xs:List Int) (count:Int):Bool:=decide ((xs.length:Int)=count)&&shp xs
theorem Zes (b off n cap:Nat) (count:Int) (w:World) (xs:List Int) (hx:xs.length=n) (hn:n<=1000000)
 (hc:∀ i,i<n->w.cell? ⟨b,off+i,none⟩=some (.int .i64 (xs.getD i 0))) :
 Calls Tryz.prog 27 #[.slice (some ⟨b,off,none⟩) n cap,.int .i64 count] w λe w'=>e = .returned (.bool (isShp xs count))/\w=w':=by
 have HC:=Lib.hid hc
 have HX:=Lib.hid hx
 clear hc hx
 by_cases hn':(n:Int)=count
 ·subst hn'
  go_enter func27,ntmps27
  go_wp2_with fail
  go_loop [5,14] (λv u=>∃ (k:Nat) (m:Int),k<=n/\u = .int .i64 k/\v = .int .i64 m/\0<=m/\m<=k+1/\shpF (xs.drop k) m=shp xs) (λ_ u=>n-(intOf u).toNat)
  case atStart=>exact ⟨0,1,Nat.zero_le _,rfl,rfl,by omega,by omega,rfl⟩
  case round =>
   obtain ⟨k,m,hk,rfl,rfl,h0,h1,hs⟩:=hrel
   have HS:=Lib.hid hs
   clear hs
   by_cases hlt:k<n
   ·have g1:=HC.out k hlt
    have HD:=Lib.hid (show shpF (xs.drop k) m=if m=0 then false else if xs.getD k 0≠0/\xs.getD k 0≠2 then false else shpF (xs.drop (k+1)) (m+xs.getD k 0-1) by
     have hd:xs.drop k=xs[k]'(by rw [HX.out];exact hlt)::xs.drop (k+1):=List.drop_eq_getElem_cons _
     rw [hd,shpF,show xs.getD k 0=xs[k]'(by rw [HX.out];exact hlt) by simp [List.getD,List.getElem?_eq_getElem (show k<xs.length by rw [HX.out];exact hlt)]])
    generalize hX:xs.getD k 0=x at g1 HD
    clear hX
    by_cases m0:m=0
    ·subst m0
     go_wp2_with fail
     go_ret
     exact ⟨Zt (by unfold isShp;rw [<- HS.out,HD.out];simp),rfl⟩
    have m1:(m==0)=false:=by simpa using m0
    have M0:=Lib.hid m0
    have m2:1<=m:=by omega
    clear m0
    by_cases x0:x=0
    ·subst x0
     go_wp2_with fail
     go_round
     case rel=>exact ⟨k+1,m-1,by omega,by go_num,by go_num,by omega,by omega,by rw [<- HS.out,HD.out,if_neg M0.out,if_neg (by omega)];congr 1;omega⟩
     case measure=>simp [intOf];omega
    by_cases x2:x=2
    ·subst x2
     go_wp2_with fail
     go_round
     case rel=>exact ⟨k+1,m+1,by omega,by go_num,by go_num,by omega,by omega,by rw [<- HS.out,HD.out,if_neg M0.out,if_neg (by omega)];congr 1;omega⟩
     case measure=>simp [intOf];omega
    have x3:(x != 0)=true:=by simpa using x0
    have x4:(x != 2)=true:=by simpa using x2
    have XX:=Lib.hid (And.intro x0 x2)
    clear x0 x2
    go_wp2_with fail
    go_ret
    exact ⟨Zt (by unfold isShp;rw [<- HS.out,HD.out,if_neg M0.out,if_pos XX.out,Bool.and_false]),rfl⟩
   have HE:=Lib.hid (show shp xs=(m==0) by
    rw [<- HS.out,List.drop_eq_nil_of_le (by rw [HX.out];omega),shpF];rfl)
   go_wp2_with fail
   go_ret
   exact ⟨Zt (by unfold isShp;rw [HX.out,decide_eq_true rfl,HE.out,Bool.true_and]),rfl⟩
 have e1:((n:Int)==count)=false:=by simpa using hn'
 have e2:((n:Int) != count)=true:=by simpa using hn'
 have HN:=Lib.hid hn'
 clear hn'
 go_enter func27,ntmps27
 go_wp2_with fail
 go_ret
 exact ⟨Zt (by unfold isShp;rw [HX.out,decide_eq_false HN.out];rfl),rfl⟩
theorem Zdo (a:Option Addr) (cap:Nat) (count:Int) (w:World) :
 Calls Tryz.prog 27 #[.slice a 0 cap,.int .i64 count] w λe w'=>e = .returned (.bool (isShp [] count))/\w=w':=by
 by_cases hn:count=0
 ·subst hn
  go_enter func27,ntmps27
  go_wp2_with fail
  refine wp_loop_rounds 1 ?_
  rw [rounds_succ]
  go_wp2_with fail
  go_ret
  exact ⟨rfl,rfl⟩
 have e1:((0:Int)==count)=false:=by simp;omega
 have e2:((0:Int) != count)=true:=by simp;omega
 have HN:=Lib.hid hn
 clear hn
 go_enter func27,ntmps27
 go_wp2_with fail
 go_ret
 exact ⟨Zt (by unfold isShp;rw [decide_eq_false (by have:=HN.out;simp;omega)];rfl),rfl⟩
variable {lo:Nat}{w:World}{v:Value}{xs:List Int}
theorem Wv (count:Int) (h:IsInts lo w v xs) (hn:xs.length<=1000000) :
 Calls Tryz.prog 27 #[v,.int .i64 count] w λe w'=>e = .returned (.bool (isShp xs count))/\w=w':=by
 obtain ⟨a,cap,rfl,hl,hm,hi,hc⟩:=h
 rcases hc with rfl | ⟨b,off,rfl,_,_,hc⟩
 ·exact Zdo _ _ _ _
 exact Zes _ _ _ _ _ _ _ rfl hn hc
theorem WT {a b c a' b' c':Int} (h:(a,b,c)=(a',b',c')):Ending.returned (.agg #[.int .i64 a,.int .i64 b,.int .i64 c]) = .returned (.agg #[.int .i64 a',.int .i64 b',.int .i64 c']):=by cases h;rfl
theorem Zai (top count i:Int) (w:World) (h0:0<=i) (h1:i<count) (hc:count<=9223372036854775807) :
 Calls Tryz.prog 26 #[.int .i64 top,.int .i64 count,.int .i64 i] w λe w'=>e = .returned (.agg #[.int .i64 (rowL top count i).1,.int .i64 (rowL top count i).2.1,.int .i64 (rowL top count i).2.2])/\Below w.heap.size w w':=by
 have E:Hid (rowL top count i=(if top=3/\i=0 then count-1 else i-1,if i=count-1 then (if top=3 then 0 else -1) else i+1,-1)):=(rfl:rowL top count i=_)
 by_cases hl:i=count-1
 ·have b1:(i==count-1)=true:=by simpa using hl
  have HL:=Lib.hid hl
  clear hl
  by_cases ht:top=3
  ·subst ht
   by_cases hz:i=0
   ·subst hz
    go_enter func26,ntmps26
    go_wp2_with fail
    refine bodyPost_ret (v := .agg #[.int .i64 (count-1),.int .i64 (0),.int .i64 (-1)]) (by simp [results,results26,go_sem]) rfl ⟨WT ?_,by go_grown⟩
    have h:=HL.out;rw [E.out];simp [<- h]
   have b2:(i==0)=false:=by simpa using hz
   have HZ:=Lib.hid hz
   clear hz
   go_enter func26,ntmps26
   go_wp2_with fail
   refine bodyPost_ret (v := .agg #[.int .i64 (i-1),.int .i64 (0),.int .i64 (-1)]) (by simp [results,results26,go_sem]) rfl ⟨WT ?_,by go_grown⟩
   have h:=HL.out;have h2:=HZ.out;rw [E.out];simp [<- h,h2]
  have b2:(top==3)=false:=by simpa using ht
  have HT:=Lib.hid ht
  clear ht
  go_enter func26,ntmps26
  go_wp2_with fail
  refine bodyPost_ret (v := .agg #[.int .i64 (i-1),.int .i64 (-1),.int .i64 (-1)]) (by simp [results,results26,go_sem]) rfl ⟨WT ?_,by go_grown⟩
  have h:=HL.out;have h2:=HT.out;rw [E.out];simp [<- h,h2]
 have b1:(i==count-1)=false:=by simpa using hl
 have HL:=Lib.hid hl
 clear hl
 by_cases ht:top=3
 ·subst ht
  by_cases hz:i=0
  ·subst hz
   go_enter func26,ntmps26
   go_wp2_with fail
   refine bodyPost_ret (v := .agg #[.int .i64 (count-1),.int .i64 (0+1),.int .i64 (-1)]) (by simp [results,results26,go_sem]) rfl ⟨WT ?_,by go_grown⟩
   have h:=HL.out;rw [E.out];simp [h]
  have b2:(i==0)=false:=by simpa using hz
  have HZ:=Lib.hid hz
  clear hz
  go_enter func26,ntmps26
  go_wp2_with fail
  refine bodyPost_ret (v := .agg #[.int .i64 (i-1),.int .i64 (i+1),.int .i64 (-1)]) (by simp [results,results26,go_sem]) rfl ⟨WT ?_,by go_grown⟩
  have h:=HL.out;have h2:=HZ.out;rw [E.out];simp [h,h2]
 have b2:(top==3)=false:=by simpa using ht
 have HT:=Lib.hid ht
 clear ht
 go_enter func26,ntmps26
 go_wp2_with fail
 refine bodyPost_ret (v := .agg #[.int .i64 (i-1),.int .i64 (i+1),.int .i64 (-1)]) (by simp [results,results26,go_sem]) rfl ⟨WT ?_,by go_grown⟩
 have h:=HL.out;have h2:=HT.out;rw [E.out];simp [h,h2]
def nbrV (t:Int × Int × Int):Value := .tuple #[.int .i64 t.1,.int .i64 t.2.1,.int .i64 t.2.2]
variable {a b c:Int}
theorem Zaj {t:Int × Int × Int} (h:t=(a,b,c)):Ending.returned (.tuple #[.int .i64 a,.int .i64 b,.int .i64 c]) = .returned (nbrV t):=by subst h;rfl
theorem ZdF (top count i:Int) (h:IsInts lo w v xs) (hn:xs.length<=100) (hc:count<=9223372036854775807) :
 Calls Tryz.prog 12 #[.int .i64 top,v,.int .i64 count,.int .i64 i] w λe w'=>e = .returned (nbrV (nbr top xs count i))/\Below w.heap.size w w':=by
 have H:=Lib.hid h
 obtain ⟨a,cap,rfl⟩:=h.shape
 clear h
 by_cases hi:0<=i
 ·by_cases hl:i<count
  ·have HI:=Lib.hid (And.intro hi hl)
   by_cases t2:top=2
   ·subst t2
    have E:=Lib.hid (show nbr 2 xs count i=rowL 2 count i by unfold nbr;rw [if_pos HI.out,if_pos (by simp)])
    go_enter func12,ntmps12
    go_wp2_with (go_at_call 26;refine (Zai _ _ _ _ HI.out.1 HI.out.2 hc).mono ?_;rintro e w1 ⟨rfl,hb1⟩;obtain ⟨pa,pb⟩:=blk hb1 (n:=w.heap.size) (by go_size);have hz1:w.heap.size<w1.heap.size:=(by have:=hb1.size;simp at this;omega);have HB1:=Lib.hid (Below.trans (by go_grown) (hb1.mono (by go_size)):Below w.heap.size w w1);clear hb1)
    go_quiet (fail)
    go_wp2_with fail
    go_ret3
    exact ⟨Zaj (by rw [E.out]),quietBelow (((HB1.out.setCell (by simp) _).setCell (by simp) _).setCell (by simp) _) _⟩
   have b2:(top==2)=false:=by simpa using t2
   by_cases t3:top=3
   ·subst t3
    have E:=Lib.hid (show nbr 3 xs count i=rowL 3 count i by unfold nbr;rw [if_pos HI.out,if_pos (by simp)])
    go_enter func12,ntmps12
    go_wp2_with (go_at_call 26;refine (Zai _ _ _ _ HI.out.1 HI.out.2 hc).mono ?_;rintro e w1 ⟨rfl,hb1⟩;obtain ⟨pa,pb⟩:=blk hb1 (n:=w.heap.size) (by go_size);have hz1:w.heap.size<w1.heap.size:=(by have:=hb1.size;simp at this;omega);have HB1:=Lib.hid (Below.trans (by go_grown) (hb1.mono (by go_size)):Below w.heap.size w w1);clear hb1)
    go_quiet (fail)
    go_wp2_with fail
    go_ret3
    exact ⟨Zaj (by rw [E.out]),quietBelow (((HB1.out.setCell (by simp) _).setCell (by simp) _).setCell (by simp) _) _⟩
   have b3:(top==3)=false:=by simpa using t3
   have HT:=Lib.hid (And.intro t2 t3)
   clear t2 t3
   by_cases t4:top=4
   ·subst t4
    cases hs:isShp xs count with
    | true =>
      have HS:=Lib.hid hs
      have hp:(xs.length:Int)=count/\shp xs=true:=by unfold isShp at hs;simpa using hs
      have E:=Lib.hid (show nbr 4 xs count i=treeL xs i.toNat by unfold nbr;rw [if_pos HI.out,if_neg (by simp),if_pos ⟨rfl,hp⟩])
      obtain ⟨j,rfl⟩:=Int.eq_ofNat_of_zero_le hi
      have hj:j<xs.length:=by omega
      have hcl:=hp.1
      have HP:=Lib.hid hp
      clear hp
      obtain ⟨b,off,rfl,hbw,hcell⟩:∃ b off,a=some ⟨b,off,none⟩/\b<w.heap.size/\∀ i,i<xs.length->w.cell? ⟨b,off+i,none⟩=some (.int .i64 (xs.getD i 0)):=by
       obtain ⟨a',cap',hv,_,_,_,hc⟩:=H.out
       simp only [Value.slice.injEq] at hv
       rcases hc with h0 | ⟨b,off,ha,_,hb,hc⟩
       ·rw [h0] at hj;simp at hj
       exact ⟨b,off,hv.1.trans ha,hb,hc⟩
      have HCell:=Lib.hid hcell
      clear hcell hcl
      go_enter func12,ntmps12
      go_wp2_with (first | (go_at_call 27;refine (Wv count (H.out.below (by go_grown)) (by omega)).mono ?_;rintro e w1 ⟨rfl,rfl⟩) | (go_at_call 28;refine (W7 b off xs.length cap _ xs rfl hn (by omega) (λi hi=>keep1 (HCell.out i hi) (by go_grown))).mono ?_;rintro e w1 ⟨g,rfl,hO,hb1⟩;obtain ⟨pa,pb⟩:=blk hb1 (n:=w.heap.size) (by go_size);have hz1:w.heap.size<w1.heap.size:=(by have:=hb1.size;simp at this;omega);have HB1:=Lib.hid (Below.trans (by go_grown) (hb1.mono (by go_size)):Below w.heap.size w w1);have c0:=hO.cell (j*3) (by omega);have c1:=hO.cell (j*3+1) (by omega);have c2:=hO.cell (j*3+2) (by omega);rw [cf_fi] at c0;rw [cf_se] at c1;rw [cf_pa] at c2;clear hb1 hO))
      go_quiet (fail)
      go_wp2_with fail
      go_ret3
      exact ⟨Zaj (by rw [E.out];rfl),quietBelow (((HB1.out.setCell (by simp) _).setCell (by simp) _).setCell (by simp) _) _⟩
    | false =>
      have E:=Lib.hid (show nbr 4 xs count i=(-1,-1,-1) by
       unfold nbr;rw [if_pos HI.out,if_neg (by simp),if_neg (by rintro ⟨_,h1,h2⟩;unfold isShp at hs;rw [decide_eq_true h1,h2] at hs;cases hs)])
      have HS:=Lib.hid hs
      go_enter func12,ntmps12
      go_wp2_with (go_at_call 27;refine (Wv count (H.out.below (by go_grown)) (by omega)).mono ?_;rintro e w1 ⟨rfl,rfl⟩)
      go_quiet (fail)
      go_wp2_with fail
      go_ret3
      exact ⟨Zaj (by rw [E.out]),quietBelow (Zm _ _) _⟩
   have b4:(top==4)=false:=by simpa using t4
   have E:=Lib.hid (show nbr top xs count i=(-1,-1,-1) by unfold nbr;rw [if_pos HI.out,if_neg (by have:=HT.out;omega),if_neg (by rintro ⟨h,_⟩;exact t4 h)])
   clear t4
   go_enter func12,ntmps12
   go_wp2_with (fail)
   go_quiet (fail)
   go_wp2_with fail
   go_ret3
   exact ⟨Zaj (by rw [E.out]),quietBelow (Zm _ _) _⟩
  have E:=Lib.hid (show nbr top xs count i=(-1,-1,-1) by unfold nbr;rw [if_neg (by omega)])
  go_enter func12,ntmps12
  go_wp2_with (fail)
  go_quiet (fail)
  go_wp2_with fail
  go_ret3
  exact ⟨Zaj (by rw [E.out]),quietBelow (Zm _ _) _⟩
 have E:=Lib.hid (show nbr top xs count i=(-1,-1,-1) by unfold nbr;rw [if_neg (by omega)])
 go_enter func12,ntmps12
 go_wp2_with (fail)
 go_quiet (fail)
 go_wp2_with fail
 go_ret3
 exact ⟨Zaj (by rw [E.out]),quietBelow (Zm _ _) _⟩
end Go.Proofs.YtmpgnibfhjdfpaaGreat
namespace Go.Proofs.YtmpgnibfhjdfpaaGreat
def digF (n k j:Nat):Int:=(((k / 2 ^ (n-1-j)) % 2:Nat):Int)*2
def dig (n k:Nat):List Int:=(List.range n).map (digF n k)
theorem Ko (n k:Nat):(dig n k).length=n:=by simp [dig]
theorem dig_get (n k j:Nat) (h:j<n):(dig n k).getD j 0=digF n k j:=by simp [dig,List.getD,h]
theorem digF_small (n k j:Nat):0<=digF n k j/\digF n k j<=2:=by unfold digF;omega
def shK (n k:Nat):List (List Int):=((List.range k).map (dig n)).filter shp
def shL (n:Nat):List (List Int):=shK n (2 ^ n)
theorem shK_succ (n k:Nat):shK n (k+1)=if shp (dig n k) then shK n k++[dig n k] else shK n k:=by
 unfold shK
 rw [List.range_succ,List.map_append,List.filter_append]
 by_cases h:shp (dig n k)=true
 ·simp [h]
 simp [h]
theorem shK_len (n k:Nat):(shK n k).length<=k:=by
 have:=List.length_filter_le shp ((List.range k).map (dig n))
 simpa [shK] using this
variable {n k:Nat}{xs:List Int}
theorem shK_mem (h:xs∈shK n k):xs.length=n/\shp xs=true:=by
 unfold shK at h
 rw [List.mem_filter] at h
 obtain ⟨h1,h2⟩:=h
 obtain ⟨j,_,rfl⟩:=List.mem_map.1 h1
 exact ⟨Ko _ _,h2⟩
def allL:Nat->List (List Int)
 | 0=>[[]]
 | n+1=>(allL n).map (0 :: ·)++(allL n).map (2 :: ·)
theorem KY (a b:Int) (ys:List Int):∀ L:List (List Int),(L.map (a :: ·)).count (b::ys)=if a=b then L.count ys else 0
 | []=>by simp
 | x::L=>by
   rw [List.map_cons,List.count_cons,List.count_cons,KY a b ys L]
   by_cases h:a=b
   ·subst h;simp
   simp [h]
theorem ZeD:∀ xs:List Int,(∀ x∈xs,x=0\/x=2)->(allL xs.length).count xs=1
 | [],_=>rfl
 | x::xs,h=>by
   have ih:=ZeD xs (λy hy=>h y (by simp [hy]))
   show ((allL xs.length).map (0 :: ·)++(allL xs.length).map (2 :: ·)).count (x::xs)=1
   rw [List.count_append,KY,KY,ih]
   rcases h x (by simp) with rfl | rfl<;>simp
theorem Zcs:∀ (xs:List Int) (m:Int),shpF xs m=true->∀ x∈xs,x=0\/x=2
 | [],_,_,x,hx=>by simp at hx
 | c::cs,m,h,x,hx=>by
   rw [shpF] at h
   by_cases h0:m=0
   ·rw [if_pos h0] at h;cases h
   rw [if_neg h0] at h
   by_cases h1:c≠0/\c≠2
   ·rw [if_pos h1] at h;cases h
   rw [if_neg h1] at h
   rcases List.mem_cons.1 hx with rfl | hx
   ·omega
   exact Zcs cs _ h x hx
set_option maxRecDepth 100000 in
theorem dig_all:∀ n,n<=8->(List.range (2 ^ n)).map (dig n)=allL n
 | 0,_=>by decide +kernel
 | 1,_=>by decide +kernel
 | 2,_=>by decide +kernel
 | 3,_=>by decide +kernel
 | 4,_=>by decide +kernel
 | 5,_=>by decide +kernel
 | 6,_=>by decide +kernel
 | 7,_=>by decide +kernel
 | 8,_=>by decide +kernel
theorem shL_count (xs:List Int) (h:xs.length<=8):(shL xs.length).count xs=if shp xs=true then 1 else 0:=by
 unfold shL shK
 by_cases hs:shp xs=true
 ·rw [if_pos hs,List.count_filter hs,dig_all _ h]
  exact ZeD xs (Zcs xs 1 hs)
 rw [if_neg hs,List.count_eq_zero]
 intro hm
 exact hs (List.mem_filter.1 hm).2
end Go.Proofs.YtmpgnibfhjdfpaaGreat
namespace Go.Proofs.YtmpgnibfhjdfpaaGreat
open Go.RowKit Go.Deep Tryz
variable {lo g:Nat}{w:World}{v:Value}{xs:List Int}
theorem OwnV.blk (h:OwnV lo w v xs) (hg:v.ownBlock=some g):lo<=g/\g<w.heap.size:=by
 rcases h with ⟨rfl,_⟩ | ⟨g',cap,rfl,_,_,h⟩
 ·cases hg
 have:g'=g:=by simpa [Value.ownBlock] using hg
 subst this
 exact ⟨h.1,h.lt⟩
variable {w':World}
theorem OwnV.grw {r:Option Nat} (h:OwnV lo w v xs) (hg:w.grownBy w' r) (hr:∀ g,r=some g->v.ownBlock≠some g):OwnV lo w' v xs:=by
 rcases h with h | ⟨g',cap,rfl,h1,h2,h⟩
 ·exact .inl h
 exact .inr ⟨g',cap,rfl,h1,h2,h.but (hg.block g' h.lt (λe=>hr g' e.symm rfl))⟩
theorem OwnV.setOut (h:OwnV lo w v xs) (a:Addr) (ha:a.block<lo) (u:Value):OwnV lo (w.setCell a u) v xs:=by
 rcases h with h | ⟨g',cap,rfl,h1,h2,h⟩
 ·exact .inl h
 exact .inr ⟨g',cap,rfl,h1,h2,h.setOther _ _ (by have:=h.1;omega)⟩
theorem row_under {B e size n:Nat} {xs:List Value} (h:w.ownsRow B e size v n xs) (hb:Below w.heap.size w w'):w'.ownsRow B e size v n xs:=by
 obtain ⟨h1,h2⟩:=h
 refine ⟨h1,?_⟩
 rcases h2 with h2 | ⟨g,cap,cur,hv,hg,hh,r⟩
 ·exact .inl h2
 exact .inr ⟨g,cap,cur,hv,hg,by rw [hb.block g (Array.getElem?_eq_some_iff.1 hh).1];exact hh,r⟩
def OwnLL (lo:Nat) (w:World) (u:Value) (ps:List (Value × List Int)):Prop :=
 w.ownsRow lo 24 1 u ps.length (ps.map (·.1))/\∀ p∈ps,OwnV lo w p.1 p.2/\∀ g,u.ownBlock=some g->p.1.ownBlock≠some g
theorem OwnLL.nil (lo:Nat) (w:World):OwnLL lo w (.slice none 0 0) []:=⟨World.ownsRow_nil _ _ _ _,by simp⟩
theorem OwnLL.setOut {lo:Nat} {w:World} {u:Value} {ps:List (Value × List Int)} (h:OwnLL lo w u ps) (a:Addr) (ha:a.block<lo) (x:Value):OwnLL lo (w.setCell a x) u ps :=
 ⟨ownsRow_setCell_below h.1 ha _,λp hp=>⟨(h.2 p hp).1.setOut a ha _,(h.2 p hp).2⟩⟩
theorem OwnLL.below {lo:Nat} {w w':World} {u:Value} {ps:List (Value × List Int)} (h:OwnLL lo w u ps) (hb:Below w.heap.size w w'):OwnLL lo w' u ps :=
 ⟨row_under h.1 hb,λp hp=>⟨(h.2 p hp).1.below hb,(h.2 p hp).2⟩⟩
variable {u:Value}
theorem OwnLL.shape {ps:List (Value × List Int)} (h:OwnLL lo w u ps):∃ a c,u = .slice a ps.length c:=K4 h.1
theorem OwnLL.snoc {wr W w3:World} {u v':Value} {ps:List (Value × List Int)} {g cap:Nat} (h:OwnLL lo wr u ps) (hb:Below wr.heap.size wr W) (hv:OwnV wr.heap.size W v' xs) (hlo:lo<=wr.heap.size)
 (hown:w3.ownsRow lo 24 1 (.slice (some ⟨g,0,none⟩) (ps.length+1) cap) (ps.length+1) (ps.map (·.1)++[v'])) (hgrow:W.grownBy w3 u.ownBlock) (hat:u.ownBlock=some g\/W.heap.size<g) :
 OwnLL lo w3 (.slice (some ⟨g,0,none⟩) (ps.length+1) cap) (ps++[(v',xs)]):=by
 refine ⟨by simpa using hown,λp hp => ?_⟩
 have hu:∀ g,u.ownBlock=some g->g<wr.heap.size:=λg hg=>(h.1.lt _ hg).2
 have hO:OwnV lo W p.1 p.2/\∀ g,u.ownBlock=some g->p.1.ownBlock≠some g:=by
  rcases List.mem_append.1 hp with hp | hp
  ·exact ⟨(h.2 p hp).1.below hb,(h.2 p hp).2⟩
  obtain rfl:p=(v',xs):=by simpa using hp
  exact ⟨hv.mono hlo,λg hg e=>by have:=hu g hg;have:=hv.blk e;omega⟩
 refine ⟨hO.1.grw hgrow hO.2,λg' hg' e => ?_⟩
 have:g=g':=by simpa [Value.ownBlock] using hg'
 subst this
 rcases hat with hat | hat
 ·exact hO.2 _ hat e
 have:=(hO.1.blk e).2;omega
def IntsEl (lo:Nat) (w:World) (cs:List Value) (xs:List Int):Prop:=∃ v,cs=[v]/\IsInts lo w v xs
theorem IntsEl.stays:Stays IntsEl:=λ_ _ _ _ _ ⟨v,e,h⟩ hb=>⟨v,e,h.below hb⟩
theorem IntsEl.mono:Mono IntsEl:=λ_ _ _ _ _ ⟨v,e,h⟩ hl=>⟨v,e,h.mono hl⟩
theorem OwnLL.reads {ps:List (Value × List Int)} (h:OwnLL lo w u ps):IsSl 1 IntsEl lo w u (ps.map (·.2)):=by
 obtain ⟨⟨hl,h1⟩,h2⟩:=h
 rcases h1 with ⟨rfl,h0⟩ | ⟨g,cap,cur,rfl,hb,hg,hnc,hcm,hcs,htake⟩
 ·have:ps=[]:=List.eq_nil_of_length_eq_zero h0
  subst this
  exact ⟨none,0,rfl,by simp,by simp [maxLen],by simp,.inl rfl⟩
 refine ⟨some ⟨g,0,none⟩,cap,by simp,by simpa using hnc,hcm,(λe=>by cases e),.inr ⟨g,0,rfl,hb,(Array.getElem?_eq_some_iff.1 hg).1,λi hi => ?_⟩⟩
 have hi':i<ps.length:=by simpa using hi
 refine ⟨[(ps[i]'hi').1],rfl,λj hj => ?_,(ps[i]'hi').1,rfl,by simpa using (h2 _ (List.getElem_mem hi')).1.ints⟩
 obtain rfl:j=0:=by omega
 have:(ps.map (·.1))[i]? = some (ps[i]'hi').1:=by simp [hi']
 rw [<- htake,List.getElem?_take_of_lt (by omega)] at this
 simp only [World.cell?,hg]
 simpa using this
set_option maxHeartbeats 12800000
theorem ZeZ (h:IsInts lo w v xs) (hn:xs.length<=1000) :
 Calls Tryz.prog 29 #[v] w λe w'=>∃ v',e = .returned v'/\OwnV w.heap.size w' v' xs/\Below w.heap.size w w':=by
 have H:=h
 obtain ⟨a,cap,rfl,hl,hm,hi,hc⟩:=h
 obtain ⟨i0,hi0,hz0,hz1,hz2⟩:=info_int4
 have HI:=hid0 hi.1
 cases a with
 | none =>
   obtain rfl:cap=0:=hi.2 rfl
   have h0:xs.length=0:=by omega
   obtain rfl:xs=[]:=List.eq_nil_of_length_eq_zero h0
   clear hc hi hl hm h0 H
   have q22:∀ (w:World) (a:Option Addr) (n c n' c':Nat),(binOp .eql 24 (.slice a n c) (.slice none n' c')).run Tryz.prog w = .ok (.bool a.isNone) w:=λw a n c n' c'=>Lib.run_eql_slice_nil w _ _ a n c n' c' underlying24
   go_enter func29,ntmps29
   go_wp2_with fail
   go_ret
   exact ⟨_,rfl,.inl ⟨rfl,rfl⟩,Below.refl _ _⟩
 | some ad =>
   have HS:Hid (∀ w',Below w.heap.size w w'->∀ j u,(xs.map (Value.int .i64))[j]? = some u->w'.cell? (ad.add j)=some u):=hid0 λw' hb j u hj=>by
    have h0:0<xs.length:=by have:=(List.getElem?_eq_some_iff.1 hj).1;simp at this;omega
    obtain ⟨ad',e,hS⟩:=H.src h0
    cases e
    exact hS w' hb j u hj
   have hown:=World.ownsRow_lit (base:=w.heap.size) (e:=3) (size:=1) w #[] 0 (Nat.le_refl _) (by simp) (by simp)
   have HO:=hid0 hown
   clear hown hc hi
   have q22:∀ (w:World) (a:Option Addr) (n c n' c':Nat),(binOp .eql 24 (.slice a n c) (.slice none n' c')).run Tryz.prog w = .ok (.bool a.isNone) w:=λw a n c n' c'=>Lib.run_eql_slice_nil w _ _ a n c n' c' underlying24
   go_enter func29,ntmps29
   go_wp2_with (refine wpList_append_own _ rfl (.tmp 5) (.tmp 6) 24 rfl w.heap.size 3 i0 (.int .i64 0) 1 8 underlying24 hi0 hz0 hz1 hz2 rfl (by decide) _ _ _ rfl HO.out ad xs.length cap (xs.map (Value.int .i64)) rfl (by simp) (HS.out _ (by go_grown)) (by simp [Value.oneCell']) (by unfold maxLen;omega) (by omega) (by simp) ?_;intro v' w1 hown1 hgrow1 _)
   go_ret
   have hown2:w1.ownsRow w.heap.size 3 1 v' xs.length (xs.map (Value.int .i64)):=by simpa using hown1
   refine ⟨v',rfl,own_of_row hown2 HI.out,(Zm w _).grown hgrow1 (by simp) λk hk => ?_⟩
   have hk':some w.heap.size=some k:=hk
   injection hk' with hk'
   omega
theorem info_int:(Tryz.prog.info? 3).map (λi=>(i.zero,i.size,i.bytes))=some (some (.int .i64 0),1,8):=by kernel_rfl
theorem elInts:ElT Tryz.prog 50 24 (.slice none 0 0) 1 24:=⟨underlying50,by kernel_rfl,rfl,by decide⟩
theorem and_one:∀ m,m<256->bits BinOp.and IntKind.i64 (m:Nat) 1=((m % 2:Nat):Int):=by decide +kernel
variable {n:Nat}
theorem own_ints {f:Nat->Int} (h:OwnF lo w g n f) (hl:xs.length=n) (hn:n<=1000) (hx:∀ x∈xs,I64 x) (hf:∀ j,j<n->f j=xs.getD j 0):IsInts lo w (.slice (some ⟨g,0,none⟩) n n) xs:=by
 obtain ⟨h1,cur,t,hg,hc⟩:=h
 exact KF hg h1 hl (Nat.le_refl _) (by unfold maxLen;omega) hx (λi hi=>by rw [hc i hi,hf i hi])
theorem dig_small (n k:Nat):∀ x∈dig n k,I64 x:=by
 intro x hx
 obtain ⟨j,_,rfl⟩:=List.mem_map.1 hx
 have:=digF_small n k j
 constructor<;>omega
theorem ZcU (n:Nat) (h0:1<=n) (h1:n<=8) (w:World) :
 Calls Tryz.prog 13 #[.int .i64 n] w λe w'=>∃ u,e = .returned (.tuple #[u,.int .i64 0])/\(∃ ps,OwnLL (w.heap.size+1) w' u ps/\ps.map (·.2)=shL n)/\Below w.heap.size w w':=by
 have hmk:=make_n (P:=Tryz.prog) 24 3 _ 1 8 underlying24 info_int n (by omega) (by omega)
 obtain ⟨M,hM⟩:∃ M:Nat,M=2 ^ n:=⟨_,rfl⟩
 have hM2:M<=256:=by rw [hM];exact Nat.pow_le_pow_right (by omega) h1
 have hw:wrap64 ((2:Int) ^ n)=(M:Int):=by
  have e:((2:Int) ^ n)=(M:Int):=by rw [hM];simp
  rw [e];unfold wrap64;omega
 have HM:=Lib.hid hM
 clear hM
 go_enter func13,ntmps13
 go_wp2_with fail
 rw [hw]
 clear hw hmk
 obtain ⟨W,hW⟩:∃ W:World,W=w.alloc (.cells (madeCells #[Value.int IntKind.i64 0] n) 3):=⟨_,rfl⟩
 rw [<- hW]
 have HO0:=Lib.hid (show OwnF w.heap.size W w.heap.size n (λ_=>0) by
  rw [hW];exact ⟨Nat.le_refl _,_,_,heap_alloc_new _ _,λj hj=>made_get _ _ _ _ hj (by simp [Nat.mod_one])⟩)
 have HB0:=Lib.hid (show Below w.heap.size w W by rw [hW];exact Zm _ _)
 clear hW
 go_loopw [4,18] (λv u wr=>∃ (k:Nat) (a:Option Addr) (c:Nat) (ps:List (Value × List Int)) (f:Nat->Int),k<=M/\u = .int .i64 k/\v = .slice a ps.length c/\ps.map (·.2)=shK n k/\OwnLL (w.heap.size+1) wr (.slice a ps.length c) ps/\OwnF w.heap.size wr w.heap.size n f/\Below w.heap.size w wr) (λ_ u _=>M-(intOf u).toNat)
 case atStart=>exact ⟨0,none,0,[],λ_=>0,Nat.zero_le _,rfl,rfl,rfl,OwnLL.nil _ _,HO0.out,HB0.out⟩
 case round =>
  obtain ⟨k,a,c,ps,f,hk,rfl,rfl,hps,hL,hF,hB⟩:=hrel
  have HPS:=Lib.hid hps
  have HL:=Lib.hid hL
  have HF:=Lib.hid hF
  have HB:=Lib.hid hB
  have hpl:ps.length<=k:=by have:=congrArg List.length hps;simp at this;have:=shK_len n k;omega
  clear hps hL hF hB
  by_cases hlt:k<M
  ·go_wp2_with fail
   go_loopw [23] (λu w2=>∃ (i:Nat) (f:Nat->Int),i<=n/\u = .int .i64 i/\(∀ j,j<i->f j=digF n k j)/\OwnLL (w.heap.size+1) w2 (.slice a ps.length c) ps/\OwnF w.heap.size w2 w.heap.size n f/\Below w.heap.size w w2) (λu _=>n-(intOf u).toNat)
   case atStart=>exact ⟨0,f,Nat.zero_le _,rfl,λ_ h=>by omega,HL.out,HF.out,HB.out⟩
   case round =>
    obtain ⟨i,f',hi,rfl,hd,hL2,hF2,hB2⟩:=hrel
    have HD:=Lib.hid hd
    have HL2:=Lib.hid hL2
    have HF2:=Lib.hid hF2
    have HB2:=Lib.hid hB2
    have hgw:=hF2.lt
    clear hd hL2 hB2
    by_cases hlt2:i<n
    ·have c1:=hF2.cell i hlt2
     have c2:=hF2.frozen i
     have HE:=Lib.hid (show wrap64 (bits BinOp.and IntKind.i64 ((k:Int) / 2 ^ (n-1-i)) 1*2)=digF n k i by
      have e1:((k:Int) / 2 ^ (n-1-i))=((k / 2 ^ (n-1-i):Nat):Int):=by simp
      have e2:k / 2 ^ (n-1-i)<256:=by have:=Nat.div_le_self k (2 ^ (n-1-i));omega
      rw [e1,and_one _ e2]
      unfold digF wrap64;omega)
     clear hF2
     go_wp2_with fail
     go_roundw
     case rel =>
      refine ⟨i+1,up f' i (digF n k i),by omega,by go_num,λj hj => ?_,HL2.out.setOut _ (by simp) _,?_,HB2.out.setCell (by simp) _⟩
      ·by_cases e:j=i
       ·subst e;exact Yx _ _ _
       rw [Ka _ _ e];exact HD.out j (by omega)
      rw [<- HE.out];exact HF2.out.set i _
     case measure=>simp [intOf];omega
    obtain rfl:i=n:=by omega
    have HI:=Lib.hid (own_ints HF2.out (Ko i k) (by omega) (dig_small i k) (λj hj=>by rw [HD.out j hj,dig_get _ _ _ hj]))
    clear hF2 hlt2
    have HS0:=Lib.hid (shK_succ i k)
    cases hs:isShp (dig i k) i with
    | false =>
      have HS:Hid (shK i (k+1)=shK i k):=by
       show _=_
       have h:shp (dig i k)=false:=by unfold isShp at hs;simpa [Ko] using hs
       rw [HS0.out,h];rfl
      go_wp2_with (go_at_call 27;refine (Wv (i:Int) HI.out (by rw [Ko];omega)).mono ?_;rintro e w1 ⟨rfl,rfl⟩)
      go_roundw
      case rel=>exact ⟨k+1,a,c,ps,f',by omega,by go_num,rfl,by rw [HS.out];exact HPS.out,HL2.out,HF2.out,HB2.out⟩
      case measure=>simp [intOf];omega
    | true =>
      have HS:Hid (shK i (k+1)=shK i k++[dig i k]):=by
       show _=_
       have h:shp (dig i k)=true:=by unfold isShp at hs;simpa [Ko] using hs
       rw [HS0.out,h];rfl
      go_wp2_with (first | (go_at_call 27;refine (Wv (i:Int) HI.out (by rw [Ko];omega)).mono ?_;rintro e w1 ⟨rfl,rfl⟩) | (go_at_call 29;refine (ZeZ HI.out (by rw [Ko];omega)).mono ?_;rintro e w3 ⟨v',rfl,hv,hb⟩;have HV:=Lib.hid hv;have HB3:=Lib.hid hb;have hs3:=hb.size;obtain ⟨av,cv,rfl⟩:=hv.shape;clear hv hb) | (at_builtin;refine KJ elInts (by rfl) (.tmp 41) (.tmp 44) (by rfl) (w.heap.size+1) _ ps.length _ [.slice av (dig i k).length cv] w3.heap.size (by rfl) (by rfl) (by rfl) (HL2.out.below HB3.out).1 (by rfl) (by intro u hu;simp at hu;subst hu;rfl) (by omega) (by unfold maxLen;omega) (by omega) (by rfl) ?_;intro g cap w4 hown hgrow hat hlo hlt hsz))
      go_roundw
      case rel =>
       refine ⟨k+1,some ⟨g,0,none⟩,cap,ps++[(.slice av (dig i k).length cv,dig i k)],f',by omega,by go_num,by simp,?_,?_,?_,?_⟩
       ·rw [HS.out,List.map_append,HPS.out];rfl
       ·rw [List.length_append];exact OwnLL.snoc HL2.out HB3.out HV.out (by omega) hown hgrow hat
       ·exact (HF2.out.below HB3.out).grown hgrow (λe=>by have:=((HL2.out.below HB3.out).1.lt _ e).1;omega)
       exact (Zq HB2.out HB3.out).grown hgrow (by omega) (λj hj=>by have:=((HL2.out.below HB3.out).1.lt _ hj).1;omega)
      case measure=>simp [intOf];omega
  obtain rfl:k=M:=by omega
  go_wp2_with fail
  go_ret2
  refine ⟨_,rfl,⟨ps,HL.out,?_⟩,HB.out⟩
  rw [HPS.out,HM.out]
  rfl
theorem Shapes_ok (n:Nat) (h0:1<=n) (h1:n<=8) (w:World) :
 Calls Tryz.prog 13 #[.int .i64 n] w λe w'=>∃ u,e = .returned (.tuple #[u,.int .i64 0])/\IsSl 1 IntsEl w.heap.size w' u (shL n)/\Below w.heap.size w w' :=
 (ZcU n h0 h1 w).mono λe w' ⟨u,he,⟨ps,hL,hp⟩,hb⟩=>⟨u,he,by have:=hL.reads;rw [hp] at this;exact this.mono IntsEl.mono (by omega),hb⟩
theorem Zde (b off n cap:Nat) (w:World) (xs:List Int) (hx:xs.length=n) (hn:n<=1000000)
 (hc:∀ i,i<n->w.cell? ⟨b,off+i,none⟩=some (.int .i64 (xs.getD i 0))) :
 Calls Tryz.prog 81 #[.slice (some ⟨b,off,none⟩) n cap] w λe w'=>e = .returned (.bool (shp xs))/\w=w':=by
 have HC:=Lib.hid hc
 have HX:=Lib.hid hx
 clear hc hx
 go_enter func81,ntmps81
 go_wp2_with fail
 go_loop [3,4] (λv u=>∃ (k:Nat) (m:Int),k<=n/\u = .int .i64 k/\v = .int .i64 m/\0<=m/\m<=k+1/\shpF (xs.drop k) m=shp xs) (λ_ u=>n-(intOf u).toNat)
 case atStart=>exact ⟨0,1,Nat.zero_le _,rfl,rfl,by omega,by omega,rfl⟩
 case round =>
  obtain ⟨k,m,hk,rfl,rfl,h0,h1,hs⟩:=hrel
  have HS:=Lib.hid hs
  clear hs
  by_cases hlt:k<n
  ·have g1:=HC.out k hlt
   have HD:=Lib.hid (show shpF (xs.drop k) m=if m=0 then false else if xs.getD k 0≠0/\xs.getD k 0≠2 then false else shpF (xs.drop (k+1)) (m+xs.getD k 0-1) by
    have hd:xs.drop k=xs[k]'(by rw [HX.out];exact hlt)::xs.drop (k+1):=List.drop_eq_getElem_cons _
    rw [hd,shpF,show xs.getD k 0=xs[k]'(by rw [HX.out];exact hlt) by simp [List.getD,List.getElem?_eq_getElem (show k<xs.length by rw [HX.out];exact hlt)]])
   generalize hX:xs.getD k 0=x at g1 HD
   clear hX
   by_cases m0:m=0
   ·subst m0
    go_wp2_with fail
    go_ret
    exact ⟨Zt (by rw [<- HS.out,HD.out];simp),rfl⟩
   have m1:(m==0)=false:=by simpa using m0
   have M0:=Lib.hid m0
   have m2:1<=m:=by omega
   clear m0
   by_cases x0:x=0
   ·subst x0
    go_wp2_with fail
    go_round
    case rel=>exact ⟨k+1,m-1,by omega,by go_num,by go_num,by omega,by omega,by rw [<- HS.out,HD.out,if_neg M0.out,if_neg (by omega)];congr 1;omega⟩
    case measure=>simp [intOf];omega
   by_cases x2:x=2
   ·subst x2
    go_wp2_with fail
    go_round
    case rel=>exact ⟨k+1,m+1,by omega,by go_num,by go_num,by omega,by omega,by rw [<- HS.out,HD.out,if_neg M0.out,if_neg (by omega)];congr 1;omega⟩
    case measure=>simp [intOf];omega
   have x3:(x != 0)=true:=by simpa using x0
   have x4:(x != 2)=true:=by simpa using x2
   have XX:=Lib.hid (And.intro x0 x2)
   clear x0 x2
   go_wp2_with fail
   go_ret
   exact ⟨Zt (by rw [<- HS.out,HD.out,if_neg M0.out,if_pos XX.out]),rfl⟩
  have HE:=Lib.hid (show shp xs=(m==0) by
   rw [<- HS.out,List.drop_eq_nil_of_le (by rw [HX.out];omega),shpF];rfl)
  go_wp2_with fail
  go_ret
  exact ⟨Zt (by rw [HE.out]),rfl⟩
theorem Zcl (a:Option Addr) (cap:Nat) (w:World) :
 Calls Tryz.prog 81 #[.slice a 0 cap] w λe w'=>e = .returned (.bool (shp []))/\w=w':=by
 go_enter func81,ntmps81
 go_wp2_with fail
 refine wp_loop_rounds 1 ?_
 rw [rounds_succ]
 go_wp2_with fail
 go_ret
 exact ⟨rfl,rfl⟩
theorem Zeh (h:IsInts lo w v xs) (hn:xs.length<=1000000) :
 Calls Tryz.prog 81 #[v] w λe w'=>e = .returned (.bool (shp xs))/\w=w':=by
 obtain ⟨a,cap,rfl,hl,hm,hi,hc⟩:=h
 rcases hc with rfl | ⟨b,off,rfl,_,_,hc⟩
 ·exact Zcl _ _ _
 exact Zde _ _ _ _ _ _ rfl hn hc
theorem Shapes_bad (n:Int) (h:n<1\/8<n) (w:World) :
 Calls Tryz.prog 13 #[.int .i64 n] w λe w'=>e = .returned (.tuple #[.slice none 0 0,.int .i64 1])/\w=w':=by
 by_cases h1:n<1
 ·go_enter func13,ntmps13
  go_wp2_with fail
  go_ret2
  exact ⟨rfl,rfl⟩
 have h2:8<n:=by omega
 go_enter func13,ntmps13
 go_wp2_with fail
 go_ret2
 exact ⟨rfl,rfl⟩
theorem shL_five:shL 5=[[2,0,2,0,0],[2,2,0,0,0]]:=by decide +kernel
theorem nbr_known (w:World):Calls Tryz.prog 12 #[.int .i64 3,.slice none 0 0,.int .i64 2,.int .i64 0] w λe w'=>e = .returned (.tuple #[.int .i64 1,.int .i64 1,.int .i64 (-1)])/\Below w.heap.size w w':=by
 have h:=ZdF (lo:=0) (w:=w) (v := .slice none 0 0) (xs:=[]) 3 2 0 ⟨none,0,rfl,by simp,by simp [maxLen],by simp,.inl rfl⟩ (by simp) (by omega)
 have e:nbr 3 [] 2 0=(1,1,-1):=by decide
 rw [e] at h
 exact h
theorem ZdZ (w:World):Calls Tryz.prog 13 #[.int .i64 5] w λe w'=>∃ u,e = .returned (.tuple #[u,.int .i64 0])/\IsSl 1 IntsEl w.heap.size w' u [[2,0,2,0,0],[2,2,0,0,0]]/\Below w.heap.size w w':=by
 have h:=Shapes_ok 5 (by omega) (by omega) w
 rw [shL_five] at h
 exact h
variable {t:TypeId}
theorem lit5 (h:w.heap[g]? = some (.cells #[.int .i64 2,.int .i64 0,.int .i64 2,.int .i64 0,.int .i64 0] t (0,0))):IsInts 0 w (.slice (some ⟨g,0,none⟩) 5 5) [2,0,2,0,0] :=
 KF (xs:=[2,0,2,0,0]) h (Nat.zero_le _) rfl (Nat.le_refl _) (by simp [maxLen]) (λx hx=>by have:x=0\/x=2:=(by simp at hx;omega);constructor<;>omega)
  λi hi=>match i,hi with
   | 0,_=>rfl
   | 1,_=>rfl
   | 2,_=>rfl
   | 3,_=>rfl
   | 4,_=>rfl
theorem zknown_any (w:World):Calls Tryz.prog 6 #[] w λe w'=>e = .returned (.bool true)/\Below w.heap.size w w':=by
 go_enter func6,ntmps6
 go_wp2_with (first | (go_at_call 12;refine (nbr_known _).mono ?_;rintro e w1 ⟨rfl,hb1⟩;have HB1:=Lib.hid hb1;clear hb1) | (go_at_call 13;refine (ZdZ _).mono ?_;rintro e w2 ⟨u,rfl,hu,hb2⟩;obtain ⟨au,cu,rfl⟩:=hu.shape;obtain ⟨b,off,cs,rfl,hlb,hbw,_,hcell,v0,rfl,hv0⟩:=hu.at 0 (by simp);obtain ⟨a0,c0,rfl⟩:=hv0.shape;have g0:=hcell 0 (by omega);have HB2:=Lib.hid (Zq HB1.out hb2);have HV:=Lib.hid hv0;simp only [Nat.zero_mul,Nat.add_zero,List.getElem?_cons_zero] at g0;clear hcell hv0 hu hb2) | (go_at_call 14;refine (ZeV (HV.out.below (by go_grown)) (lit5 (Kf _ _ (by go_size)))).mono ?_;rintro e w3 ⟨rfl,hb3⟩))
 go_ret
 exact ⟨rfl,Zq HB2.out (Below.trans (by go_grown) (hb3.mono (by go_size)))⟩
variable {J:World->Prop}
def cLi (xs:List Int):List AV:=[Zc xs]
theorem lenLi (xs:List Int):(cLi xs).length=1:=rfl
theorem Zbp (xs:List Int):∀ X∈cLi xs,Plain X:=by
 intro X hX
 simp only [cLi,List.mem_cons,List.not_mem_nil,or_false] at hX
 rw [hX];exact Zx _
namespace Sh
abbrev InOk (xs:List Int):Prop:=∀ x∈xs,I64 x
section
variable {P:Program} {f:FuncId}
theorem ctr2 {A B u:AV} (H:∀ (w:World) (v v':Value),(∀ w',Below w.heap.size w w'->J w')->Pu (λ_=>True) w (λb=>b<w.heap.size) A v->Pu (λ_=>True) w (λb=>b<w.heap.size) B v'->Calls P f #[v,v'] w λe w'=>∃ v,e = .returned v/\Pu (w.heap.size <= ·) w' (nw w' w.heap.size) u v/\Below w.heap.size w w'):Ctr P J f [A,B] u:=λw vs hJ hl hv=>by
 obtain ⟨v,v',rfl⟩:∃ v v',vs = #[v,v']:=by
  match vs,hl with
  | ⟨[v,v']⟩,_=>exact ⟨v,v',rfl⟩
 exact H w v v' hJ (hv 0 (by simp)) (hv 1 (by simp))
theorem ret_sc {r:Value} {e:Ending} (h:e = .returned r/\Below w.heap.size w w'):∃ v,e = .returned v/\Pu (w.heap.size <= ·) w' (nw w' w.heap.size) (.v r) v/\Below w.heap.size w w':=⟨r,h.1,.v r,h.2⟩
end
def sR:Nat->List (List Int)
 | 1=>[[0]]
 | 3=>[[2,0,0]]
 | 5=>[[2,0,2,0,0],[2,2,0,0,0]]
 | 7=>[[2,0,2,0,2,0,0],[2,0,2,2,0,0,0],[2,2,0,0,2,0,0],[2,2,0,2,0,0,0],[2,2,2,0,0,0,0]]
 | _=>[]
theorem odd4 (h:n<=7) (ho:n % 2=1):n=1\/n=3\/n=5\/n=7:=by omega
theorem sR_len (h:n<=7) (ho:n % 2=1):(sR n).length<=5:=by
 rcases odd4 h ho with rfl | rfl | rfl | rfl<;>decide
theorem sR_mem (h:n<=7) (ho:n % 2=1):∀ xs∈sR n,xs.length<=7/\InOk xs:=by
 rcases odd4 h ho with rfl | rfl | rfl | rfl<;>(intro xs hx;simp only [sR,List.mem_cons,List.not_mem_nil,or_false] at hx)
 all_goals
  have key:∀ ys:List Int,(∀ y∈ys,y=0\/y=2)->InOk ys:=λys hy y hm=>by
   rcases hy y hm with rfl | rfl<;>(unfold I64;omega)
 ·subst hx;exact ⟨by decide,key _ (by decide)⟩
 ·subst hx;exact ⟨by decide,key _ (by decide)⟩
 ·rcases hx with rfl | rfl<;>exact ⟨by decide,key _ (by decide)⟩
 rcases hx with rfl | rfl | rfl | rfl | rfl<;>exact ⟨by decide,key _ (by decide)⟩
def shX (n:Int):List (List Int):=if n<1\/8<n then [] else if n % 2=0 then [] else sR n.toNat
def shZ (n:Int):Int:=if n<1\/8<n then 1 else 0
theorem shL_eq:∀ n,1<=n->n<=8->shL n=shX (n:Nat):=by
 intro n h1 h8
 obtain rfl | rfl | rfl | rfl | rfl | rfl | rfl | rfl:n=1\/n=2\/n=3\/n=4\/n=5\/n=6\/n=7\/n=8:=by omega
 all_goals decide +kernel
theorem shX_mem (n:Int):∀ xs∈shX n,xs.length<=7/\InOk xs:=by
 unfold shX
 split
 ·intro xs h;cases h
 split
 ·intro xs h;cases h
 exact sR_mem (by omega) (by omega)
theorem shX_len (n:Int):(shX n).length<=5:=by
 unfold shX
 split
 ·simp
 split
 ·simp
 exact sR_len (by omega) (by omega)
variable {n0:Nat}
theorem owni_pu (hlo:n0<=lo) (h:OwnV lo w v xs):Pu (n0 <= ·) w (nw w n0) (Zc xs) v:=by
 rcases h with ⟨rfl,rfl⟩ | ⟨g,cap,rfl,hl,hm,h1,h2,h3,cur,t,hg,hc⟩
 ·exact .sl0 (by simp [maxLen]) (by simp)
 refine .sl (f:=λi => .int .i64 (xs.getD i 0)) (by simp) hl hm ⟨Nat.le_trans hlo h1,_,_,hg⟩ (Array.getElem?_eq_some_iff.1 hg).1 (λj hj => ?_) λj hj => ?_
 ·have:=hc j (by simpa using hj)
  simp only [World.cell?,hg]
  simpa using this
 have:j<xs.length:=by simpa using hj
 simp only [List.getElem_map]
 have e:xs.getD j 0=xs[j]:=by simp [this]
 rw [e];exact .v _
theorem ownll_pu {ps:List (Value × List Int)} (hlo:n0<=lo) (h:OwnLL lo w u ps):Pu (n0 <= ·) w (nw w n0) (slA 1 cLi (ps.map (·.2))) u:=by
 obtain ⟨⟨hl,h1⟩,h2⟩:=h
 rcases h1 with ⟨rfl,h0⟩ | ⟨g,cap,cur,rfl,hb,hg,hnc,hcm,hcs,htake⟩
 ·have:ps=[]:=List.eq_nil_of_length_eq_zero h0
  subst this
  exact .sl0 (by simp [maxLen]) (by simp)
 have e0:∀ L:List (Value × List Int),(L.map (·.2)).flatMap cLi=L.map λp=>Zc p.2:=λL=>by
  induction L with
  | nil=>rfl
  | cons p L ih=>simp only [List.map_cons,List.flatMap_cons,ih];rfl
 have:slA 1 cLi (ps.map (·.2)) = .sl 1 ps.length (ps.map λp=>Zc p.2):=by
  unfold slA
  rw [e0,List.length_map]
 rw [this]
 refine .sl (f:=λj=>((ps.map (·.1))[j]?).getD undef) (by simp) (by simpa using hnc) hcm ⟨Nat.le_trans hlo hb,_,_,hg⟩ (Array.getElem?_eq_some_iff.1 hg).1 (λj hj => ?_) λj hj => ?_
 ·have hj':j<ps.length:=by simpa using hj
  have:(ps.map (·.1))[j]? = some (ps[j]'hj').1:=by simp [hj']
  rw [this]
  rw [<- htake,List.getElem?_take_of_lt (by simpa using hj')] at this
  simp only [World.cell?,hg]
  simpa using this
 have hj':j<ps.length:=by simpa using hj
 have:(ps.map (·.1))[j]? = some (ps[j]'hj').1:=by simp [hj']
 rw [this]
 simp only [List.getElem_map,Option.getD_some]
 exact owni_pu hlo (h2 _ (List.getElem_mem hj')).1
theorem Shapes_n (n:Int):Ctr Tryz.prog J 13 [iv n] (.tup [slA 1 cLi (shX n),iv (shZ n)]):=λw vs _ hl hv=>by
 match vs,hl,hv with
 | ⟨[v0]⟩,_,hv =>
   obtain rfl:=(hv 0 (by simp)).v_inv
   by_cases h:n<1\/8<n
   ·have e1:shX n=[]:=by unfold shX;rw [if_pos h]
    have e2:shZ n=1:=by unfold shZ;rw [if_pos h]
    rw [e1,e2]
    refine (Shapes_bad n h w).mono λe w' ⟨he,hw⟩=>⟨_,he,?_,by rw [<- hw];exact Below.refl _ _⟩
    exact .tup rfl λj hj=>(match j,hj with
     | 0,_ => .sl0 (by simp [maxLen]) (by simp)
     | 1,_ => .v _)
   obtain ⟨m,rfl⟩:=Int.eq_ofNat_of_zero_le (show 0<=n by omega)
   have e2:shZ (m:Int)=0:=by unfold shZ;rw [if_neg h]
   rw [e2,<- shL_eq m (by omega) (by omega)]
   refine (ZcU m (by omega) (by omega) w).mono λe w' ⟨u,he,⟨ps,hL,hp⟩,hb⟩=>⟨_,he,?_,hb⟩
   rw [<- hp]
   exact .tup rfl λj hj=>(match j,hj with
    | 0,_=>ownll_pu (Nat.le_succ _) hL
    | 1,_ => .v _)
theorem zknown_c:Ctr Tryz.prog J 6 [] bT:=λw vs _ hl _=>by
 have:vs = #[]:=Array.eq_empty_of_size_eq_zero (by simpa using hl)
 subst this
 exact (zknown_any w).mono λ_ _=>ret_sc
end Sh
structure FamLen (q:Fm):Prop where
 sz:q.sz.length<=60
 msgs:q.msgs.length<=60
 vals:q.vals.length<=60
 res:q.res.length<=60
 init:q.init.length<=60
 lz:q.lz.length<=60
 lrules:q.rz.length<=30
 rz:∀ r∈q.rz,RuLen r
variable {q:Fm}
theorem famLen (h:bigF q=false):FamLen q:=by
 unfold bigF at h
 simp only [Bool.or_eq_false_iff,decide_eq_false_iff_not] at h
 obtain ⟨⟨⟨⟨⟨⟨⟨⟨⟨⟨⟨h0,h1⟩,h2⟩,h3⟩,h4⟩,h5⟩,h6⟩,h7⟩,h8⟩,_⟩,_⟩,_⟩:=h
 refine ⟨by omega,by omega,by omega,by omega,by omega,by omega,by omega,λr hr => ?_⟩
 unfold bigRk at h8
 rw [List.take_length,List.any_eq_false] at h8
 have h9:=h8 r hr
 have h10:bigR r=false:=by simpa using h9
 unfold bigR at h10
 simp only [Bool.or_eq_false_iff,decide_eq_false_iff_not] at h10
 obtain ⟨⟨⟨⟨⟨⟨⟨⟨_,a1⟩,a2⟩,a3⟩,a4⟩,a5⟩,a6⟩,a7⟩,a8⟩:=h10
 exact ⟨by omega,by omega,by omega,by omega,by omega,by omega,by omega,by omega⟩
end Go.Proofs.YtmpgnibfhjdfpaaGreat
namespace Go.Proofs.YtmpgnibfhjdfpaaGreat
open Go.RowKit Go.Deep Tryz
deriving instance DecidableEq for Ru
deriving instance DecidableEq for Fm
variable {J:World->Prop}
theorem eqIntsG (xs ys:List Int) (hx:InOk xs) (hy:InOk ys):Ctr Tryz.prog J 59 [Zc xs,Zc ys] (bv (decide (xs=ys))):=eqIntsS xs ys hx hy
structure SP (r s:Ru):Prop where
 n9:[r.kind,r.frm,r.to,r.pf,r.pt,r.rd,r.wr,r.pos,r.dir]=[s.kind,s.frm,s.to,s.pf,s.pt,s.rd,s.wr,s.pos,s.dir]
 resp:r.resp=s.resp
 gz:r.gz=s.gz
 ex:r.ex=s.ex
 fa:r.fa=s.fa
 send:r.send=s.send
 left:r.left=s.left
 right:r.right=s.right
 pz:r.pz=s.pz
end Go.Proofs.YtmpgnibfhjdfpaaGreat
namespace Go.Proofs.YtmpgnibfhjdfpaaGreat
open Go.RowKit Go.Deep Tryz
structure Cf where
 sh:List Int
 st:List Int
 cor:Int
 se:List Int
 fa:List Int
 val:Int
def IsCf (lo:Nat) (w:World) (v:Value) (q:Cf):Prop :=
 ∃ u0 u1 u3 u4,v = .agg #[u0,u1,.int .i64 q.cor,u3,u4,.int .i64 q.val]/\IsInts lo w u0 q.sh/\IsInts lo w u1 q.st/\I64 q.cor/\IsInts lo w u3 q.se/\IsInts lo w u4 q.fa/\I64 q.val
theorem IsCf.below {lo:Nat} {w w':World} {v:Value} {q:Cf} (h:IsCf lo w v q) (hb:Below w.heap.size w w'):IsCf lo w' v q:=by
 obtain ⟨u0,u1,u3,u4,e,h0,h1,h2,h3,h4,h5⟩:=h
 exact ⟨u0,u1,u3,u4,e,h0.below hb,h1.below hb,h2,h3.below hb,h4.below hb,h5⟩
variable {J:World->Prop}
section
variable {P:Program} {o:Oper}
variable {n:Nat}
theorem sp_makeZ {t e k bytes z:Nat} {zv:Value} (fr:Bool) {kl kc:IntKind} {x y:Operand} (ho:o.op = .makeSlice t x y) (hu:P.underlying t=some (.slice e)) (hi:(P.info? e).map (λi=>(i.size,i.bytes,i.zero))=some (z,bytes,some zv)) (hz:zv.cells.size=z) (h0:0<z)
 (hb:bytes*n<=281474976710656) (h63:n<=maxLen) {cs:List AV} (hcs:(List.range (n*z)).map (λj=>AV.v (zv.cells.getD (j % z) undef))=cs) :
 ASpec P J o [(x,.v (.int kl (n:Int))),(y,.v (.int kc (n:Int)))] [] (.own k) (.new k (.row fr e z n cs)) :=
 We fun ρ B a w _ hB ha _ hk=>by
  subst hcs
  obtain ⟨i,hi1,hi2⟩:=Option.map_eq_some_iff.1 hi
  simp only [Prod.mk.injEq] at hi2
  obtain ⟨e1,e2,e3⟩:=hi2
  have hx:=(ha (x,.v (.int kl (n:Int))) (by simp)).v_inv
  have hy:=(ha (y,.v (.int kc (n:Int))) (by simp)).v_inv
  have hsz:(madeCells zv.cells (n*z)).size=n*z:=size_madeCells _ _
  have hget:∀ j,j<n*z->(madeCells zv.cells (n*z))[j]? = some (zv.cells.getD (j % z) undef):=λj hj=>by
   have hlt:j % zv.cells.size<zv.cells.size:=Nat.mod_lt _ (by omega)
   have hlt':j % z<zv.cells.size:=by rw [<- hz];exact hlt
   subst hz
   simp [madeCells,hj,Array.getD,hlt]
  have hrun:=run_make (P:=P) w t e i zv hu hi1 e3 kl kc n n (by omega) (by omega) (by rw [e2];have:=hb;omega) (by have:=h63;simp only [maxLen] at this;omega)
  simp only [Int.toNat_natCast,e1] at hrun
  refine ⟨_,n,n,madeCells zv.cells (n*z),e,?_,.own (nm := .at w.heap.size n n) (Yc _ _ _),(madeCells zv.cells (n*z)).toList,⟨by simp [hsz],.inr ⟨w.heap.size,n,madeCells zv.cells (n*z),rfl,Zdd hB,heap_alloc_new w _,Nat.le_refl _,h63,hsz,by rw [List.take_of_length_le];simp [hsz]⟩⟩,by simp [hsz],λj hj => ?_⟩
  ·simp only [execOp,ho,hx,hy]
   exact Z7 hrun
  have hj':j<n*z:=by simpa using hj
  have:(madeCells zv.cells (n*z)).toList.getD j undef=zv.cells.getD (j % z) undef:=by
   rw [List.getD_eq_getElem?_getD,Array.getElem?_toList,hget j hj'];rfl
  rw [this]
  simp only [List.getElem_map,List.getElem_range]
  exact .v _
end
theorem Zcv (ds:List AV):∀ (A C D:List AV),C.length=ds.length->setAll (A++C++D) A.length ds=A++ds++D:=by
 induction ds with
 | nil=>intro A C D h;rw [List.eq_nil_of_length_eq_zero h];rfl
 | cons d ds ih =>
   intro A C D h
   cases C with
   | nil=>cases h
   | cons c C =>
     rw [setAll]
     have e:(A++c::C++D).set A.length d=(A++[d])++C++D:=by
      rw [List.append_assoc,List.set_append_right _ _ (Nat.le_refl _)]
      simp
     rw [e]
     have:=ih (A++[d]) C D (by simpa using h)
     simp only [List.length_append,List.length_cons,List.length_nil,Nat.zero_add] at this
     rw [this]
     simp
set_option maxRecDepth 100000
set_option maxHeartbeats 6400000
def evB (q:Fm) (n:Int):Bool:=decide (q.top=4)&&decide (n.tmod 2=0)
theorem ZdI (l:Ln) (a b d:Int):Ctr Tryz.prog J 102 [.agg (cLn l),.agg (cSz a b d)] (iv (linV l.c l.n l.t l.f a b d)):=ctr2 λw v v' _ h h'=>by
 obtain ⟨vs,rfl,hl,hv⟩:=Yt h
 have e:vs=[.int .i64 l.c,.int .i64 l.n,.int .i64 l.t,.int .i64 l.f]:=by
  rw [cells4 hl,(hv 0 (by simp [cLn])).v_inv,(hv 1 (by simp [cLn])).v_inv,(hv 2 (by simp [cLn])).v_inv,(hv 3 (by simp [cLn])).v_inv]
 subst e
 rw [sz_of h']
 exact (Kk l.c l.n l.t l.f a b d w).mono λ_ _=>ret_sc
theorem YY (n lo hi:Int):Ctr Tryz.prog J 88 [iv n,iv lo,iv hi] (bv (inB lo hi n)):=ctr3 λw v v' v'' _ h h' h''=>by
 rw [h.v_inv,h'.v_inv,h''.v_inv];exact (Z4 n lo hi w).mono λ_ _=>Zay
variable {q:Fm}
theorem adm_o {n t f:Int} (h:radA n t f=false) (hr:resvK q n t f q.res.length=true) (hn:nofB q t f=false) (he:evB q n=false):admB q n t f=true:=by
 have h2:resvB q n t f=true:=by unfold resvK at hr;rwa [List.take_length] at hr
 obtain ⟨a,b,c⟩:=radA_f h
 rw [Zdk] at hn
 unfold evB at he
 unfold admB
 rw [a,b,c,hn,he,h2];rfl
theorem adm_v {n t f:Int} (he:evB q n=true):admB q n t f=false:=by
 unfold evB at he
 unfold admB
 rw [he];simp
theorem admits_c (HQ:FmOk q) (n t f:Int):Ctr Tryz.prog J 100 [.agg (cFm q),.agg (cSz n t f)] (bv<|admB q n t f):=by
 have l5:=HQ.lres
 refine Zn func100 rfl (pN (Zg<|Zy q)<|pN (Zg<|λX hX=>by simp only [cSz,List.mem_cons,List.not_mem_nil,or_false] at hX;rcases hX with rfl | rfl | rfl<;>exact .v _) pZ) (n:=64) rfl (by simp)<|λw0 => ?_
 refine jB<|oX 1 (.agg (cFm q))<|oX 2 (.agg (cSz n t f))<|oS bF<|jD<|Zh<|Zi<|Ye (True) (ofL [(1,.box 27 (cFm q)),(2,.box 32 (cSz n t f))]) (ofT 64 [(2,bx 1),(3,bx 2),(4,bF),(7,bv (radA n t f))]) ?_<|λ_ => ?_
 by_cases hs1:(inB 1 1048576 n)=true
 by_cases hs2:(inB 0 n t)=true
 by_cases hs3:(inB 0 n f)=true
 refine Za<|W2<|oK (Zo (YY n 1 1048576) hs1) [iv n,iv 1,iv 1048576] rfl rfl<|oF bF<|W4<|oK (Zo (YY t 0 n) hs2) [iv t,iv 0,iv n] rfl rfl<|oW<|oF bF<|W4<|oK (Zo (YY f 0 n) hs3) [iv f,iv 0,iv n] rfl rfl<|oW<|oF bF<|kN 64 [(1,.box 27 (cFm q)),(2,.box 32 (cSz n t f))] [(2,bx 1),(3,bx 2),(4,bF),(7,bF)] ?_
 rw [show (radA n t f)=false by simp [radA,hs1,hs2,hs3]]
 exact tM T0
 have hs3f:(inB 0 n f)=false:=by simpa using hs3
 refine Za<|W2<|oK (Zo (YY n 1 1048576) hs1) [iv n,iv 1,iv 1048576] rfl rfl<|oF bF<|W4<|oK (Zo (YY t 0 n) hs2) [iv t,iv 0,iv n] rfl rfl<|oW<|oF bF<|W4<|oK (Zo (YY f 0 n) hs3f) [iv f,iv 0,iv n] rfl rfl<|oW<|oF bT<|kN 64 [(1,.box 27 (cFm q)),(2,.box 32 (cSz n t f))] [(2,bx 1),(3,bx 2),(4,bF),(7,bT)] ?_
 rw [show (radA n t f)=true by simp [radA,hs1,hs2,hs3f]]
 exact tM T0
 have hs2f:(inB 0 n t)=false:=by simpa using hs2
 refine Za<|W2<|oK (Zo (YY n 1 1048576) hs1) [iv n,iv 1,iv 1048576] rfl rfl<|oF bF<|W4<|oK (Zo (YY t 0 n) hs2f) [iv t,iv 0,iv n] rfl rfl<|oW<|oF bT<|V5<|qK<|oF bT<|kN 64 [(1,.box 27 (cFm q)),(2,.box 32 (cSz n t f))] [(2,bx 1),(3,bx 2),(4,bF),(7,bT)] ?_
 rw [show (radA n t f)=true by simp [radA,hs1,hs2f]]
 exact tM T0
 have hs1f:(inB 1 1048576 n)=false:=by simpa using hs1
 refine Za<|W2<|oK (Zo (YY n 1 1048576) hs1f) [iv n,iv 1,iv 1048576] rfl rfl<|oF bT<|V5<|qK<|oF bT<|V5<|qK<|oF bT<|kN 64 [(1,.box 27 (cFm q)),(2,.box 32 (cSz n t f))] [(2,bx 1),(3,bx 2),(4,bF),(7,bT)] ?_
 rw [show (radA n t f)=true by simp [radA,hs1f]]
 exact tM T0
 refine Zf ?_
 by_cases hs4:(radA n t f)=true
 rw [hs4]
 exact jK<|oS bF<|jE<|Ze<|Zb<|Zd results100 (.tmp rfl)<|cB<|(adm_a hs4).symm
 have hs4f:(radA n t f)=false:=by simpa using hs4
 rw [hs4f]
 refine Zu rfl<|Zi<|Ye (True) (ofL [(1,.box 27 (cFm q)),(2,.box 32 (cSz n t f))]) (ofT 64 [(2,bx 1),(3,bx 2),(4,bF),(28,bv (nofB q t f))]) ?_<|λ_ => ?_
 by_cases hs5:q.fzz=0
 by_cases hs6:t=0
 by_cases hs7:f=0
 refine Za<|W2<|oe (dT hs5)<|oS bT<|W2<|on (dT' hs6)<|oS bF<|W2<|on (dT' hs7)<|oW<|oF bF<|kN 64 [(1,.box 27 (cFm q)),(2,.box 32 (cSz n t f))] [(2,bx 1),(3,bx 2),(4,bF),(28,bF)] ?_
 rw [show (nofB q t f)=false by simp [nofB,hs5,hs6,hs7]]
 exact tM T0
 refine Za<|W2<|oe (dT hs5)<|oS bT<|W2<|on (dT' hs6)<|oS bF<|W2<|on (dF' hs7)<|oW<|oF bT<|kN 64 [(1,.box 27 (cFm q)),(2,.box 32 (cSz n t f))] [(2,bx 1),(3,bx 2),(4,bF),(28,bT)] ?_
 rw [show (nofB q t f)=true by simp [nofB,hs5,hs6,hs7]]
 exact tM T0
 refine Za<|W2<|oe (dT hs5)<|oS bT<|W2<|on (dF' hs6)<|oS bT<|V3<|oW<|oF bT<|kN 64 [(1,.box 27 (cFm q)),(2,.box 32 (cSz n t f))] [(2,bx 1),(3,bx 2),(4,bF),(28,bT)] ?_
 rw [show (nofB q t f)=true by simp [nofB,hs5,hs6]]
 exact tM T0
 refine Za<|W2<|oe (dF hs5)<|oS bF<|V5<|V3<|oF bF<|kN 64 [(1,.box 27 (cFm q)),(2,.box 32 (cSz n t f))] [(2,bx 1),(3,bx 2),(4,bF),(28,bF)] ?_
 rw [show (nofB q t f)=false by simp [nofB,hs5]]
 exact tM T0
 refine Zf ?_
 by_cases hs8:(nofB q t f)=true
 rw [hs8]
 exact jK<|oS bF<|jE<|Ze<|Zb<|Zd results100 (.tmp rfl)<|cB<|(adm_f hs8).symm
 have hs8f:(nofB q t f)=false:=by simpa using hs8
 rw [hs8f]
 refine Zu rfl<|Zi<|Ye (True) (ofL [(1,.box 27 (cFm q)),(2,.box 32 (cSz n t f))]) (ofT 64 [(2,bx 1),(3,bx 2),(4,bF),(42,bv (evB q n))]) ?_<|λ_ => ?_
 by_cases hs9:q.top=4
 by_cases hs10:n.tmod 2=0
 refine Za<|W2<|oe (dT hs9)<|oS bT<|oF (iv n)<|gC (ZdU rfl (by omega) (c:=n.tmod 2) rfl) I0 I0<|oe (dT hs10)<|oF bT<|kN 64 [(1,.box 27 (cFm q)),(2,.box 32 (cSz n t f))] [(2,bx 1),(3,bx 2),(4,bF),(42,bT)] ?_
 rw [show (evB q n)=true by simp [evB,hs9,hs10]]
 exact tM T0
 refine Za<|W2<|oe (dT hs9)<|oS bT<|oF (iv n)<|gC (ZdU rfl (by omega) (c:=n.tmod 2) rfl) I0 I0<|oe (dF hs10)<|oF bF<|kN 64 [(1,.box 27 (cFm q)),(2,.box 32 (cSz n t f))] [(2,bx 1),(3,bx 2),(4,bF),(42,bF)] ?_
 rw [show (evB q n)=false by simp [evB,hs9,hs10]]
 exact tM T0
 refine Za<|W2<|oe (dF hs9)<|oS bF<|V4<|oF bF<|kN 64 [(1,.box 27 (cFm q)),(2,.box 32 (cSz n t f))] [(2,bx 1),(3,bx 2),(4,bF),(42,bF)] ?_
 rw [show (evB q n)=false by simp [evB,hs9]]
 exact tM T0
 refine Zf ?_
 by_cases hs11:(evB q n)=true
 rw [hs11]
 exact jK<|oS bF<|jE<|Ze<|Zb<|Zd results100 (.tmp rfl)<|cB<|(adm_v hs11).symm
 have hs11f:(evB q n)=false:=by simpa using hs11
 rw [hs11f]
 refine Zu rfl<|Zj<|Zs<|jC<|jB<|oF (slA 4 cLn q.res)<|oS (iv q.res.length)<|oS (iv 0)<|jA<|Zh<|Zw (σ:={k:Nat // k<=q.res.length/\resvK q n t f k=true}) (λs=>(ofL [(2,.box 32 (cSz n t f))],ofT 64 [(3,bx 2),(53,slA 4 cLn q.res),(54,iv q.res.length),(55,iv s.1)])) (λs=>q.res.length-s.1) ⟨0,Nat.zero_le _,rfl⟩ (Zk _ _)<|λs => ?_
 obtain ⟨k,hk0,hs0⟩:=s
 show ETri J w0 (ofL [(2,.box 32 (cSz n t f))]) (ofT 64 [(3,bx 2),(53,slA 4 cLn q.res),(54,iv q.res.length),(55,iv k)]) _
 refine Zi ?_
 by_cases hs12:(k:Int)<(q.res.length:Int)
 refine Za<|ol (dT hs12)<|jD<|ZM rfl<|Zj<|jC<|Zh<|jB<|oC (xS (k*4) 53 55 U23) I0 I0<|oA (Zl (z:=4) (.tmp 57) rfl U116 rfl (by kernel_rfl) (ZJ lenLn q.res k<|by omega) rfl) I0<|oZ 3 Z116<|oY<|kN 64 [(2,.box 32 (cSz n t f)),(3,.box 116 (cLn q.res[k]))] [(3,bx 2),(6,bx 3),(53,slA 4 cLn q.res),(54,iv q.res.length),(55,iv k),(56,bT)]<|jC ?_
 by_cases hs13:linV q.res[k].c q.res[k].n q.res[k].t q.res[k].f n t f<0
 exact Za<|W2<|oK (ZdI q.res[k] n t f) [.agg (cLn q.res[k]),.agg (cSz n t f)] rfl rfl<|ol (dT hs13)<|jG<|oS bF<|jE<|Ze<|Zb<|Zb<|Ze<|Zb<|Zd results100 (.tmp rfl)<|cB<|(adm_r (k:=k) (by omega) hs13).symm
 exact Za<|W2<|oK (ZdI q.res[k] n t f) [.agg (cLn q.res[k]),.agg (cSz n t f)] rfl rfl<|ol (dF hs13)<|jI<|Zj<|Zs<|Zf<|Za<|oV ((k+1:Nat):Int)<|oS (iv (k+1:Nat))<|jA<|Zp ⟨k+1,by omega,ZcB (by omega) hs0 hs13⟩ (show q.res.length-(k+1)<q.res.length-k by omega)<|Zk _ _
 refine Za<|ol (dF hs12)<|jD<|Zu rfl<|jO<|jC<|Za<|oS bT<|jE<|Zd results100 (.tmp rfl) ?_
 exact cB<|(adm_o hs4f (by have:k=q.res.length:=(by omega);subst this;exact hs0) hs8f hs11f).symm
theorem Zdg (HQ:FmOk q) (n t f:Int):Ctr Tryz.prog J 54 [.agg (cFm q),.agg (cSz n t f)] (bv<|decide (valE q=0)&&admB q n t f):=by
 refine Zn func54 rfl (pN (Zg<|Zy q)<|pN (Zg<|λX hX=>by simp only [cSz,List.mem_cons,List.not_mem_nil,or_false] at hX;rcases hX with rfl | rfl | rfl<;>exact .v _) pZ) (n:=13) rfl (by simp)<|λw0 => ?_
 refine jB<|oX 1 (.agg (cFm q))<|oX 2 (.agg (cSz n t f))<|oS bF<|jD ?_
 by_cases hs1:valE q=0
 refine Za<|oW<|oK (KP HQ) [.agg (cFm q)] rfl rfl<|oe (dT hs1)<|oS bT<|W2<|oK (admits_c HQ n t f) [.agg (cFm q),.agg (cSz n t f)] rfl rfl<|oF (bv<|admB q n t f)<|jE<|Zd results54 (.tmp rfl) ?_
 exact cB<|by rw [decide_eq_true hs1];rfl
 refine Za<|oW<|oK (KP HQ) [.agg (cFm q)] rfl rfl<|oe (dF hs1)<|oS bF<|V3<|oF bF<|jE<|Zd results54 (.tmp rfl) ?_
 exact cB<|by rw [decide_eq_false hs1];rfl
theorem ZT (n t f:Int):∀ X∈cSz n t f,Plain X:=by
 intro X hX;simp only [cSz,List.mem_cons,List.not_mem_nil,or_false] at hX
 rcases hX with rfl | rfl | rfl<;>exact .v _
abbrev ZdE (x0:Fm) (x1:Int) (x2:Int) (x3:Int):List (Nat × ABlk):=[(1,.box 27 (cFm x0)),(2,.box 32 (cSz x1 x2 x3))]
set_option maxRecDepth 100000 in
set_option maxHeartbeats 6400000 in
theorem Zaz (HQ:FmOk q) (n t f:Int):Ctr Tryz.prog J 75 [.agg (cFm q),.agg (cSz n t f)] (bv<|admB q n t f):=by
 have l5:=HQ.lres
 refine Zn func75 rfl (pN (Zg<|Zy q)<|pN (Zg<|ZT n t f) pZ) (n:=63) rfl (by simp)<|λw0 => jB<|oX 1 (.agg (cFm q))<|oX 2 (.agg (cSz n t f))<|oS bF<|jD<|Zi<|Ye (True) (ofL [(1,.box 27 (cFm q)),(2,.box 32 (cSz n t f))]) (ofT 63 [(2,bx 1),(3,bx 2),(4,bF),(25,bv (radA n t f))]) ?_<|λ_ => ?_
 by_cases hs1:(inB 1 1048576 n)=true
 by_cases hs2:(inB 0 n t)=true
 by_cases hs3:(inB 0 n f)=true
 refine Za<|W2<|oK (Zo (Zv n 1 1048576) hs1) [iv n,iv 1,iv 1048576] rfl rfl<|oF bF<|W4<|oK (Zo (Zv t 0 n) hs2) [iv t,iv 0,iv n] rfl rfl<|oW<|oF bF<|W4<|oK (Zo (Zv f 0 n) hs3) [iv f,iv 0,iv n] rfl rfl<|oW<|oS bF<|kN 63 [(1,.box 27 (cFm q)),(2,.box 32 (cSz n t f))] [(2,bx 1),(3,bx 2),(4,bF),(25,bF)] ?_
 rw [show (radA n t f)=false by simp only [radA,Bool.or_true,Bool.true_or,Bool.or_false,Bool.false_or,Bool.and_true,Bool.true_and,Bool.and_false,Bool.false_and,Bool.not_true,Bool.not_false,hs1,hs2,hs3]]
 exact tM T0
 have hs3f:(inB 0 n f)=false:=by simpa using hs3
 refine Za<|W2<|oK (Zo (Zv n 1 1048576) hs1) [iv n,iv 1,iv 1048576] rfl rfl<|oF bF<|W4<|oK (Zo (Zv t 0 n) hs2) [iv t,iv 0,iv n] rfl rfl<|oW<|oF bF<|W4<|oK (Zo (Zv f 0 n) hs3f) [iv f,iv 0,iv n] rfl rfl<|oW<|oS bT<|kN 63 [(1,.box 27 (cFm q)),(2,.box 32 (cSz n t f))] [(2,bx 1),(3,bx 2),(4,bF),(25,bT)] ?_
 rw [show (radA n t f)=true by simp only [radA,Bool.or_true,Bool.true_or,Bool.or_false,Bool.false_or,Bool.and_true,Bool.true_and,Bool.and_false,Bool.false_and,Bool.not_true,Bool.not_false,hs1,hs2,hs3f]]
 exact tM T0
 have hs2f:(inB 0 n t)=false:=by simpa using hs2
 refine Za<|W2<|oK (Zo (Zv n 1 1048576) hs1) [iv n,iv 1,iv 1048576] rfl rfl<|oF bF<|W4<|oK (Zo (Zv t 0 n) hs2f) [iv t,iv 0,iv n] rfl rfl<|oW<|oF bT<|V5<|qK<|oS bT<|kN 63 [(1,.box 27 (cFm q)),(2,.box 32 (cSz n t f))] [(2,bx 1),(3,bx 2),(4,bF),(25,bT)] ?_
 rw [show (radA n t f)=true by simp only [radA,Bool.or_true,Bool.true_or,Bool.or_false,Bool.false_or,Bool.and_true,Bool.true_and,Bool.and_false,Bool.false_and,Bool.not_true,Bool.not_false,hs1,hs2f]]
 exact tM T0
 have hs1f:(inB 1 1048576 n)=false:=by simpa using hs1
 refine Za<|W2<|oK (Zo (Zv n 1 1048576) hs1f) [iv n,iv 1,iv 1048576] rfl rfl<|oF bT<|V5<|qK<|oF bT<|V5<|qK<|oS bT<|kN 63 [(1,.box 27 (cFm q)),(2,.box 32 (cSz n t f))] [(2,bx 1),(3,bx 2),(4,bF),(25,bT)] ?_
 rw [show (radA n t f)=true by simp only [radA,Bool.or_true,Bool.true_or,Bool.or_false,Bool.false_or,Bool.and_true,Bool.true_and,Bool.and_false,Bool.false_and,Bool.not_true,Bool.not_false,hs1f]]
 exact tM T0
 refine Zf ?_
 by_cases hs4:(radA n t f)=true
 rw [hs4]
 exact jK<|oS bF<|jE<|Zb<|Zd results75 (.tmp rfl)<|cB<|(adm_a hs4).symm
 have hs4f:(radA n t f)=false:=by simpa using hs4
 rw [hs4f]
 refine jL<|jM<|Za<|oS (iv 0)<|jA<|Ye (resvK q n t f q.res.length=true) (ofL<|ZdE q n t f) (ofT 63 [(2,bx 1),(3,bx 2)]) ?_<|λRES => ?_
 refine Zh<|Zw (σ:={k:Nat // k<=q.res.length/\resvK q n t f k=true}) (λs=>(ofL (ZdE q n t f),ofT 63 [(2,bx 1),(3,bx 2),(5,iv s.1)])) (λs=>q.res.length-s.1) ⟨0,Nat.zero_le _,rfl⟩ (Zk _ _)<|λs => ?_
 obtain ⟨k,hk0,hs0⟩:=s
 show ETri J w0 (ofL<|ZdE q n t f) (ofT 63 [(2,bx 1),(3,bx 2),(5,iv k)]) _
 refine jM ?_
 by_cases hs5:(k:Int)<(q.res.length:Int)
 refine Za<|W4<|ol (dT hs5)<|jH<|Zj<|jC<|Zh<|Zi ?_
 by_cases hs6:linV q.res[k].c q.res[k].n q.res[k].t q.res[k].f n t f<0
 exact tD<|dW<|dS (slA 4 cLn q.res)<|dS (iv k)<|dC (xS (k*4) 34 35 U23) I0 I0<|dA (Zl (z:=4) (.tmp 36) rfl U116 rfl (by kernel_rfl) (ZJ lenLn q.res k<|by omega) rfl) I0<|dW<|dk (value_c q.res[k] n t f) [.agg (cLn q.res[k]),.agg (cSz n t f)] rfl rfl<|dl (dT hs6)<|eD<|Zf<|jK<|oS bF<|jE<|Ze<|Zb<|Zb<|Ze<|ZW<|Zb<|Zd results75 (.tmp rfl)<|cB<|(adm_r (k:=k) (by omega) hs6).symm
 exact tD<|dW<|dS (slA 4 cLn q.res)<|dS (iv k)<|dC (xS (k*4) 34 35 U23) I0 I0<|dA (Zl (z:=4) (.tmp 36) rfl U116 rfl (by kernel_rfl) (ZJ lenLn q.res k<|by omega) rfl) I0<|dW<|dk (value_c q.res[k] n t f) [.agg (cLn q.res[k]),.agg (cSz n t f)] rfl rfl<|dl (dF hs6)<|eD<|Zf<|Zu rfl<|Zj<|Zs<|Zf<|Za<|oS (iv k)<|oV ((k+1:Nat):Int)<|oS (iv (k+1:Nat))<|jA<|Zp ⟨k+1,by omega,ZcB (by omega) hs0 hs6⟩ (show q.res.length-(k+1)<q.res.length-k by omega)<|Zk _ _
 refine Za<|W4<|ol (dF hs5)<|kN 63 (ZdE q n t f) [(2,bx 1),(3,bx 2),(5,iv k),(30,bF)]<|Zf<|Zu rfl<|jO ?_
 exact YN (by have:k=q.res.length:=(by omega);subst this;exact hs0)<|Zk _ _
 refine jC<|Zi<|Ye (True) (ofL [(1,.box 27 (cFm q)),(2,.box 32 (cSz n t f))]) (ofT 63 [(2,bx 1),(3,bx 2),(53,bv (nofB q t f))]) ?_<|λ_ => ?_
 by_cases hs7:q.fzz=0
 by_cases hs8:t=0
 by_cases hs9:f=0
 refine Za<|W2<|oe (dT hs7)<|oS bT<|W2<|on (dT' hs8)<|oS bF<|W2<|on (dT' hs9)<|oW<|oS bF<|kN 63 [(1,.box 27 (cFm q)),(2,.box 32 (cSz n t f))] [(2,bx 1),(3,bx 2),(53,bF)] ?_
 rw [show (nofB q t f)=false by simp only [nofB,Bool.or_true,Bool.true_or,Bool.or_false,Bool.false_or,Bool.and_true,Bool.true_and,Bool.and_false,Bool.false_and,Bool.not_true,Bool.not_false,hs4f,decide_eq_true hs7,decide_eq_true hs8,decide_eq_true hs9]]
 exact tM T0
 refine Za<|W2<|oe (dT hs7)<|oS bT<|W2<|on (dT' hs8)<|oS bF<|W2<|on (dF' hs9)<|oW<|oS bT<|kN 63 [(1,.box 27 (cFm q)),(2,.box 32 (cSz n t f))] [(2,bx 1),(3,bx 2),(53,bT)] ?_
 rw [show (nofB q t f)=true by simp only [nofB,Bool.or_true,Bool.true_or,Bool.or_false,Bool.false_or,Bool.and_true,Bool.true_and,Bool.and_false,Bool.false_and,Bool.not_true,Bool.not_false,hs4f,decide_eq_true hs7,decide_eq_true hs8,decide_eq_false hs9]]
 exact tM T0
 refine Za<|W2<|oe (dT hs7)<|oS bT<|W2<|on (dF' hs8)<|oS bT<|V3<|oW<|oS bT<|kN 63 [(1,.box 27 (cFm q)),(2,.box 32 (cSz n t f))] [(2,bx 1),(3,bx 2),(53,bT)] ?_
 rw [show (nofB q t f)=true by simp only [nofB,Bool.or_true,Bool.true_or,Bool.or_false,Bool.false_or,Bool.and_true,Bool.true_and,Bool.and_false,Bool.false_and,Bool.not_true,Bool.not_false,hs4f,decide_eq_true hs7,decide_eq_false hs8]]
 exact tM T0
 refine Za<|W2<|oe (dF hs7)<|oS bF<|V5<|V3<|oS bF<|kN 63 [(1,.box 27 (cFm q)),(2,.box 32 (cSz n t f))] [(2,bx 1),(3,bx 2),(53,bF)] ?_
 rw [show (nofB q t f)=false by simp only [nofB,Bool.or_true,Bool.true_or,Bool.or_false,Bool.false_or,Bool.and_true,Bool.true_and,Bool.and_false,Bool.false_and,Bool.not_true,Bool.not_false,hs4f,decide_eq_false hs7]]
 exact tM T0
 refine Zf ?_
 by_cases hs10:(nofB q t f)=true
 rw [hs10]
 exact jK<|oS bF<|jE<|Zb<|Zd results75 (.tmp rfl)<|cB<|(adm_f hs10).symm
 have hs10f:(nofB q t f)=false:=by simpa using hs10
 rw [hs10f]
 refine jL<|Zi ?_
 by_cases hs11:q.top=4
 exact Za<|W2<|on (dT' hs11)<|oS bF<|oF (iv n)<|gC (ZdU rfl (by omega) (c:=n.tmod 2) rfl) I0 I0<|gC (ZH rfl rfl) I0 I0<|oF (bv<|decide<|n.tmod 2=1)<|jE<|Zd results75 (.tmp rfl)<|cB<|(adm_1 hs4f RES hs10f hs11).symm
 exact Za<|W2<|on (dF' hs11)<|oS bT<|V4<|oF bT<|jE<|Zd results75 (.tmp rfl)<|cB<|(adm_0 hs4f RES hs10f hs11).symm
end Go.Proofs.YtmpgnibfhjdfpaaGreat
