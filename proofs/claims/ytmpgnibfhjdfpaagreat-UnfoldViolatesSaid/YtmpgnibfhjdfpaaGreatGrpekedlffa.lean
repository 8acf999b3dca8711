import Derived.ChangeArms
import Derived.ChangeMaps5
import Derived.Test.YtmpgnibfhjdfpaaGreatGrpcjplndde
import Derived.Test.YtmpgnibfhjdfpaaGreatGrpblkdaogj
import Derived.Test.YtmpgnibfhjdfpaaGreatGrpikjlcdag
import Derived.Test.YtmpgnibfhjdfpaaGreatGrphbjjdkil
import Derived.Test.YtmpgnibfhjdfpaaGreatGrppoikgaho
import Derived.Test.YtmpgnibfhjdfpaaGreatGrpaggajjjj
import Derived.Test.YtmpgnibfhjdfpaaGreatGrpmgeggbob
import Derived.Test.YtmpgnibfhjdfpaaGreatGrpjhbplalh
import Derived.Test.YtmpgnibfhjdfpaaGreatGrpnbibgnod
set_option linter.all false
namespace Go.Proofs.YtmpgnibfhjdfpaaGreat
open Go.RowKit Go.Deep Tryz
variable {J:World->Prop}
namespace Ns
def lk3 (top c i:Int):List AV:=[iv (rowL top c i).1,iv (rowL top c i).2.1,iv (rowL top c i).2.2]
def lkZ (top:Int) (n k:Nat):List AV:=(List.range k).flatMap (λi:Nat=>lk3 top n i)++(List.replicate (n-k) [iv 0,iv 0,iv 0]).flatten
theorem lkZ_zero (top:Int) (n:Nat):(List.range (n*3)).map (λj=>AV.v ((#[Value.int .i64 0,Value.int .i64 0,Value.int .i64 0]:Array Value).getD (j % 3) undef))=lkZ top n 0:=by
 unfold lkZ
 rw [List.range_zero,List.flatMap_nil,List.nil_append,Nat.sub_zero]
 induction n with
 | zero=>rfl
 | succ m ih =>
   rw [show (m+1)*3=m*3+1+1+1 by omega,List.range_succ,List.range_succ,List.range_succ,List.map_append,List.map_append,List.map_append,ih,List.replicate_succ',List.flatten_append]
   have e1:(m*3) % 3=0:=by omega
   have e2:(m*3+1) % 3=1:=by omega
   have e3:(m*3+1+1) % 3=2:=by omega
   simp [e2,e3]
theorem Zfl (top:Int) (n:Nat):∀ k,((List.range k).flatMap (λi:Nat=>lk3 top n i)).length=k*3
 | 0=>rfl
 | k+1=>by rw [List.range_succ,List.flatMap_append,List.length_append,Zfl top n k];simp [lk3];omega
variable {top:Int}{n k:Nat}
theorem lkZ_len (h:k<=n):(lkZ top n k).length=n*3:=by
 unfold lkZ
 rw [List.length_append,Zfl,List.length_flatten]
 simp
 omega
theorem lkZ_step (h:k<n):setAll (lkZ top n k) (k*3) (Z6 true (lk3 top n k))=lkZ top n (k+1):=by
 unfold lkZ
 have e:n-k=(n-(k+1))+1:=by omega
 rw [e,List.replicate_succ,List.flatten_cons]
 have:=Zcv (Z6 true (lk3 top n k)) ((List.range k).flatMap (λi:Nat=>lk3 top n i)) [iv 0,iv 0,iv 0] (List.replicate (n-(k+1)) [iv 0,iv 0,iv 0]).flatten rfl
 rw [Zfl,List.append_assoc] at this
 rw [this,List.range_succ,List.flatMap_append]
 simp [Z6,AV.unfr,lk3]
theorem rowLink_c {top c i:Int} (h0:0<=i) (h1:i<c) (hc:c<=8):Ctr Tryz.prog J 26 [iv top,iv c,iv i] (.agg (lk3 top c i)):=ctr3 λw v v' v'' _ h h' h''=>by
 rw [h.v_inv,h'.v_inv,h''.v_inv]
 exact (Zai top c i w h0 h1 (by omega)).mono λ_ _ hh=>⟨_,hh.1,.agg rfl λj hj=>(match j,hj with
  | 0,_ => .v _
  | 1,_ => .v _
  | 2,_ => .v _),hh.2⟩
def lkT (xs:List Int):AV := .sl 3 xs.length ((List.range (xs.length*3)).map λj=>iv (cf (trun xs xs.length) j))
def cLk (xs:List Int):List AV:=[lkT xs]
theorem newLk (xs:List Int):∀ d∈[AV.fr (lkT xs)],d.isNew=true:=λd hd=>by
 simp only [List.mem_cons,List.not_mem_nil,or_false] at hd;subst hd;rfl
theorem cellLk (xs:List Int):∀ d∈[AV.fr (lkT xs)],d.cell=true:=λd hd=>by
 simp only [List.mem_cons,List.not_mem_nil,or_false] at hd;subst hd;rfl
theorem snocLk {L:List (List Int)} (h:k<L.length):(L.take k).flatMap cLk++Z6 true [.fr (lkT L[k])]=(L.take (k+1)).flatMap cLk:=by
 rw [List.take_succ_eq_append_getElem h,List.flatMap_append];simp [Z6,AV.unfr,cLk]
variable {xs:List Int}
theorem treeLinks_c (hI:InOk xs) (h0:0<xs.length) (h1:xs.length<=100):Ctr Tryz.prog J 28 [Zc xs] (lkT xs):=ctr1 λw v _ h=>by
 have hi:=Yf hI (λ_ _=>Nat.zero_le _) h
 obtain ⟨a,cap,rfl,_,_,_,hc⟩:=hi
 rcases hc with rfl | ⟨b,off,rfl,_,hb,hc⟩
 ·simp at h0
 refine (W7 b off xs.length cap w xs rfl h1 h0 hc).mono λ_ w' ⟨g,he,ho,hb⟩=>⟨_,he,?_,hb⟩
 obtain ⟨h2,cur,t,hg,hcur⟩:=ho
 refine .sl (b:=g) (off:=0) (f:=λj => .int .i64 (cf (trun xs xs.length) j)) (by simp) (Nat.le_refl _) (by unfold maxLen;omega) ⟨h2,_,_,hg⟩ (Array.getElem?_eq_some_iff.1 hg).1 (λj hj => ?_) λj hj => ?_
 ·have hj':j<xs.length*3:=by simpa using hj
  rw [Nat.zero_add,Yn hg j (v := .int .i64 (cf (trun xs xs.length) j)) (hcur j hj')]
 simp only [List.getElem_map,List.getElem_range]
 exact .v _
theorem Evaluate_c {l:Ln} {n t f:Int}:Ctr Tryz.prog J 55 [.agg (cLn l),.agg (cSz n t f)] (.tup [iv (evN l.c l.n l.t l.f n t f),iv (evE l.c l.n l.t l.f n t f)]):=ctr2 λw v v' _ h h'=>by
 obtain ⟨vs,rfl,hl,hv⟩:=Yt h
 have e:vs=[.int .i64 l.c,.int .i64 l.n,.int .i64 l.t,.int .i64 l.f]:=by
  rw [cells4 hl,(hv 0 (by simp [cLn])).v_inv,(hv 1 (by simp [cLn])).v_inv,(hv 2 (by simp [cLn])).v_inv,(hv 3 (by simp [cLn])).v_inv]
 subst e
 rw [sz_of h']
 exact (ZeY l.c l.n l.t l.f n t f w).mono λ_ _ hh=>⟨_,hh.1,.tup rfl λj hj=>(match j,hj with
  | 0,_ => .v _
  | 1,_ => .v _),by first | exact hh.2 | (rw [<- hh.2];exact Below.refl _ _) | (rw [hh.2];exact Below.refl _ _)⟩
def sysE (p:Fm) (n t f:Int):Int:=if valE p=0 then (if admB p n t f=true then (if 8<n then 4 else 0) else 8) else valE p
def cntE (p:Fm) (n f:Int):Int:=if p.fzz=3 then n-f else n
variable {p:Fm}
theorem adm_in {n t f:Int} (h:admB p n t f=true):1<=n/\n<=1048576/\0<=f/\f<=n:=by
 unfold admB inB at h
 simp only [Bool.and_eq_true,decide_eq_true_eq] at h
 omega
theorem rulesE_all {q:Fm}:∀ (f i:Nat),rulesE q i f=0->∀ k,i<=k->k<i+f->ruleE q k (q.rz.getD k default)=0
 | 0,i,_,k,a,b=>absurd b (by omega)
 | f+1,i,e,k,a,b=>by
   unfold rulesE at e
   split at e
   ·rename_i e1
    by_cases x:i=k
    ·subst x;exact e1
    exact rulesE_all f (i+1) e k (by omega) (by omega)
   exact absurd e (by assumption)
theorem val_lims (h:valE p=0):p.rz.length<=8/\∀ r∈p.rz,r.gz.length<=2:=by
 unfold valE at h
 split at h
 ·cases h
 split at h
 ·cases h
 split at h
 ·cases h
 split at h
 ·cases h
 rename_i g
 split at h
 ·cases h
 split at h
 ·cases h
 split at h
 ·cases h
 refine ⟨(ZbA (by simpa using g)).1,λr hr => ?_⟩
 have a1:=ZI h
 have a2:=ZI a1.2
 have a3:=ZI a2.2
 obtain ⟨j,hj,rfl⟩:=List.getElem_of_mem hr
 have:=rulesE_all _ _ a3.1 j (Nat.zero_le _) (by omega)
 rw [List.getD_eq_getElem?_getD,List.getElem?_eq_getElem hj,Option.getD_some] at this
 exact Wq this
theorem adm_c {n t f:Int} (HP:FmOk p) (hv:valE p=0):Ctr Tryz.prog J 54 [.agg (cFm p),.agg (cSz n t f)] (bv (admB p n t f)):=by
 have:=Zdg (J:=J) HP n t f
 rw [decide_eq_true hv,Bool.true_and] at this
 exact this
def shT (top n:Int):List (List Int):=if top=4 then Sh.shX n else []
theorem shT_tree {top n:Int} (h:top=4):shT top n=Sh.shX n:=if_pos h
theorem shT_no {top n:Int} (h:¬ top=4):shT top n=[]:=if_neg h
def sysC (p:Fm) (n t f:Int):List AV:=cFm p++[iv n,iv t,iv f,iv (cntE p n f),iv (n-f),.any,.any,.any,.any,.any,.any,.any,.any,.any,.any,.any,.any,.any,.any,.any,.any,slA 1 cLi (shT p.top (cntE p n f)),.any]
theorem sys_big {n t f:Int} (hv:valE p=0) (ha:admB p n t f=true) (h:¬ sysE p n t f=0):8<n:=by
 unfold sysE at h
 rw [if_pos hv,if_pos ha] at h
 by_cases h8:8<n
 ·exact h8
 rw [if_neg h8] at h;exact absurd rfl h
theorem sys_ok {n t f:Int} (h:sysE p n t f=0):valE p=0/\admB p n t f=true/\¬ 8<n:=by
 unfold sysE at h
 split at h
 ·split at h
  ·split at h
   ·cases h
   exact ⟨by assumption,by assumption,by assumption⟩
  cases h
 exact absurd h (by assumption)
theorem sys_e1 {n t f:Int} (h:¬ valE p=0):sysE p n t f=valE p:=by unfold sysE;rw [if_neg h]
theorem sys_e2 {n t f:Int} (h:valE p=0) (h2:admB p n t f=false):sysE p n t f=8:=by unfold sysE;rw [if_pos h,if_neg (by rw [h2];simp)]
theorem sys_e3 {n t f:Int} (h:valE p=0) (h2:admB p n t f=true) (h3:8<n):sysE p n t f=4:=by unfold sysE;rw [if_pos h,if_pos h2,if_pos h3]
theorem sys_e4 {n t f:Int} (h:valE p=0) (h2:admB p n t f=true) (h3:¬ 8<n):sysE p n t f=0:=by unfold sysE;rw [if_pos h,if_pos h2,if_neg h3]
end Ns
namespace Rd
def ixP {α:Type} (l:List α) (p:α->Bool):Int:=match l.findIdx? p with | some i=>(i:Int) | none => -1
def noP {α:Type} (l:List α) (p:α->Bool) (k:Nat):Prop:=∀ i (h:i<l.length),i<k->p l[i]=false
theorem noP_zero {α:Type} (l:List α) (p:α->Bool):noP l p 0:=λ_ _ h=>absurd h (by omega)
variable {k:Nat}
theorem noP_succ {α:Type} {l:List α} {p:α->Bool} (hk:k<l.length) (h:noP l p k) (e:p l[k]=false):noP l p (k+1):=λi a b=>by
 by_cases hi:i<k
 ·exact h i a hi
 obtain rfl:i=k:=by omega
 exact e
theorem ixP_at {α:Type} {l:List α} {p:α->Bool} (hk:k<l.length) (h:noP l p k) (e:p l[k]=true):ixP l p=(k:Int):=by
 unfold ixP
 rw [List.findIdx?_eq_some_iff_getElem.2 ⟨hk,e,λj hj=>by simp [h j (by omega) hj]⟩]
theorem ixP_none {α:Type} {l:List α} {p:α->Bool} (hk:¬ k<l.length) (h:noP l p k):ixP l p = -1:=by
 unfold ixP
 rw [List.findIdx?_eq_none_iff.2 λx hx=>by
  obtain ⟨i,hi,rfl⟩:=List.mem_iff_getElem.1 hx
  exact h i hi (by omega)]
theorem anyP_ix {α:Type} (l:List α) (p:α->Bool):decide (0<=ixP l p)=l.any p:=by
 unfold ixP
 cases hf:l.findIdx? p with
 | none =>
   rw [List.findIdx?_eq_none_iff] at hf
   have:l.any p=false:=by simpa using hf
   simp [this]
 | some i =>
   obtain ⟨hi,h1,_⟩:=List.findIdx?_eq_some_iff_getElem.1 hf
   have:l.any p=true:=List.any_eq_true.2 ⟨_,List.getElem_mem hi,h1⟩
   simp [this]
def outB (m x:Int):Bool:=decide (x<0)||decide (m<=x)
variable {m x:Int}
theorem outB_lo (h:x<0):outB m x=true:=by unfold outB;simp [h]
theorem outB_hi (h:¬ x<0):outB m x=decide (m<=x):=by unfold outB;simp [h]
def belB (l:List Int) (m:Int):Bool := !l.any (outB m)
def shI (top:Int) (S:List (List Int)) (sh:List Int):Int:=if top=4 then max (ixP S λx=>decide (sh=x)) 0 else 0
def shB (top:Int) (S:List (List Int)) (sh:List Int):Bool:=if top=4 then S.any (λx=>decide (sh=x)) else decide (sh=[])
variable {top:Int}{sh:List Int}
theorem shI_tree {S:List (List Int)} (h:top=4):shI top S sh=max (ixP S λx=>decide (sh=x)) 0:=if_pos h
theorem shI_no {S:List (List Int)} (h:¬ top=4):shI top S sh=0:=if_neg h
theorem shB_tree {S:List (List Int)} (h:top=4):shB top S sh=decide (0<=ixP S λx=>decide (sh=x)):=by
 unfold shB;rw [if_pos h];exact (anyP_ix S _).symm
theorem shB_no {S:List (List Int)} (h:¬ top=4):shB top S sh=decide ((sh.length:Int)=0):=by
 unfold shB;rw [if_neg h]
 cases sh with
 | nil=>rfl
 | cons a l=>simp;omega
def cCg (c:Cf):List AV:=[Zc c.sh,Zc c.st,iv c.cor,Zc c.se,Zc c.fa,iv c.val]
structure CgOk (c:Cf):Prop where
 sh:InOk c.sh
 st:InOk c.st
 se:InOk c.se
 fa:InOk c.fa
 lsh:c.sh.length<=100
 lst:c.st.length<=100
 lse:c.se.length<=100
 lfa:c.fa.length<=100
theorem plain_cg (c:Cf):∀ X∈cCg c,Plain X:=by
 intro X hX
 simp only [cCg,List.mem_cons,List.not_mem_nil,or_false] at hX
 rcases hX with rfl | rfl | rfl | rfl | rfl | rfl<;>first | exact .v _ | exact Zx _
def mfE (p:Fm):Int:=if p.fzz=1\/p.fzz=2 then 1048577 else 1
def rdB (p:Fm) (cnt cor:Int) (c:Cf) (b:Bool):Bool :=
 b&&decide ((c.st.length:Int)=cnt)&&belB c.st (p.sz.length:Int)&&decide (c.cor=cor)&&decide ((c.se.length:Int)=(p.msgs.length:Int))&&belB c.se 1048577 &&
 decide ((c.fa.length:Int)=(p.msgs.length:Int))&&belB c.fa (mfE p) && !decide (c.val<0) && !decide (max (p.vals.length:Int) 1<=c.val)
def zz (b:Bool) (x:Int):Int:=if b=true then x else 0
def cfZ (b:Bool) (i:Int) (c:Cf):List AV :=
 [iv (zz b i),iv (zz b (c.st.getD 0 0)),iv (zz b (c.st.getD 1 0)),iv (zz b (c.st.getD 2 0)),iv (zz b (c.st.getD 3 0)),iv (zz b (c.st.getD 4 0)),iv (zz b (c.st.getD 5 0)),iv (zz b (c.st.getD 6 0)),iv (zz b (c.st.getD 7 0)),
  iv (zz b (c.se.getD 0 0)),iv (zz b (c.se.getD 1 0)),iv (zz b (c.se.getD 2 0)),iv (zz b (c.fa.getD 0 0)),iv (zz b (c.fa.getD 1 0)),iv (zz b (c.fa.getD 2 0)),iv (zz b c.val)]
def rdX (p:Fm) (n f:Int) (c:Cf):Bool:=rdB p (Ns.cntE p n f) (n-f) c (shB p.top (Ns.shT p.top (Ns.cntE p n f)) c.sh)
def rdY (p:Fm) (n f:Int) (c:Cf):Bool:=rdX p n f c
def vcE (p:Fm) (n t f:Int) (c:Cf):Int:=if Ns.sysE p n t f=0 then (if rdX p n f c=true then 0 else 1) else Ns.sysE p n t f
end Rd
namespace Rd
def inW (lo hi x:Int):Bool:=decide (lo<=x)&&decide (x<=hi)
theorem inW_in {m x lo hi:Int} (h:inW lo hi x=true) (e:lo=0/\hi+1=m):outB m x=false:=by
 unfold inW at h;unfold outB
 simp only [Bool.and_eq_true,decide_eq_true_eq] at h
 simp only [Bool.or_eq_false_iff,decide_eq_false_iff_not]
 omega
theorem inW_out {m x lo hi:Int} (h:inW lo hi x=false) (e:lo=0/\hi+1=m):outB m x=true:=by
 unfold inW at h;unfold outB
 simp only [Bool.and_eq_false_iff,decide_eq_false_iff_not] at h
 simp only [Bool.or_eq_true,decide_eq_true_eq]
 omega
variable {xs:List Int}{m:Int}{k:Nat}
theorem bel_bad (hk:k<xs.length) (h:outB m xs[k]=true):belB xs m=false:=by
 unfold belB
 rw [List.any_eq_true.2 ⟨_,List.getElem_mem hk,h⟩]
 rfl
theorem bel_all (hk:¬ k<xs.length) (h:noP xs (outB m) k):belB xs m=true:=by
 unfold belB
 rw [List.any_eq_false.2 λx hx=>by
  obtain ⟨i,hi,rfl⟩:=List.mem_iff_getElem.1 hx
  simp [h i hi (by omega)]]
 rfl
def looseB (p:Fm):Bool:=decide (p.fzz=1)||decide (p.fzz=2)
theorem IsShape_c (hx:InOk xs) (hl:xs.length<=100):Ctr Tryz.prog J 81 [Zc xs] (bv (shp xs)):=ctr1 λw v _ h =>
 (Zeh (Yf hx (λ_ _=>Nat.zero_le _) h) (by omega)).mono λe w' ⟨he,hw⟩=>ret_sc ⟨he,by rw [<- hw];exact Below.refl _ _⟩
def badF (p:Fm) (x:Int):Bool := !decide (x=0) && !looseB p
variable {p:Fm}{x:Int}
theorem badF_z (h:x=0):badF p x=false:=by unfold badF;rw [decide_eq_true h];rfl
theorem badF_l (h:looseB p=true):badF p x=false:=by unfold badF;rw [h];simp
theorem badF_y (h:¬ x=0) (h':looseB p=false):badF p x=true:=by unfold badF;rw [decide_eq_false h,h'];rfl
theorem any_none {α:Type} {xs:List α} {q:α->Bool} (hk:¬ k<xs.length) (h:noP xs q k):xs.any q=false :=
 List.any_eq_false.2 λx hx=>by
  obtain ⟨i,hi,rfl⟩:=List.mem_iff_getElem.1 hx
  simp [h i hi (by omega)]
theorem any_one {α:Type} {xs:List α} {q:α->Bool} (hk:k<xs.length) (h:q xs[k]=true):xs.any q=true:=List.any_eq_true.2 ⟨_,List.getElem_mem hk,h⟩
def rvB (p:Fm) (n f:Int) (c:Cf):Bool :=
 decide ((c.st.length:Int)=Ns.cntE p n f)&&belB c.st (p.sz.length:Int)&&decide (c.cor=n-f)&&(decide ((c.se.length:Int)=(p.msgs.length:Int))&&belB c.se 1048577) &&
 (decide ((c.fa.length:Int)=(p.msgs.length:Int))&&belB c.fa 1048577) && !c.fa.any (badF p)&&inW 0 (max 0 ((p.vals.length:Int)-1)) c.val &&
 (if p.top=4 then decide ((c.sh.length:Int)=n)&&shp c.sh else decide ((c.sh.length:Int)=0))
theorem val_tree (h:valE p=0) (ht:p.top=4):p.fzz=0:=by
 unfold valE at h
 split at h
 ·cases h
 split at h
 ·cases h
 split at h
 ·cases h
 split at h
 ·cases h
 split at h
 ·cases h
 split at h
 ·cases h
 rename_i g
 have h1:¬ cliB p=true:=λe=>g (.inl ⟨by omega,e⟩)
 unfold cliB at h1
 simp at h1
 exact h1.2
theorem shp_any {n:Int} (h1:1<=n) (h8:n<=8) (sh:List Int):(Sh.shX n).any (λx=>decide (sh=x))=(decide ((sh.length:Int)=n)&&shp sh):=by
 obtain ⟨m,rfl⟩:=Int.eq_ofNat_of_zero_le (show 0<=n by omega)
 rw [<- Sh.shL_eq m (by omega) (by omega)]
 rw [Bool.eq_iff_iff]
 simp only [List.any_eq_true,decide_eq_true_eq,Bool.and_eq_true]
 constructor
 ·rintro ⟨x,hx,rfl⟩
  obtain ⟨e1,e2⟩:=shK_mem hx
  exact ⟨by omega,e2⟩
 rintro ⟨e1,e2⟩
 have e3:sh.length=m:=by omega
 have:=shL_count sh (by omega)
 rw [e3,if_pos e2] at this
 exact ⟨sh,List.count_pos_iff.1 (by omega),rfl⟩
theorem bel_split :belB xs (mfE p)=(belB xs 1048577 && !xs.any (badF p)):=by
 unfold mfE
 by_cases hl:looseB p=true
 ·have:p.fzz=1\/p.fzz=2:=by unfold looseB at hl;simpa using hl
  rw [if_pos this]
  have:xs.any (badF p)=false:=List.any_eq_false.2 λx _=>by simp [badF_l hl]
  rw [this];simp
 have hl':looseB p=false:=by simpa using hl
 have:¬ (p.fzz=1\/p.fzz=2):=λe=>hl (by unfold looseB;simpa using e)
 rw [if_neg this]
 unfold belB
 rw [Bool.eq_iff_iff]
 simp only [Bool.not_eq_true',List.any_eq_false,Bool.and_eq_true,outB,badF,hl',Bool.not_false,Bool.and_true,Bool.or_eq_true,decide_eq_true_eq,Bool.not_eq_true',decide_eq_false_iff_not,not_or,Decidable.not_not]
 constructor
 ·intro h
  exact ⟨λx hx=>by have:=h x hx;omega,λx hx=>by have:=h x hx;omega⟩
 rintro ⟨h1,h2⟩ x hx
 have:=h1 x hx;have:=h2 x hx;omega
theorem rv_rd {n t f:Int} {c:Cf} (hs:Ns.sysE p n t f=0):rvB p n f c=rdX p n f c:=by
 obtain ⟨hv,ha,h8⟩:=Ns.sys_ok hs
 have hai:=Ns.adm_in ha
 have hval:inW 0 (max 0 ((p.vals.length:Int)-1)) c.val=(!decide (c.val<0) && !decide (max (p.vals.length:Int) 1<=c.val)):=by
  unfold inW
  rw [Bool.eq_iff_iff]
  simp only [Bool.and_eq_true,decide_eq_true_eq,Bool.not_eq_true',decide_eq_false_iff_not]
  omega
 have hsh:(if p.top=4 then decide ((c.sh.length:Int)=n)&&shp c.sh else decide ((c.sh.length:Int)=0))=shB p.top (Ns.shT p.top (Ns.cntE p n f)) c.sh:=by
  by_cases h4:p.top=4
  ·have hc:Ns.cntE p n f=n:=by unfold Ns.cntE;rw [if_neg (by have:=val_tree hv h4;omega)]
   rw [if_pos h4,Ns.shT_tree h4,hc]
   unfold shB
   rw [if_pos h4,shp_any hai.1 (by omega)]
  rw [if_neg h4,shB_no h4]
 unfold rvB rdX rdB
 rw [hsh,hval,bel_split]
 cases shB p.top (Ns.shT p.top (Ns.cntE p n f)) c.sh<;>simp [Bool.and_assoc]
 done
end Rd
namespace Ct
def plB (p:Fm) (c:Cf):Bool:=Rd.belB c.st (p.sz.length:Int)&&(decide (0<=c.cor)&&decide (c.cor<=(c.st.length:Int)))
def bump (L:List Int) (x:Int):List Int:=L.set x.toNat (L.getD x.toNat 0+1)
def cnt (S:Nat) (xs:List Int):List Int:=xs.foldl bump (List.replicate S 0)
variable {A B:List Int}{i:Nat}
theorem app_at (h:i<A.length):((A++B).map iv)[i*1]? = some (iv A[i]):=by
 rw [Nat.mul_one]
 rw [List.getElem?_map,List.getElem?_append_left h,List.getElem?_eq_getElem h]
 rfl
def two (sh A B se fa:List Int) (val:Int):Cf:=⟨sh,A++B,(A.length:Int),se,fa,val⟩
variable {p:Fm}
theorem pl_two {c:Cf} (h:plB p c=true):∃ sh A B se fa val,c=two sh A B se fa val:=by
 obtain ⟨sh,st,cor,se,fa,val⟩:=c
 unfold plB at h
 simp only [Bool.and_eq_true,decide_eq_true_eq] at h
 obtain ⟨_,h1,h2⟩:=h
 refine ⟨sh,st.take cor.toNat,st.drop cor.toNat,se,fa,val,?_⟩
 unfold two
 rw [List.take_append_drop,List.length_take,Nat.min_eq_left (by omega),Int.toNat_of_nonneg h1]
variable {L:List Int}
theorem row_at (h:i<L.length):(L.map iv)[i*1]? = some (iv (L.getD i 0)):=by
 rw [Nat.mul_one,List.getElem?_map,List.getD_eq_getElem?_getD,List.getElem?_eq_getElem h]
 rfl
theorem getD_at (h:i<L.length):L.getD i 0=L[i]:=by
 rw [List.getD_eq_getElem?_getD,List.getElem?_eq_getElem h];rfl
def srt (xs:List Int):List Int:=xs.mergeSort λx y=>decide (x<=y)
theorem srt_perm (xs:List Int):(srt xs).Perm xs:=List.mergeSort_perm _ _
theorem srt_pw (xs:List Int):List.Pairwise (λa b=>a<=b) (srt xs):=by
 have:=List.pairwise_mergeSort (le:=λx y:Int=>decide (x<=y)) (λa b c h1 h2=>by simp at *;omega) (λa b=>by simp;omega) xs
 exact this.imp λh=>by simpa using h
variable {xs:List Int}
theorem srt_eq (hp:L.Perm xs) (hs:∀ a b,(h:a<b)->(hb:b<L.length)->L[a]<=L[b]):L=srt xs :=
 List.Perm.eq_of_pairwise (le:=λa b:Int=>a<=b) (λa b _ _ h1 h2=>by omega) (List.pairwise_iff_getElem.2 λi j _ hj hij=>hs i j hij hj) (srt_pw xs) (hp.trans (srt_perm xs).symm)
structure Ins (xs L:List Int) (i k:Nat):Prop where
 perm:L.Perm xs
 le:k<=i
 ord:∀ a b,(h1:a<b)->b<=i->(hb:b<L.length)->a≠k->b≠k->L[a]'(by omega)<=L[b]
 low:∀ b,(h1:k<b)->b<=i->(hb:b<L.length)->L[k]'(by omega)<L[b]
structure Srd (xs L:List Int) (i:Nat):Prop where
 perm:L.Perm xs
 ord:∀ a b,(h1:a<b)->b<i->(hb:b<L.length)->L[a]'(by omega)<=L[b]
theorem Srd.one (xs:List Int):Srd xs xs 1:=⟨List.Perm.refl _,λa b h1 h2 _=>by omega⟩
variable {k:Nat}
theorem Ins.out (h:Ins xs L i k) (hi:i<L.length) (hk:0<k->L[k-1]'(by have:=h.le;omega)<=L[k]'(by have:=h.le;omega)):Srd xs L (i+1):=by
 have hle:=h.le
 refine ⟨h.perm,λa b h1 h2 hb => ?_⟩
 by_cases ea:a=k
 ·subst ea;exact Int.le_of_lt (h.low b h1 (by omega) hb)
 by_cases eb:b=k
 ·subst eb
  have h3:=hk (by omega)
  by_cases e:a=b-1
  ·subst e;exact h3
  exact Int.le_trans (h.ord a (b-1) (by omega) (by omega) (by omega) ea (by omega)) h3
 exact h.ord a b h1 (by omega) hb ea eb
def swp (L:List Int) (k:Nat):List Int:=(L.set (k-1) (L.getD k 0)).set k (L.getD (k-1) 0)
theorem swp_at {k j:Nat} (hk:0<k) (hj:j<(swp L k).length) (hkl:k<L.length):(swp L k)[j]=if j=k then L[k-1] else if j=k-1 then L[k] else L[j]'(by simpa [swp] using hj):=by
 show ((L.set (k-1) (L.getD k 0)).set k (L.getD (k-1) 0))[j]'(by simpa [swp] using hj)=_
 rw [List.getElem_set,List.getElem_set]
 by_cases e:k=j
 ·subst e;simp [List.getD_eq_getElem?_getD,List.getElem?_eq_getElem (show k-1<L.length by omega)]
 rw [if_neg e,if_neg (Ne.symm e)]
 by_cases e2:k-1=j
 ·rw [if_pos e2,if_pos e2.symm];simp [List.getD_eq_getElem?_getD,List.getElem?_eq_getElem hkl]
 rw [if_neg e2,if_neg (Ne.symm e2)]
theorem swp_perm (hkl:k<L.length):(swp L k).Perm L:=by
 have h1:k-1<L.length:=by omega
 have:=List.set_set_perm h1 hkl
 unfold swp
 rw [List.getD_eq_getElem?_getD,List.getD_eq_getElem?_getD,List.getElem?_eq_getElem hkl,List.getElem?_eq_getElem h1]
 exact this
theorem Ins.step (h:Ins xs L i k) (hi:i<L.length) (hk:0<k) (hgt:L[k]'(by have:=h.le;omega)<L[k-1]'(by have:=h.le;omega)):Ins xs (swp L k) i (k-1):=by
 have hle:=h.le
 have hkl:k<L.length:=by omega
 refine ⟨(swp_perm hkl).trans h.perm,by omega,λa b h1 h2 hb ha hb' => ?_,λb h1 h2 hb => ?_⟩
 ·have hb2:b<L.length:=by simpa [swp] using hb
  rw [swp_at hk _ hkl,swp_at hk _ hkl]
  by_cases eb:b=k
  ·rw [if_neg (by omega),if_neg ha,if_pos eb]
   exact h.ord a (k-1) (by omega) (by omega) (by omega) (by omega) (by omega)
  rw [if_neg eb,if_neg hb']
  by_cases ea:a=k
  ·rw [if_pos ea]
   exact h.ord (k-1) b (by omega) h2 hb2 (by omega) eb
  rw [if_neg ea,if_neg ha]
  exact h.ord a b h1 h2 hb2 ea eb
 have hb2:b<L.length:=by simpa [swp] using hb
 rw [swp_at hk _ hkl,swp_at hk _ hkl]
 rw [if_neg (by omega),if_pos rfl]
 by_cases eb:b=k
 ·rw [if_pos eb];exact hgt
 rw [if_neg eb,if_neg (by omega)]
 exact h.low b (by omega) h2 hb2
theorem Srd.eq (h:Srd xs L i) (hi:L.length<=i):L=srt xs:=srt_eq h.perm λa b h1 hb=>h.ord a b h1 (by omega) hb
end Ct
abbrev Rw:=List Int × Int
def IsRows (lo:Nat) (w:World) (v:Value) (rs:List Rw):Prop :=
 ∃ (a:Option Addr) (cap:Nat),v = .slice a rs.length cap/\rs.length<=cap/\cap<=maxLen /\
  (rs=[]\/∃ b off,a=some ⟨b,off,none⟩/\lo<=b/\b<w.heap.size /\
   ∀ i (hi:i<rs.length),∃ sv,w.cell? ⟨b,off+i*2,none⟩=some sv/\w.cell? ⟨b,off+i*2+1,none⟩=some (.int .i64 rs[i].2)/\IsInts lo w sv rs[i].1/\I64 rs[i].2)
theorem IsRows.below {lo:Nat} {w w':World} {v:Value} {rs:List Rw} (h:IsRows lo w v rs) (hb:Below w.heap.size w w'):IsRows lo w' v rs:=by
 obtain ⟨a,cap,hv,hl,hm,hc⟩:=h
 refine ⟨a,cap,hv,hl,hm,?_⟩
 rcases hc with hc | ⟨b,off,ha,hlo,hbk,hcell⟩
 ·exact .inl hc
 refine .inr ⟨b,off,ha,hlo,Nat.lt_of_lt_of_le hbk hb.size,λi hi => ?_⟩
 obtain ⟨sv,h1,h2,h3,h4⟩:=hcell i hi
 exact ⟨sv,(hb.cell (p:=⟨b,off+i*2,none⟩) hbk).trans h1,(hb.cell (p:=⟨b,off+i*2+1,none⟩) hbk).trans h2,h3.below hb,h4⟩
theorem IsRows.mono {lo lo':Nat} {w:World} {v:Value} {rs:List Rw} (h:IsRows lo w v rs) (hl:lo'<=lo):IsRows lo' w v rs:=by
 obtain ⟨a,cap,hv,h1,hm,hc⟩:=h
 refine ⟨a,cap,hv,h1,hm,?_⟩
 rcases hc with hc | ⟨b,off,ha,hlo,hbk,r⟩
 ·exact .inl hc
 exact .inr ⟨b,off,ha,Nat.le_trans hl hlo,hbk,λi hi=>by obtain ⟨sv,h1,h2,h3,h4⟩:=r i hi;exact ⟨sv,h1,h2,h3.mono hl,h4⟩⟩
variable {lo:Nat}{w:World}{v:Value}
theorem IsRows.shape {rs:List Rw} (h:IsRows lo w v rs):∃ a cap,v = .slice a rs.length cap:=by
 obtain ⟨a,cap,hv,_⟩:=h
 exact ⟨a,cap,hv⟩
theorem IsRows.bound {rs:List Rw} (h:IsRows lo w v rs):rs.length<=9223372036854775807:=by
 obtain ⟨a,cap,_,h1,hm,_⟩:=h
 unfold maxLen at hm;omega
theorem IsRows.at {lo:Nat} {w:World} {a:Option Addr} {n cap:Nat} {rs:List Rw} (h:IsRows lo w (.slice a n cap) rs) (k:Nat) (hk:k<rs.length) :
 ∃ b off sv,a=some ⟨b,off,none⟩/\b<w.heap.size/\w.cell? ⟨b,off+k*2,none⟩=some sv/\w.cell? ⟨b,off+k*2+1,none⟩=some (.int .i64 rs[k].2)/\IsInts lo w sv rs[k].1/\I64 rs[k].2:=by
 obtain ⟨a',cap',hv,_,_,hc⟩:=h
 simp only [Value.slice.injEq] at hv
 rcases hc with rfl | ⟨b,off,ha,_,hb,hc⟩
 ·simp at hk
 obtain ⟨sv,h1,h2,h3,h4⟩:=hc k hk
 exact ⟨b,off,sv,hv.1.trans ha,hb,h1,h2,h3,h4⟩
structure Pq where
 nm:ByteArray
 kind:Int
 start:List Int
 bad:List Rw
 adj:List Int
 goal:List Int
def IsProp (lo:Nat) (w:World) (v:Value) (q:Pq):Prop :=
 ∃ v2 v3 v4 v5,v = .agg #[.string q.nm,.int .i64 q.kind,v2,v3,v4,v5]/\IsInts lo w v2 q.start/\IsRows lo w v3 q.bad/\IsInts lo w v4 q.adj/\IsInts lo w v5 q.goal/\q.nm.size<=maxLen/\I64 q.kind
theorem IsProp.below {lo:Nat} {w w':World} {v:Value} {q:Pq} (h:IsProp lo w v q) (hb:Below w.heap.size w w'):IsProp lo w' v q:=by
 obtain ⟨v2,v3,v4,v5,e,h2,h3,h4,h5,h6⟩:=h
 exact ⟨v2,v3,v4,v5,e,h2.below hb,h3.below hb,h4.below hb,h5.below hb,h6⟩
theorem IsProp.mono {lo lo':Nat} {w:World} {v:Value} {q:Pq} (h:IsProp lo w v q) (hl:lo'<=lo):IsProp lo' w v q:=by
 obtain ⟨v2,v3,v4,v5,e,h2,h3,h4,h5,h6⟩:=h
 exact ⟨v2,v3,v4,v5,e,h2.mono hl,h3.mono hl,h4.mono hl,h5.mono hl,h6⟩
end Go.Proofs.YtmpgnibfhjdfpaaGreat
namespace Go.Proofs.YtmpgnibfhjdfpaaGreat
open Go.RowKit Go.Deep Go.ChangeShapes Go.WideShapes Go.ChangeAt Go.Joins Tryz
theorem ZeJ:Tryz.prog.cellsOf 9=1:=by kernel_rfl
theorem ZcR:Tryz.prog.cellsOf 30=6:=by kernel_rfl
theorem WZ:Tryz.prog.cellsOf 24=1:=by kernel_rfl
theorem ZeM:Tryz.prog.cellsOf 82=2:=by kernel_rfl
theorem cells_rows:Tryz.prog.cellsOf 28=1:=by kernel_rfl
section
variable {H:Type} {enc:TypeId × Value->H} {w:World} {base:Nat} {sp:Nat->Bool} {held:Bool}
variable {n:Nat}{cs:List Value}
set_option maxRecDepth 100000 in
theorem Zfc {x:DataW H × List MemPlace} (h:DataW.trod enc Tryz.prog w base sp held n 82 cs=some x) :
 ∃ v c xs,cs=[v,.int .i64 c]/\IsInts 0 w v xs/\I64 c:=by
 obtain ⟨ys,m,_,_,hlen,_,hf⟩:=DataW.trod_struct underlying82 h
 rw [ZeM] at hlen
 match cs,hlen with
 | [v0,v1],_ =>
   have h0:DataW.trod enc Tryz.prog w base sp held m 24 (([v0,v1].drop 0).take (Tryz.prog.cellsOf 24))=ys[0]? := hf 0 _ rfl
   have h1:DataW.trod enc Tryz.prog w base sp held m 3 (([v0,v1].drop 1).take (Tryz.prog.cellsOf 3))=ys[1]? := hf 1 _ rfl
   rw [WZ] at h0
   rw [ZK] at h1
   simp only [List.drop_zero,List.take_succ_cons,List.take_zero] at h0
   simp only [List.drop_succ_cons,List.drop_zero,List.take_succ_cons,List.take_zero] at h1
   have hx:∀ i,i<2->∃ y,ys[i]? = some y:=λi hi=>⟨ys[i]'(by simp at *;omega),List.getElem?_eq_getElem _⟩
   obtain ⟨y0,e0⟩:=hx 0 (by omega)
   obtain ⟨y1,e1⟩:=hx 1 (by omega)
   rw [e0] at h0
   rw [e1] at h1
   obtain ⟨xs,hxs⟩:=ZU underlying24 underlying3 ZK h0
   obtain ⟨c,rfl,hc⟩:=ZG h1
   exact ⟨v0,c,xs,rfl,hxs,hc⟩
end
end Go.Proofs.YtmpgnibfhjdfpaaGreat
namespace Go.Proofs.YtmpgnibfhjdfpaaGreat
open Go.RowKit Go.Deep Tryz
set_option maxHeartbeats 12800000
def longC (bad:List Rw) (k:Nat):Bool:=(bad.take k).any λr=>decide (60<r.1.length)
variable {k:Nat}
theorem longC_succ {bad:List Rw} (h:k<bad.length) (hk:longC bad k=false) (hp:¬ 60<bad[k].1.length):longC bad (k+1)=false:=by
 unfold longC at *;rw [List.take_succ_eq_append_getElem h,List.any_append,hk];simp;omega
theorem longC_yes {bad:List Rw} (h:k<bad.length) (hp:60<bad[k].1.length):longC bad bad.length=true:=by
 unfold longC;rw [List.take_length,List.any_eq_true];exact ⟨bad[k],List.getElem_mem h,by simpa using hp⟩
def bigQ (q:Pq):Bool:=decide (500<q.nm.size)||decide (60<q.start.length)||decide (60<q.bad.length)||decide (60<q.adj.length)||decide (60<q.goal.length)||longC q.bad q.bad.length
variable {q:Pq}
theorem bigQ_no (h:bigQ q=false):q.start.length<=60/\q.bad.length<=60/\(∀ r∈q.bad,r.1.length<=60)/\q.adj.length<=60/\q.goal.length<=60:=by
 unfold bigQ longC at h
 simp only [Bool.or_eq_false_iff,decide_eq_false_iff_not,List.take_length,List.any_eq_false,decide_eq_true_eq] at h
 obtain ⟨⟨⟨⟨⟨h0,h1⟩,h2⟩,h3⟩,h4⟩,h5⟩:=h
 exact ⟨by omega,by omega,λr hr=>by have:=h5 r hr;omega,by omega,by omega⟩
variable {lo:Nat}{w:World}{v:Value}
theorem Zcd (h:IsProp lo w v q) :
 Calls Tryz.prog 10 #[v] w λe w'=>e = .returned (.bool (bigQ q))/\Below w.heap.size w w':=by
 obtain ⟨v2,v3,v4,v5,rfl,H2,H3,H4,H5,hnm,_⟩:=h
 obtain ⟨nm,kind,start,bad,adj,goal⟩:=q
 dsimp only at H2 H3 H4 H5 hnm ⊢
 obtain ⟨a0,c0,rfl⟩:=H2.shape
 obtain ⟨a1,c1,rfl⟩:=H3.shape
 obtain ⟨a2,c2,rfl⟩:=H4.shape
 obtain ⟨a3,c3,rfl⟩:=H5.shape
 have GH3:=Lib.hid H3
 have E:Hid (bigQ ⟨nm,kind,start,bad,adj,goal⟩=(decide (500<nm.size)||decide (60<start.length)||decide (60<bad.length)||decide (60<adj.length)||decide (60<goal.length)||longC bad bad.length)):=(rfl:bigQ _=_)
 unfold maxLen at hnm
 clear H2 H3 H4 H5
 by_cases t0:500<nm.size
 ·have i0:(500:Int)<(nm.size:Nat):=by omega
  go_enter func10,ntmps10
  go_wp2_with fail
  go_ret
  exact ⟨Zt (by rw [E.out,decide_eq_true t0];simp),Zm _ _⟩
 have i0:¬ (500:Int)<(nm.size:Nat):=by omega
 by_cases t1:60<start.length
 ·have i1:(60:Int)<(start.length:Nat):=by omega
  go_enter func10,ntmps10
  go_wp2_with fail
  go_ret
  exact ⟨Zt (by rw [E.out,decide_eq_true t1];simp),Zm _ _⟩
 have i1:¬ (60:Int)<(start.length:Nat):=by omega
 by_cases t2:60<bad.length
 ·have i2:(60:Int)<(bad.length:Nat):=by omega
  go_enter func10,ntmps10
  go_wp2_with fail
  go_ret
  exact ⟨Zt (by rw [E.out,decide_eq_true t2];simp),Zm _ _⟩
 have i2:¬ (60:Int)<(bad.length:Nat):=by omega
 by_cases t3:60<adj.length
 ·have i3:(60:Int)<(adj.length:Nat):=by omega
  go_enter func10,ntmps10
  go_wp2_with fail
  go_ret
  exact ⟨Zt (by rw [E.out,decide_eq_true t3];simp),Zm _ _⟩
 have i3:¬ (60:Int)<(adj.length:Nat):=by omega
 by_cases t4:60<goal.length
 ·have i4:(60:Int)<(goal.length:Nat):=by omega
  go_enter func10,ntmps10
  go_wp2_with fail
  go_ret
  exact ⟨Zt (by rw [E.out,decide_eq_true t4];simp),Zm _ _⟩
 have i4:¬ (60:Int)<(goal.length:Nat):=by omega
 have E':=Lib.hid (show bigQ ⟨nm,kind,start,bad,adj,goal⟩=longC bad bad.length by rw [E.out,decide_eq_false t0,decide_eq_false t1,decide_eq_false t2,decide_eq_false t3,decide_eq_false t4];rfl)
 clear E
 go_enter func10,ntmps10
 go_wp2_with fail
 obtain ⟨W,hW⟩:∃ W,W=w.alloc (.cells #[.string nm,.int .i64 kind,.slice a0 start.length c0,.slice a1 bad.length c1,.slice a2 adj.length c2,.slice a3 goal.length c3] 30):=⟨_,rfl⟩
 rw [<- hW]
 have HA3:=Lib.hid (show W.cell? ⟨w.heap.size,3,none⟩=some (.slice a1 bad.length c1) by rw [hW];exact (Yk _ _ _ 3 rfl).trans rfl)
 have HBW:=Lib.hid (show Below w.heap.size w W by rw [hW];exact Zm _ _)
 clear hW
 have A3:W.cell? ⟨w.heap.size,3,none⟩=some (.slice a1 bad.length c1):=HA3.out
 go_loop [3] (λv=>∃ k:Nat,k<=bad.length/\v = .int .i64 k/\longC bad k=false) (λv=>bad.length-(intOf v).toNat)
 case atStart=>exact ⟨0,Nat.zero_le _,rfl,rfl⟩
 case round =>
  obtain ⟨k,hk,rfl,hs⟩:=hrel
  have HS:=Lib.hid hs
  clear hs
  by_cases h1:k<bad.length
  ·obtain ⟨b,off,sv,rfl,hb,q1,q2,q3,_⟩:=GH3.out.at k h1
   obtain ⟨x1,d1,rfl⟩:=q3.shape
   have g1:=keep1 q1 HBW.out
   by_cases h2:60<(bad[k]'h1).1.length
   ·have h2':(60:Int)<(((bad[k]'h1).1.length:Nat):Int):=by omega
    go_wp2_with fail
    go_ret
    exact ⟨Zt (by rw [E'.out,longC_yes h1 h2]),HBW.out⟩
   have h2':¬ (60:Int)<(((bad[k]'h1).1.length:Nat):Int):=by omega
   go_wp2_with fail
   go_round
   case rel=>exact ⟨k+1,by omega,by go_num,longC_succ h1 HS.out h2⟩
   case measure=>simp [intOf];omega
  go_wp2_with fail
  go_ret
  exact ⟨Zt (by rw [E'.out];have:k=bad.length:=by omega
                rw [<- this,HS.out]),HBW.out⟩
end Go.Proofs.YtmpgnibfhjdfpaaGreat
namespace Go.Proofs.YtmpgnibfhjdfpaaGreat
open Go.RowKit Go.Deep Go.ChangeShapes Go.WideShapes Go.ChangeAt Go.Joins Tryz
def RwEl (lo:Nat) (w:World) (cs:List Value) (r:Rw):Prop:=∃ v,cs=[v,.int .i64 r.2]/\IsInts lo w v r.1/\I64 r.2
def IsPropX (lo:Nat) (w:World) (v:Value) (q:Pq):Prop :=
 ∃ v2 v3 v4 v5,v = .agg #[.string q.nm,.int .i64 q.kind,v2,v3,v4,v5]/\IsInts lo w v2 q.start/\IsSl 2 RwEl lo w v3 q.bad/\IsInts lo w v4 q.adj/\IsInts lo w v5 q.goal/\q.nm.size<=maxLen/\I64 q.kind
section
variable {H:Type} {enc:TypeId × Value->H} {w:World} {base:Nat} {sp:Nat->Bool} {held:Bool}
variable {n:Nat}{cs:List Value}
theorem rw_of_trod {x:DataW H × List MemPlace} (h:DataW.trod enc Tryz.prog w base sp held n 82 cs=some x):∃ r,RwEl 0 w cs r:=by
 obtain ⟨v,c,xs,e,h1,h2⟩:=Zfc h
 exact ⟨(xs,c),v,e,h1,h2⟩
set_option maxRecDepth 100000 in
theorem Zdi {x:DataW H × List MemPlace} (h:DataW.trod enc Tryz.prog w base sp held n 30 cs=some x) :
 ∃ v q,v = .agg cs.toArray/\IsPropX 0 w v q:=by
 obtain ⟨ys,m,_,_,hlen,_,hf⟩:=DataW.trod_struct underlying30 h
 rw [ZcR] at hlen
 match cs,hlen with
 | [v0,v1,v2,v3,v4,v5],_ =>
   have h0:DataW.trod enc Tryz.prog w base sp held m 9 (([v0,v1,v2,v3,v4,v5].drop 0).take (Tryz.prog.cellsOf 9))=ys[0]? := hf 0 _ rfl
   rw [ZeJ] at h0
   have h1:DataW.trod enc Tryz.prog w base sp held m 3 (([v0,v1,v2,v3,v4,v5].drop 1).take (Tryz.prog.cellsOf 3))=ys[1]? := hf 1 _ rfl
   rw [ZK] at h1
   have h2:DataW.trod enc Tryz.prog w base sp held m 24 (([v0,v1,v2,v3,v4,v5].drop 2).take (Tryz.prog.cellsOf 24))=ys[2]? := hf 2 _ rfl
   rw [WZ] at h2
   have h3:DataW.trod enc Tryz.prog w base sp held m 28 (([v0,v1,v2,v3,v4,v5].drop 3).take (Tryz.prog.cellsOf 28))=ys[3]? := hf 3 _ rfl
   rw [cells_rows] at h3
   have h4:DataW.trod enc Tryz.prog w base sp held m 24 (([v0,v1,v2,v3,v4,v5].drop 4).take (Tryz.prog.cellsOf 24))=ys[4]? := hf 4 _ rfl
   rw [WZ] at h4
   have h5:DataW.trod enc Tryz.prog w base sp held m 24 (([v0,v1,v2,v3,v4,v5].drop 5).take (Tryz.prog.cellsOf 24))=ys[5]? := hf 5 _ rfl
   rw [WZ] at h5
   simp only [List.drop_zero,List.take_succ_cons,List.take_zero] at h0
   simp only [List.drop_succ_cons,List.drop_zero,List.take_succ_cons,List.take_zero] at h1 h2 h3 h4 h5
   have hx:∀ i,i<6->∃ y,ys[i]? = some y:=λi hi=>⟨ys[i]'(by simp at *;omega),List.getElem?_eq_getElem _⟩
   obtain ⟨y0,e0⟩:=hx 0 (by omega)
   rw [e0] at h0
   obtain ⟨y1,e1⟩:=hx 1 (by omega)
   rw [e1] at h1
   obtain ⟨y2,e2⟩:=hx 2 (by omega)
   rw [e2] at h2
   obtain ⟨y3,e3⟩:=hx 3 (by omega)
   rw [e3] at h3
   obtain ⟨y4,e4⟩:=hx 4 (by omega)
   rw [e4] at h4
   obtain ⟨y5,e5⟩:=hx 5 (by omega)
   rw [e5] at h5
   obtain ⟨nm,hs,_,hnm⟩:=DataW.trod_string underlying9 h0
   simp at hs
   subst hs
   obtain ⟨kind,rfl,hk⟩:=ZG h1
   obtain ⟨start,H2⟩:=ZU underlying24 underlying3 ZK h2
   obtain ⟨bad,H3⟩:=Y6 underlying28 ZeM (by omega) (λ_ _ _ hh _=>rw_of_trod hh) h3
   obtain ⟨adj,H4⟩:=ZU underlying24 underlying3 ZK h4
   obtain ⟨goal,H5⟩:=ZU underlying24 underlying3 ZK h5
   exact ⟨_,⟨nm,kind,start,bad,adj,goal⟩,rfl,v2,v3,v4,v5,rfl,H2,H3,H4,H5,hnm,hk⟩
end
def cRw (r:Rw):List AV:=[Zc r.1,iv r.2]
theorem lenRw (r:Rw):(cRw r).length=2:=rfl
def cPq (q:Pq):List AV:=[sv q.nm,iv q.kind,Zc q.start,slA 2 cRw q.bad,Zc q.adj,Zc q.goal]
theorem plain_rw (r:Rw):∀ X∈cRw r,Plain X:=by
 intro X hX;simp only [cRw,List.mem_cons,List.not_mem_nil,or_false] at hX
 rcases hX with rfl | rfl
 ·exact Zx _
 exact .v _
theorem Yd (q:Pq):∀ X∈cPq q,Plain X:=by
 intro X hX;simp only [cPq,List.mem_cons,List.not_mem_nil,or_false] at hX
 rcases hX with rfl | rfl | rfl | rfl | rfl | rfl<;>first | exact .v _ | exact Zx _ | exact Yj plain_rw _
structure PqOk (q:Pq):Prop where
 nm:q.nm.size<=maxLen
 kind:I64 q.kind
 start:InOk q.start
 bad:∀ r∈q.bad,InOk r.1/\I64 r.2/\r.1.length<=9223372036854775807
 adj:InOk q.adj
 goal:InOk q.goal
 lstart:q.start.length<=9223372036854775807
 lbad:q.bad.length<=9223372036854775807
 ladj:q.adj.length<=9223372036854775807
 lgoal:q.goal.length<=9223372036854775807
theorem IsPropX.ok {lo:Nat} {w:World} {v:Value} {q:Pq} (h:IsPropX lo w v q):PqOk q:=by
 obtain ⟨v2,v3,v4,v5,_,h2,h3,h4,h5,h6,h7⟩:=h
 exact ⟨h6,h7,h2.ok,h3.all λcs r hr=>by obtain ⟨v,_,a,b⟩:=hr;exact ⟨a.ok,b,a.len⟩,h4.ok,h5.ok,h2.len,h3.bound,h4.len,h5.len⟩
section
variable {F ok:Nat->Prop} {lo:Nat} {w:World}
variable {v:Value}{q:Pq}
theorem prop_pu (hok:∀ b,lo<=b->b<w.heap.size->ok b) (h:IsPropX lo w v q):Pu F w ok (.agg (cPq q)) v:=by
 obtain ⟨v2,v3,v4,v5,rfl,h2,h3,h4,h5,_,_⟩:=h
 refine .agg rfl λj hj => ?_
 match j,hj with
 | 0,_=>exact .v _
 | 1,_=>exact .v _
 | 2,_=>exact YT hok h2
 | 3,_ =>
   refine sl_pu lenRw hok (λr vs hr j hj => ?_) h3
   obtain ⟨v,rfl,a,_⟩:=hr
   match j,hj with
   | 0,_=>exact YT hok a
   | 1,_=>exact .v _
 | 4,_=>exact YT hok h4
 | 5,_=>exact YT hok h5
theorem cells2 {vs:List Value} (h:vs.length=2):vs=[vs.getD 0 undef,vs.getD 1 undef]:=by
 match vs,h with
 | [_,_],_=>rfl
theorem prop_of (hq:PqOk q) (hlo:∀ b,ok b->lo<=b) (h:Pu F w ok (.agg (cPq q)) v):IsProp lo w v q:=by
 obtain ⟨vs,rfl,hl,h⟩:=Yt h
 have hz:(cPq q).length=6:=rfl
 have h3:IsSl 2 RwEl lo w (vs.getD 3 undef) q.bad:=ZbT lenRw hlo (λr=>InOk r.1/\I64 r.2) (λr hr=>⟨(hq.bad r hr).1,(hq.bad r hr).2.1⟩) (λr ws hr hl hp=>⟨ws.getD 0 undef,by
  have e:=cells2 hl
  rw [show ws.getD 1 undef = .int .i64 r.2 from (hp 1 (by rw [lenRw];omega)).v_inv] at e
  exact e,Yf hr.1 hlo (hp 0 (by rw [lenRw];omega)),hr.2⟩) (h 3 (by omega))
 have h3':IsRows lo w (vs.getD 3 undef) q.bad:=by
  obtain ⟨a,cap,hv,a1,a2,a3,a4⟩:=h3
  refine ⟨a,cap,hv,a1,a2,?_⟩
  rcases a4 with a4 | ⟨b,off,b1,b2,b3,b4⟩
  ·exact .inl a4
  refine .inr ⟨b,off,b1,b2,b3,λi hi => ?_⟩
  obtain ⟨cs,c1,c2,v,rfl,c4,c5⟩:=b4 i hi
  exact ⟨v,(c2 0 (by omega)),(c2 1 (by omega)),c4,c5⟩
 refine ⟨vs.getD 2 undef,vs.getD 3 undef,vs.getD 4 undef,vs.getD 5 undef,?_,Yf hq.start hlo (h 2 (by omega)),h3',Yf hq.adj hlo (h 4 (by omega)),Yf hq.goal hlo (h 5 (by omega)),hq.nm,hq.kind⟩
 have e:=cells6 (hl.trans hz)
 rw [show vs.getD 0 undef = .string q.nm from (h 0 (by omega)).v_inv,show vs.getD 1 undef = .int .i64 q.kind from (h 1 (by omega)).v_inv] at e
 exact congrArg (λl:List Value=>Value.agg l.toArray) e
end
section
variable {J:World->Prop}
variable {q:Pq}
theorem ZdH (hq:PqOk q):Ctr Tryz.prog J 10 [.agg (cPq q)] (bv (bigQ q)):=ctr1 λw v _ h=>(Zcd (prop_of hq lo0 h)).mono λ_ _=>ret_sc
theorem Zct (n:Nat) (hn:n<=9223372036854775807) (xs:List Int) (hx:InOk xs):Ctr Tryz.prog J 51 [Zc xs,iv n] (iv (setE n xs)):=ctr2 λw v v' _ h h'=>by
 rw [h'.v_inv];exact (Ks n hn (Yf hx lo0 h)).mono λ_ _=>ret_sc
theorem KX (n:Nat) (hn:n<=9223372036854775807) (xs:List Int) (hx:InOk xs):Ctr Tryz.prog J 52 [Zc xs,iv n] (iv (someE n xs)):=ctr2 λw v v' _ h h'=>by
 rw [h'.v_inv];exact (Kv n hn (Yf hx lo0 h)).mono λ_ _=>ret_sc
theorem ZaK (n lo hi:Int):Ctr Tryz.prog J 88 [iv n,iv lo,iv hi] (bv (inB lo hi n)):=ctr3 λw v v' v'' _ h h' h''=>by
 rw [h.v_inv,h'.v_inv,h''.v_inv];exact (Z4 n lo hi w).mono λ_ _=>Zay
theorem WK (x:Int) (n:Nat) (hn:n<=9223372036854775807):Ctr Tryz.prog J 98 [iv x,iv n] (bv (ixB n x)):=ctr2 λw v v' _ h h'=>by
 rw [h.v_inv,h'.v_inv];exact (Zz x n hn w).mono λ_ _=>Zay
theorem Zbb (s:ByteArray) (hs:s.size<=maxLen):Ctr Tryz.prog J 50 [sv s] (bv (nameB s.toList)):=ctr1 λw v _ h=>by
 rw [h.v_inv];exact (YI s w hs).mono λ_ _=>ret_sc
end
end Go.Proofs.YtmpgnibfhjdfpaaGreat
namespace Go.Proofs.YtmpgnibfhjdfpaaGreat
open Go.RowKit Go.Deep Tryz
def noI (xs:List Int) (x:Int) (k:Nat):Prop:=∀ j (h:j<xs.length),j<k->xs[j]≠x
theorem noI_zero (xs:List Int) (x:Int):noI xs x 0:=λ_ _ h=>absurd h (by omega)
variable {xs:List Int}{x:Int}{k:Nat}
theorem noI_succ (hk:k<xs.length) (h:noI xs x k) (e:¬ x=xs[k]):noI xs x (k+1):=λj hj h'=>by
 by_cases c:j=k
 ·subst c;exact λh=>e h.symm
 exact h j hj (by omega)
theorem noI_succ' (hk:k<xs.length) (h:noI xs x k) (e:¬ xs[k]=x):noI xs x (k+1):=noI_succ hk h (λc=>e c.symm)
def idxI (xs:List Int) (x:Int):Int:=if x∈xs then ((xs.findIdx (· == x):Nat):Int) else -1
theorem idx_yes (hk:k<xs.length) (h:noI xs x k) (e:x=xs[k]):(k:Int)=idxI xs x:=by
 have hm:x∈xs:=by rw [e];exact List.getElem_mem hk
 have:xs.findIdx (· == x)=k:=(List.findIdx_eq hk).2 ⟨by simp [<- e],λj hj=>by simpa using h j (by omega) hj⟩
 unfold idxI;rw [if_pos hm,this]
theorem has_no (hk:¬ k<xs.length) (h:noI xs x k):decide (x∈xs)=false:=by
 rw [decide_eq_false_iff_not];intro hm
 obtain ⟨j,hj,e⟩:=List.getElem_of_mem hm
 exact h j hj (by omega) e
theorem has_yes (hk:k<xs.length) (e:xs[k]=x):decide (x∈xs)=true:=by
 rw [decide_eq_true_eq,<- e];exact List.getElem_mem hk
theorem idx_no (hk:¬ k<xs.length) (h:noI xs x k):(-1:Int)=idxI xs x:=by
 have:=has_no hk h
 unfold idxI;rw [if_neg (by simpa using this)]
theorem idx_has (xs:List Int) (x:Int):decide (0<=idxI xs x)=decide (x∈xs):=by
 unfold idxI
 by_cases h:x∈xs
 ·rw [if_pos h];simp [h]
 rw [if_neg h];simp [h]
def subB (init xs:List Int) (k:Nat):Bool:=(xs.take k).all λx=>decide (x∈init)
variable {init:List Int}
theorem Zau (hk:k<xs.length) (h:subB init xs k=true) (e:decide (xs[k]∈init)=true):subB init xs (k+1)=true:=Zdx hk h e
theorem subB_no (hk:k<xs.length) (e:decide (xs[k]∈init)=false):subB init xs xs.length=false:=by
 unfold subB;rw [List.take_length];exact all_no hk e
def cntE (n:Nat) (c:Rw):Int:=if setE n c.1=0 then (if (c.1.length:Int)=0 then 1 else if inB 1 3 c.2=true then 0 else 1) else setE n c.1
def cntsE (n:Nat):List Rw->Int
 | []=>0
 | c::cs=>if cntE n c=0 then cntsE n cs else cntE n c
def cntOk (n:Nat) (cs:List Rw) (k:Nat):Prop:=∀ j (h:j<cs.length),j<k->cntE n cs[j]=0
theorem WX (n:Nat) (cs:List Rw):cntOk n cs 0:=λ_ _ h=>absurd h (by omega)
variable {n:Nat}
theorem WY {cs:List Rw} (hk:k<cs.length) (h:cntOk n cs k) (e:cntE n cs[k]=0):cntOk n cs (k+1):=λj hj h'=>by
 by_cases c:j=k
 ·subst c;exact e
 exact h j hj (by omega)
theorem ZcO {n:Nat}:∀ {cs:List Rw} {k:Nat} (hk:k<cs.length),cntOk n cs k->cntE n cs[k]≠0->cntsE n cs=cntE n cs[k]
 | c::cs,0,_,_,e=>by
   have e':¬ cntE n c=0:=e
   unfold cntsE;rw [if_neg e'];rfl
 | c::cs,k+1,hk,h,e=>by
   have h0:cntE n c=0:=h 0 (by simp) (by omega)
   unfold cntsE
   rw [if_pos h0]
   exact ZcO (cs:=cs) (k:=k) (by simpa using hk) (λj hj h'=>h (j+1) (by simpa using hj) (by omega)) e
theorem ZeE {n:Nat}:∀ {cs:List Rw},cntOk n cs cs.length->cntsE n cs=0
 | [],_=>rfl
 | c::cs,h=>by
   have h0:cntE n c=0:=h 0 (by simp) (by simp)
   unfold cntsE
   rw [if_pos h0]
   exact ZeE (cs:=cs) (λj hj h'=>h (j+1) (by simpa using hj) (by simpa using h'))
def adjB (n:Nat) (xs:List Int) (k:Nat):Bool:=(xs.take k).all λx=>ixB n x
theorem Zb8 (hk:k<xs.length) (h:adjB n xs k=true) (e:ixB n xs[k]=true):adjB n xs (k+1)=true:=Zdx hk h e
theorem adjB_no (hk:k<xs.length) (e:ixB n xs[k]=false):adjB n xs xs.length=false:=by
 unfold adjB;rw [List.take_length];exact all_no hk e
def adjE (p:Fm) (xs:List Int):Int :=
 if (xs.length:Int)=0 then 0 else if p.top=1 then 6 else if (xs.length:Int)=2 then (if adjB p.sz.length xs xs.length=true then 0 else 5) else 1
theorem adj_two (h:(xs.length:Int)=2) (h0:ixB n (xs[0]'(by omega))=true) (h1:ixB n (xs[1]'(by omega))=true):adjB n xs xs.length=true:=by
 have:xs.length=2:=by omega
 match xs,this with
 | [a,b],_=>simp [adjB] at *;exact ⟨h0,h1⟩
def badE (p:Fm) (q:Pq):Int :=
 if (q.bad.length:Int)=0/\(q.adj.length:Int)=0 then 1
 else if (3:Int)<(q.bad.length:Int) then 4
 else if cntsE p.sz.length q.bad=0 then adjE p q.adj else cntsE p.sz.length q.bad
def vp3 (p:Fm) (q:Pq) (z:Int):Int:=if setE p.sz.length q.start=0 then (if subB p.init q.start q.start.length=true then z else 5) else setE p.sz.length q.start
def vp2 (p:Fm) (q:Pq):Int :=
 if q.kind=1 then (if (0:Int)<(q.goal.length:Int) then 1 else vp3 p q (badE p q))
 else if q.kind=2 then (if (0:Int)<(q.bad.length:Int) then 1 else if (0:Int)<(q.adj.length:Int) then 1 else vp3 p q (someE p.sz.length q.goal)) else 1
def vpE (p:Fm) (q:Pq):Int:=if valE p=0 then (if nameB q.nm.toList=true then vp2 p q else 2) else valE p
variable {p:Fm}{q:Pq}
theorem vp_v (h:¬ valE p=0):vpE p q=valE p:=if_neg h
theorem vp_n (h:valE p=0) (h2:nameB q.nm.toList=false):vpE p q=2:=by unfold vpE;rw [if_pos h,if_neg (by rw [h2];simp)]
theorem WA (h:valE p=0) (h2:nameB q.nm.toList=true):vpE p q=vp2 p q:=by unfold vpE;rw [if_pos h,if_pos h2]
theorem v2_k (h:¬ q.kind=1) (h2:¬ q.kind=2):vp2 p q=1:=by unfold vp2;rw [if_neg h,if_neg h2]
theorem v2_g (h:q.kind=1) (h2:(0:Int)<(q.goal.length:Int)):vp2 p q=1:=by unfold vp2;rw [if_pos h,if_pos h2]
theorem Zcf (h:q.kind=1) (h2:¬ (0:Int)<(q.goal.length:Int)):vp2 p q=vp3 p q (badE p q):=by unfold vp2;rw [if_pos h,if_neg h2]
theorem v2_b (h:¬ q.kind=1) (h2:q.kind=2) (h3:(0:Int)<(q.bad.length:Int)):vp2 p q=1:=by unfold vp2;rw [if_neg h,if_pos h2,if_pos h3]
theorem v2_a (h:¬ q.kind=1) (h2:q.kind=2) (h3:¬ (0:Int)<(q.bad.length:Int)) (h4:(0:Int)<(q.adj.length:Int)):vp2 p q=1:=by unfold vp2;rw [if_neg h,if_pos h2,if_neg h3,if_pos h4]
theorem v2_2 (h:¬ q.kind=1) (h2:q.kind=2) (h3:¬ (0:Int)<(q.bad.length:Int)) (h4:¬ (0:Int)<(q.adj.length:Int)):vp2 p q=vp3 p q (someE p.sz.length q.goal):=by unfold vp2;rw [if_neg h,if_pos h2,if_neg h3,if_neg h4]
variable {z:Int}
theorem v3_s (h:¬ setE p.sz.length q.start=0):vp3 p q z=setE p.sz.length q.start:=if_neg h
theorem v3_i (h:setE p.sz.length q.start=0) (hk:k<q.start.length) (e:decide (q.start[k]∈p.init)=false):vp3 p q z=5:=by
 unfold vp3;rw [if_pos h,if_neg (by rw [subB_no hk e];simp)]
theorem Zce (h:setE p.sz.length q.start=0) (e:subB p.init q.start q.start.length=true):vp3 p q z=z:=by
 unfold vp3;rw [if_pos h,if_pos e]
theorem some_e (h:¬ setE n xs=0):someE n xs=setE n xs:=by
 unfold someE;rw [if_neg];intro e;rw [List.eq_nil_of_length_eq_zero e,KC] at h;exact h rfl
theorem some_l (h:(xs.length:Int)=0):someE n xs=1:=by unfold someE;rw [if_pos (by omega)]
theorem some_0 (h:setE n xs=0) (h2:¬ (xs.length:Int)=0):someE n xs=0:=by unfold someE;rw [if_neg (by omega),h]
theorem bad_0 (h:(q.bad.length:Int)=0) (h2:(q.adj.length:Int)=0):badE p q=1:=if_pos ⟨h,h2⟩
theorem bad_4 (h:¬ ((q.bad.length:Int)=0/\(q.adj.length:Int)=0)) (h2:(3:Int)<(q.bad.length:Int)):badE p q=4:=by unfold badE;rw [if_neg h,if_pos h2]
structure BP (q:Pq):Prop where
 a:¬ ((q.bad.length:Int)=0/\(q.adj.length:Int)=0)
 b:¬ (3:Int)<(q.bad.length:Int)
theorem Zcm (h:BP q) (hk:k<q.bad.length) (ho:cntOk p.sz.length q.bad k) {u:Int} (e:cntE p.sz.length q.bad[k]=u) (hu:u≠0):badE p q=u:=by
 have:=ZcO hk ho (by rw [e];exact hu)
 unfold badE;rw [if_neg h.a,if_neg h.b,if_neg (by rw [this,e];exact hu),this,e]
theorem Zb4 (h:BP q) (ho:cntOk p.sz.length q.bad q.bad.length):badE p q=adjE p q.adj:=by
 unfold badE;rw [if_neg h.a,if_neg h.b,if_pos (ZeE ho)]
theorem cnt_s {c:Rw} (h:¬ setE n c.1=0):cntE n c=setE n c.1:=if_neg h
theorem cnt_l {c:Rw} (h:setE n c.1=0) (h2:(c.1.length:Int)=0):cntE n c=1:=by unfold cntE;rw [if_pos h,if_pos h2]
theorem cnt_b {c:Rw} (h:setE n c.1=0) (h2:¬ (c.1.length:Int)=0) (h3:inB 1 3 c.2=false):cntE n c=1:=by unfold cntE;rw [if_pos h,if_neg h2,if_neg (by rw [h3];simp)]
theorem cnt_0 {c:Rw} (h:setE n c.1=0) (h2:¬ (c.1.length:Int)=0) (h3:inB 1 3 c.2=true):cntE n c=0:=by unfold cntE;rw [if_pos h,if_neg h2,if_pos h3]
theorem some_ne {c:Rw} (h:¬ someE n c.1=0):cntE n c=someE n c.1:=by
 by_cases e:setE n c.1=0
 ·by_cases l:(c.1.length:Int)=0
  ·rw [cnt_l e l,some_l l]
  exact absurd (some_0 e l) h
 rw [cnt_s e,some_e e]
theorem Za7 {c:Rw} (h:someE n c.1=0):setE n c.1=0/\¬ (c.1.length:Int)=0:=by
 by_cases l:(c.1.length:Int)=0
 ·rw [some_l l] at h;cases h
 refine ⟨?_,l⟩
 by_cases e:setE n c.1=0
 ·exact e
 rw [some_e e] at h;exact h
theorem adj_0 (h:(xs.length:Int)=0):adjE p xs=0:=if_pos h
theorem adj_6 (h:¬ (xs.length:Int)=0) (h2:p.top=1):adjE p xs=6:=by unfold adjE;rw [if_neg h,if_pos h2]
theorem adj_1 (h:¬ (xs.length:Int)=0) (h2:¬ p.top=1) (h3:¬ (xs.length:Int)=2):adjE p xs=1:=by unfold adjE;rw [if_neg h,if_neg h2,if_neg h3]
theorem adj_5 (h:¬ (xs.length:Int)=0) (h2:¬ p.top=1) (h3:(xs.length:Int)=2) (hk:k<xs.length) (e:ixB p.sz.length xs[k]=false):adjE p xs=5:=by
 unfold adjE;rw [if_neg h,if_neg h2,if_pos h3,if_neg (by rw [adjB_no hk e];simp)]
theorem adj_k (h:¬ (xs.length:Int)=0) (h2:¬ p.top=1) (h3:(xs.length:Int)=2) (e:adjB p.sz.length xs xs.length=true):adjE p xs=0:=by
 unfold adjE;rw [if_neg h,if_neg h2,if_pos h3,if_pos e]
namespace Jd
def prE (p:Fm) (q:Pq) (kd:Int):Int:=if vpE p q=0 then (if q.kind=kd then 0 else 7) else vpE p q
variable {kd:Int}
theorem prE_o (h:vpE p q=0) (h2:q.kind=kd):prE p q kd=0:=by unfold prE;rw [if_pos h,if_pos h2]
theorem prE_in (h:prE p q kd=0):vpE p q=0/\q.kind=kd:=by
 unfold prE at h
 split at h
 ·rename_i hv
  split at h
  ·rename_i hk;exact ⟨hv,hk⟩
  cases h
 rename_i hv;exact absurd h hv
def lkF (top:Int) (sh:List Int) (n i:Nat):Int:=if top=4 then (trun sh sh.length).fi i else (rowL top n i).1
def lkS (top:Int) (sh:List Int) (n i:Nat):Int:=if top=4 then (trun sh sh.length).se i else (rowL top n i).2.1
def sec (xs:List Int) (y j:Int):Bool:=decide (0<=j)&&decide (xs.getD j.toNat 0=y)
def nxB (top x y:Int) (xs:List Int) (F S:Nat->Int) (i:Nat):Bool:=decide (xs.getD i 0=x)&&(sec xs y (S i)||(decide (top=4)&&sec xs y (F i)))
def adV (top x y:Int) (xs:List Int) (F S:Nat->Int):Bool:=(List.range xs.length).any (nxB top x y xs F S)
def noN (top x y:Int) (xs:List Int) (F S:Nat->Int) (k:Nat):Prop:=∀ i,i<k->nxB top x y xs F S i=false
section
variable {top x y:Int} {xs:List Int} {F S:Nat->Int} {k:Nat}
theorem noN_zero:noN top x y xs F S 0:=λ_ h=>absurd h (by omega)
theorem noN_succ (h:noN top x y xs F S k) (e:nxB top x y xs F S k=false):noN top x y xs F S (k+1):=λi hi=>by
 by_cases c:i=k
 ·subst c;exact e
 exact h i (by omega)
theorem adV_hit (hk:k<xs.length) (h:nxB top x y xs F S k=true):adV top x y xs F S=true:=List.any_eq_true.2 ⟨k,List.mem_range.2 hk,h⟩
theorem adV_none (hk:xs.length<=k) (h:noN top x y xs F S k):adV top x y xs F S=false:=List.any_eq_false.2 λi hi=>by
 have:=h i (by have:=List.mem_range.1 hi;omega)
 simp [this]
end
def cP (xs l:List Int):Nat:=xs.countP λx=>decide (x∈l)
variable {l:List Int}
theorem cP_in (hk:k<xs.length) (h:decide (xs[k]∈l)=true):cP (xs.take (k+1)) l=cP (xs.take k) l+1:=by
 unfold cP
 rw [List.take_succ_eq_append_getElem hk,List.countP_append,List.countP_singleton,if_pos h]
theorem cP_out (hk:k<xs.length) (h:decide (xs[k]∈l)=false):cP (xs.take (k+1)) l=cP (xs.take k) l:=by
 unfold cP
 rw [List.take_succ_eq_append_getElem hk,List.countP_append,List.countP_singleton,if_neg (by rw [h];simp)]
 rfl
theorem cP_le (xs l:List Int) (k:Nat):cP (xs.take k) l<=k:=Nat.le_trans List.countP_le_length (List.length_take_le _ _)
def alB (xs:List Int) (bad:List Rw):Bool:=bad.all λr=>decide (r.2<=((cP xs r.1:Nat):Int))
def upB (xs:List Int) (bad:List Rw) (k:Nat):Prop:=∀ i (h:i<bad.length),i<k->bad[i].2<=((cP xs bad[i].1:Nat):Int)
theorem upB_zero (xs:List Int) (bad:List Rw):upB xs bad 0:=λ_ _ h=>absurd h (by omega)
theorem upB_succ {bad:List Rw} (hk:k<bad.length) (h:upB xs bad k) (e:¬ ((cP xs bad[k].1:Nat):Int)<bad[k].2):upB xs bad (k+1):=λi hi h'=>by
 by_cases c:i=k
 ·subst c;omega
 exact h i hi (by omega)
theorem alB_no {bad:List Rw} (hk:k<bad.length) (h:((cP xs bad[k].1:Nat):Int)<bad[k].2):alB xs bad=false:=by
 unfold alB
 rw [List.all_eq_false]
 exact ⟨_,List.getElem_mem hk,by simp;omega⟩
theorem alB_yes {bad:List Rw} (hk:¬ k<bad.length) (h:upB xs bad k):alB xs bad=true:=by
 unfold alB
 rw [List.all_eq_true]
 intro r hr
 obtain ⟨i,hi,rfl⟩:=List.mem_iff_getElem.1 hr
 exact decide_eq_true (h i hi (by omega))
def adX (q:Pq):Int:=q.adj.getD 0 0
def adY (q:Pq):Int:=q.adj.getD 1 0
def bdV (p:Fm) (q:Pq) (c:Cf):Bool:=alB (c.st.take c.cor.toNat) q.bad&&(decide ((q.adj.length:Int)=0)||adV p.top (adX q) (adY q) c.st (lkF p.top c.sh c.st.length) (lkS p.top c.sh c.st.length))
def okB (p:Fm) (c:Cf):Bool:=Ct.plB p c && !(decide (p.top=4) && !isShp c.sh (c.st.length:Int))
def lkC (top:Int) (sh:List Int) (n:Nat) (j:Nat):Int:=if j % 3=0 then lkF top sh n (j / 3) else if j % 3=1 then lkS top sh n (j / 3) else if top=4 then (trun sh sh.length).pa (j / 3) else (rowL top n (j / 3)).2.2
def lkA (top:Int) (sh:List Int) (n:Nat):AV := .sl 3 n ((List.range (n*3)).map λj=>iv (lkC top sh n j))
variable {top:Int}{sh:List Int}{i:Nat}
theorem lkC_F :lkC top sh n (i*3)=lkF top sh n i:=by unfold lkC;rw [if_pos (by omega)];congr 1;omega
theorem lkC_S :lkC top sh n (i*3+1)=lkS top sh n i:=by unfold lkC;rw [if_neg (by omega),if_pos (by omega)];congr 1;omega
theorem lkA_tree :Ns.lkT sh=lkA 4 sh sh.length:=by
 unfold Ns.lkT lkA
 congr 1
theorem lkZ_row (ht:¬ top=4):Ns.lkZ top n n=(List.range (n*3)).map λj=>iv (lkC top sh n j):=by
 unfold Ns.lkZ
 rw [Nat.sub_self,List.replicate_zero,List.flatten_nil,List.append_nil]
 have key:∀ k,(List.range k).flatMap (λi:Nat=>Ns.lk3 top n i)=(List.range (k*3)).map λj=>iv (lkC top sh n j):=by
  intro k
  induction k with
  | zero=>rfl
  | succ k ih =>
    rw [List.range_succ,List.flatMap_append,ih,show (k+1)*3=k*3+1+1+1 by omega,List.range_succ,List.range_succ,List.range_succ,List.map_append,List.map_append,List.map_append]
    have e1:lkC top sh n (k*3)=(rowL top n k).1:=by rw [lkC_F];exact if_neg ht
    have e2:lkC top sh n (k*3+1)=(rowL top n k).2.1:=by rw [lkC_S];exact if_neg ht
    have e3:lkC top sh n (k*3+1+1)=(rowL top n k).2.2:=by
     unfold lkC
     rw [if_neg (by omega),if_neg (by omega),if_neg ht]
     congr 3;omega
    simp only [List.map_cons,List.map_nil,e1,e2,e3,List.flatMap_cons,List.flatMap_nil,List.append_nil,Ns.lk3,List.append_assoc,List.cons_append,List.nil_append]
 exact key n
theorem lk_at (h:i<n):((List.range (n*3)).map λj=>iv (lkC top sh n j))[i*3]? = some (iv (lkF top sh n i)):=by
 rw [List.getElem?_map,List.getElem?_range (by omega),Option.map_some,lkC_F]
theorem lk_at1 (h:i<n):((List.range (n*3)).map λj=>iv (lkC top sh n j))[i*3+1]? = some (iv (lkS top sh n i)):=by
 rw [List.getElem?_map,List.getElem?_range (by omega),Option.map_some,lkC_S]
def LkOk (top:Int) (sh:List Int) (n:Nat):Prop:=∀ i,i<n->lkF top sh n i<n/\lkS top sh n i<n
theorem lk_tree (h:shp sh=true):LkOk 4 sh sh.length:=λi hi=>by
 have T:=(Zbz sh h).1
 unfold lkF lkS
 rw [if_pos rfl,if_pos rfl]
 have h1:=T.fst i hi
 have h2:=T.snd i hi
 constructor
 ·rcases h1 with e | ⟨j,hj,e,_⟩<;>omega
 rcases h2 with e | ⟨j,hj,e,_⟩<;>omega
theorem lk_row (h:top=2\/top=3):LkOk top sh n:=λi hi=>by
 unfold lkF lkS
 rw [if_neg (by omega),if_neg (by omega)]
 unfold rowL
 dsimp only
 constructor<;>(repeat' split)<;>omega
theorem ok_pl {c:Cf} (h:okB p c=true):Ct.plB p c=true:=by
 unfold okB at h
 rw [Bool.and_eq_true] at h
 exact h.1
theorem shpY {c:Cf} (h:okB p c=true) (h4:p.top=4):isShp c.sh (c.st.length:Int)=true:=by
 unfold okB at h
 rw [Bool.and_eq_true] at h
 have:=h.2
 rw [decide_eq_true h4] at this
 simpa using this
theorem bdV_two {sh A B se fa:List Int} {val:Int}:bdV p q (Ct.two sh A B se fa val)=(alB A q.bad&&(decide ((q.adj.length:Int)=0)||adV p.top (adX q) (adY q) (A++B) (lkF p.top sh (A++B).length) (lkS p.top sh (A++B).length))):=by
 unfold bdV Ct.two
 dsimp only
 rw [Int.toNat_natCast,List.take_left' rfl]
theorem top_in (h:valE p=0):1<=p.top/\p.top<=4:=by
 unfold valE at h
 split at h
 ·cases h
 split at h
 ·cases h
 rename_i _ h2
 have:inB 1 4 p.top=true:=by
  cases e:inB 1 4 p.top with
  | true=>rfl
  | false=>exact absurd (.inl e) h2
 unfold inB at this
 simp at this
 omega
theorem vp_val (h:vpE p q=0):valE p=0:=by
 unfold vpE at h
 split at h
 ·assumption
 exact h
theorem adj_in (h:prE p q 1=0) (h0:¬ (q.adj.length:Int)=0):¬ p.top=1/\q.adj.length=2:=by
 obtain ⟨hv,hk⟩:=prE_in h
 have hval:=vp_val hv
 unfold vpE at hv
 rw [if_pos hval] at hv
 split at hv
 ·unfold vp2 at hv
  rw [if_pos hk] at hv
  split at hv
  ·cases hv
  unfold vp3 at hv
  split at hv
  ·split at hv
   ·unfold badE at hv
    split at hv
    ·cases hv
    split at hv
    ·cases hv
    split at hv
    ·unfold adjE at hv
     rw [if_neg h0] at hv
     split at hv
     ·cases hv
     split at hv
     ·rename_i h1 h2;exact ⟨h1,by omega⟩
     cases hv
    rename_i h3;exact absurd hv h3
   cases hv
  rename_i h3;exact absurd hv h3
 cases hv
end Jd
end Go.Proofs.YtmpgnibfhjdfpaaGreat
namespace Go.Proofs.YtmpgnibfhjdfpaaGreat
namespace Tr
def pre (xs:List Int):Nat->Int
 | 0=>0
 | k+1=>pre xs k+(xs.getD k 0-1)
structure TJ (xs:List Int) (s:TS) (k:Nat):Prop where
 no2:∀ p,p<k->xs.getD p 0≠2->s.fi p = -1/\s.se p = -1
 yes:∀ p,p<k->xs.getD p 0=2->p∈s.wt\/(s.fi p ≠ -1/\s.se p ≠ -1)
 fip:∀ p,p<k->s.fi p = -1\/s.fi p=p+1
 sep:∀ p,p<k->s.se p = -1\/∃ e:Nat,s.se p=e/\pre xs e+1=pre xs (p+1)/\p+1<=e/\∀ t,p+1<=t->t<e->pre xs (p+1)<=pre xs t
 top:∀ p∈s.wt,s.fi p = -1->p+1=k
 lvl:∀ A p B,s.wt=A++p::B->1+pre xs k-pre xs (p+1)=lack s.fi p-1+lacks s.fi B/\∀ t,p+1<=t->t<k->pre xs (p+1)<=pre xs t
 two1:∀ p∈s.wt,xs.getD p 0=2
theorem lack_pos (f:Nat->Int) (p:Nat):1<=lack f p:=by unfold lack;split<;>omega
theorem lacks_pos (f:Nat->Int) (w:List Nat):0<=lacks f w:=by
 induction w with
 | nil=>rw [Kt];omega
 | cons a l ih =>
   have:lacks f (a::l)=lack f a+lacks f l:=by simp [lacks]
   have:=lack_pos f a
   omega
theorem ZbX (f:Nat->Int) (v w:List Nat):lacks f (v++w)=lacks f v+lacks f w:=by simp [lacks]
variable {xs:List Int}
theorem tj_step {s s':TS} {k q:Nat} {A E:List Nat} {c:Int} (J:TJ xs s k) (hw:s.wt=A++[q]) (wl:∀ p∈s.wt,p<k) (asc:s.wt.Pairwise (· < ·)) (hc:xs.getD k 0=c)
 (hE:(c=0/\E=[])\/(c=2/\E=[k])) (hf:∀ j,j<k->j≠q->s'.fi j=s.fi j) (hs:∀ j,j<k->j≠q->s'.se j=s.se j) (hfk:s'.fi k = -1) (hsk:s'.se k = -1)
 (hq:(s.fi q = -1/\s'.fi q=k/\s'.se q=s.se q/\s'.wt=A++[q]++E)\/(s.fi q ≠ -1/\s'.fi q=s.fi q/\s'.se q=k/\s'.wt=A++E)):TJ xs s' (k+1):=by
 have hqk:q<k:=wl q (by rw [hw];simp)
 have hAq:∀ p∈A,p<q/\p<k:=λp hp=>by
  rw [hw] at asc
  have h1:=(List.pairwise_append.1 asc).2.2 p hp q (by simp)
  exact ⟨h1,by omega⟩
 have hq2:xs.getD q 0=2:=J.two1 q (by rw [hw];simp)
 have hl:=J.lvl A q [] hw
 rw [Kt] at hl
 have hpk:pre xs (k+1)=pre xs k+(c-1):=by rw [<- hc];rfl
 have hEl:lacks s'.fi E=c:=by
  rcases hE with ⟨rfl,rfl⟩ | ⟨rfl,rfl⟩
  ·exact Kt _
  have:lacks s'.fi [k]=lack s'.fi k:=by simp [lacks]
  rw [this];unfold lack;rw [hfk];simp
 have hEk:∀ p∈E,p=k/\c=2:=λp hp=>by
  rcases hE with ⟨_,rfl⟩ | ⟨h,rfl⟩
  ·simp at hp
  exact ⟨by simpa using hp,h⟩
 have hlA:∀ p∈A,lack s'.fi p=lack s.fi p:=λp hp=>by
  have:=hAq p hp
  unfold lack;rw [hf p this.2 (by omega)]
 have hlsA:∀ B:List Nat,(∀ p∈B,p∈A)->lacks s'.fi B=lacks s.fi B:=λB hB=>Zan λp hp=>by
  have:=hAq p (hB p hp)
  exact hf p this.2 (by omega)
 -- what is waiting behind: an elder one,or the new one
 have hmem:∀ p∈s'.wt,(p∈A)\/(p=q/\s.fi q = -1)\/(p=k/\c=2):=λp hp=>by
  rcases hq with ⟨h1,_,_,h4⟩ | ⟨_,_,_,h4⟩
  ·rw [h4] at hp
   rcases List.mem_append.1 hp with hp | hp
   ·rcases List.mem_append.1 hp with hp | hp
    ·exact .inl hp
    exact .inr (.inl ⟨by simpa using hp,h1⟩)
   exact .inr (.inr (hEk p hp))
  rw [h4] at hp
  rcases List.mem_append.1 hp with hp | hp
  ·exact .inl hp
  exact .inr (.inr (hEk p hp))
 have hAin:∀ p∈A,p∈s'.wt:=λp hp=>by
  rcases hq with ⟨_,_,_,h4⟩ | ⟨_,_,_,h4⟩<;>rw [h4]<;>simp [hp]
 have hold:∀ A' p B0,A=A'++p::B0->1+pre xs k-pre xs (p+1)=lack s.fi p-1+(lacks s.fi B0+lack s.fi q)/\∀ t,p+1<=t->t<k->pre xs (p+1)<=pre xs t:=λA' p B0 e=>by
  have:=J.lvl A' p (B0++[q]) (by rw [hw,e];simp)
  rwa [Wa] at this
 refine ⟨λp hp h2 => ?_,λp hp h2 => ?_,λp hp => ?_,λp hp => ?_,λp hp h1 => ?_,λA' p B e => ?_,λp hp => ?_⟩
 ·by_cases e:p=k
  ·subst e;exact ⟨hfk,hsk⟩
  have hpq:p≠q:=λe2=>h2 (by rw [e2];exact hq2)
  rw [hf p (by omega) hpq,hs p (by omega) hpq]
  exact J.no2 p (by omega) h2
 ·by_cases e:p=k
  ·subst e
   rw [hc] at h2
   rcases hE with ⟨h3,_⟩ | ⟨_,h3⟩
   ·omega
   left
   rcases hq with ⟨_,_,_,h4⟩ | ⟨_,_,_,h4⟩<;>rw [h4,h3]<;>simp
  by_cases epq:p=q
  ·subst epq
   rcases hq with ⟨_,_,_,h4⟩ | ⟨h1,h2',h3,_⟩
   ·left;rw [h4];simp
   right;rw [h2',h3];exact ⟨h1,by omega⟩
  rcases J.yes p (by omega) h2 with h | h
  ·left
   rw [hw] at h
   rcases List.mem_append.1 h with h | h
   ·exact hAin p h
   exact absurd (by simpa using h) epq
  right
  rw [hf p (by omega) epq,hs p (by omega) epq]
  exact h
 ·by_cases e:p=k
  ·subst e;exact .inl hfk
  by_cases epq:p=q
  ·subst epq
   rcases hq with ⟨h1,h2,_,_⟩ | ⟨_,h2,_,_⟩
   ·right
    have:=J.top p (by rw [hw];simp) h1
    rw [h2];omega
   rw [h2];exact J.fip p (by omega)
  rw [hf p (by omega) epq];exact J.fip p (by omega)
 ·by_cases e:p=k
  ·subst e;exact .inl hsk
  by_cases epq:p=q
  ·subst epq
   rcases hq with ⟨h1,_,h3,_⟩ | ⟨h1,_,h3,_⟩
   ·rw [h3];exact J.sep p (by omega)
   right
   refine ⟨k,h3,?_,by omega,hl.2⟩
   have h4:lack s.fi p=1:=by
    unfold lack
    rcases J.fip p (by omega) with h | h
    ·exact absurd h h1
    rw [h,if_neg (by omega)]
   have:=hl.1
   rw [h4] at this
   omega
  rw [hs p (by omega) epq];exact J.sep p (by omega)
 ·rcases hmem p hp with h | ⟨rfl,h⟩ | ⟨rfl,_⟩
  ·exfalso
   have h2:=hAq p h
   rw [hf p h2.2 (by omega)] at h1
   have h3:=J.top p (by rw [hw];simp [h]) h1
   omega
  ·rcases hq with ⟨_,h2,_,_⟩ | ⟨h2,_,_,_⟩
   ·rw [h2] at h1;omega
   exact absurd h h2
  rfl
 ·have fin:∀ A1 B0,A=A1++p::B0->∀ x:Int,B=B/\lacks s'.fi B=lacks s.fi B0+x->(x=lack s.fi q-1+c)->1+pre xs (k+1)-pre xs (p+1)=lack s'.fi p-1+lacks s'.fi B/\∀ t,p+1<=t->t<k+1->pre xs (p+1)<=pre xs t:=λA1 B0 hA x hB hx=>by
   have h1:=hold A1 p B0 hA
   have hpA:p∈A:=by rw [hA];simp
   have h2:=lack_pos s.fi p
   have h3:=lacks_pos s.fi B0
   have h4:=lack_pos s.fi q
   rw [hlA p hpA,hB.2,hpk]
   refine ⟨by omega,λt ht ht2 => ?_⟩
   by_cases e2:t=k
   ·subst e2;omega
   exact h1.2 t ht (by omega)
  have newk:p=k->B=[]->1+pre xs (k+1)-pre xs (p+1)=lack s'.fi p-1+lacks s'.fi B/\∀ t,p+1<=t->t<k+1->pre xs (p+1)<=pre xs t:=λe1 e2=>by
   subst e1 e2
   rw [Kt]
   unfold lack
   rw [hfk]
   refine ⟨by simp<;>omega,λt ht ht2=>by omega⟩
  rcases hq with ⟨h1,h2,_,h4⟩ | ⟨h1,h2,_,h4⟩
  ·have hlq:lack s.fi q=2:=by unfold lack;rw [h1];simp
   have hlq':lack s'.fi q=1:=by unfold lack;rw [h2,if_neg (by omega)]
   rw [h4] at e
   rcases List.append_eq_append_iff.1 e with ⟨D,e1,e2⟩ | ⟨D,e1,e2⟩
   ·-- p among E
    cases D with
    | nil =>
      rw [List.nil_append] at e2
      have hpE:p∈E:=by rw [e2];simp
      rcases hE with ⟨_,rfl⟩ | ⟨_,rfl⟩
      ·simp at hpE
      simp only [List.cons.injEq] at e2
      exact newk e2.1.symm e2.2.symm
    | cons d D =>
      have hpE:p∈E:=by rw [e2];simp
      rcases hE with ⟨_,rfl⟩ | ⟨_,rfl⟩
      ·simp at hpE
      simp at e2
   cases D with
   | nil =>
     rw [List.nil_append] at e2
     have hpE:p∈E:=by rw [<- e2];simp
     rcases hE with ⟨_,rfl⟩ | ⟨_,rfl⟩
     ·simp at hpE
     simp only [List.cons.injEq] at e2
     exact newk e2.1 e2.2
   | cons d D =>
     simp only [List.cons_append,List.cons.injEq] at e2
     obtain ⟨rfl,rfl⟩:=e2
     -- A++[q]=A'++p::D,B=D++E
     rcases List.append_eq_append_iff.1 e1 with ⟨F,e3,e4⟩ | ⟨F,e3,e4⟩
     ·cases F with
      | nil =>
        simp only [List.nil_append,List.cons.injEq] at e4
        obtain ⟨rfl,rfl⟩:=e4
        rw [List.nil_append,hEl,hlq',hpk]
        have h5:=hl.1
        rw [hlq] at h5
        refine ⟨by omega,λt ht ht2 => ?_⟩
        by_cases e2:t=k
        ·subst e2;omega
        exact hl.2 t ht (by omega)
      | cons f F=>simp at e4
     cases F with
     | nil =>
       simp only [List.nil_append,List.cons.injEq] at e4
       obtain ⟨rfl,rfl⟩:=e4
       rw [List.nil_append,hEl,hlq',hpk]
       have h5:=hl.1
       rw [hlq] at h5
       refine ⟨by omega,λt ht ht2 => ?_⟩
       by_cases e2:t=k
       ·subst e2;omega
       exact hl.2 t ht (by omega)
     | cons f F =>
       simp only [List.cons_append,List.cons.injEq] at e4
       obtain ⟨rfl,rfl⟩:=e4
       refine fin A' F e3 (1+c) ⟨rfl,?_⟩ (by omega)
       rw [ZbX,ZbX,hEl,hlsA F (λx hx=>by rw [e3];simp [hx])]
       have:lacks s'.fi [q]=lack s'.fi q:=by simp [lacks]
       rw [this,hlq'];omega
  have hlq:lack s.fi q=1:=by
   unfold lack
   rcases J.fip q hqk with h | h
   ·exact absurd h h1
   rw [h,if_neg (by omega)]
  rw [h4] at e
  rcases List.append_eq_append_iff.1 e with ⟨D,e1,e2⟩ | ⟨D,e1,e2⟩
  ·have hpE:p∈E:=by rw [e2];simp
   rcases hE with ⟨_,rfl⟩ | ⟨_,rfl⟩
   ·simp at hpE
   cases D with
   | nil =>
     simp only [List.nil_append,List.cons.injEq] at e2
     exact newk e2.1.symm e2.2.symm
   | cons d D=>simp at e2
  cases D with
  | nil =>
    rw [List.nil_append] at e2
    have hpE:p∈E:=by rw [<- e2];simp
    rcases hE with ⟨_,rfl⟩ | ⟨_,rfl⟩
    ·simp at hpE
    simp only [List.cons.injEq] at e2
    exact newk e2.1 e2.2
  | cons d D =>
    simp only [List.cons_append,List.cons.injEq] at e2
    obtain ⟨rfl,rfl⟩:=e2
    refine fin A' D e1 c ⟨rfl,?_⟩ (by omega)
    rw [ZbX,hEl,hlsA D (λx hx=>by rw [e1];simp [hx])]
 rcases hmem p hp with h | ⟨rfl,_⟩ | ⟨rfl,h⟩
 ·exact J.two1 p (by rw [hw];simp [h])
 ·exact hq2
 rw [hc];exact h
theorem tj_one {c:Int} (hc:xs.getD 0 0=c) (c02:c=0\/c=2):TJ xs (trun xs 1) 1:=by
 have e:trun xs 1=tstep ⟨λ_=>0,λ_=>0,λ_=>0,[]⟩ 0 c:=by rw [<- hc];rfl
 have hk:tkid ⟨λ_=>0,λ_=>0,λ_=>0,[]⟩ 0=⟨up (λ_=>0) 0 (-1),up (λ_=>0) 0 (-1),up (λ_=>0) 0 (-1),[]⟩:=rfl
 rw [e]
 unfold tstep
 rw [hk]
 have h0:∀ p,p<1->up (λ_=>(0:Int)) 0 (-1) p = -1:=λp hp=>by
  obtain rfl:p=0:=by omega
  exact Yx _ _ _
 have hp1:pre xs 1=c-1:=by show 0+(xs.getD 0 0-1)=_;rw [hc];omega
 rcases c02 with rfl | rfl
 ·rw [if_neg (by omega)]
  refine ⟨λp hp _=>⟨h0 p hp,h0 p hp⟩,λp hp h => ?_,λp hp => .inl (h0 p hp),λp hp => .inl (h0 p hp),λp hp=>by simp at hp,λA p B h=>by simp at h,λp hp=>by simp at hp⟩
  obtain rfl:p=0:=by omega
  rw [hc] at h;omega
 rw [if_pos rfl]
 refine ⟨λp hp _=>⟨h0 p hp,h0 p hp⟩,λp hp h => ?_,λp hp => .inl (h0 p hp),λp hp => .inl (h0 p hp),λp hp _ => ?_,λA p B h => ?_,λp hp => ?_⟩
 ·obtain rfl:p=0:=by omega
  left;simp
 ·have:p=0:=by simpa using hp
  omega
 ·dsimp only [List.nil_append] at h
  cases A with
  | nil =>
    simp only [List.nil_append,List.cons.injEq] at h
    obtain ⟨rfl,rfl⟩:=h
    rw [Kt]
    have hL:lack (up (λ_=>(0:Int)) 0 (-1)) 0=2:=by unfold lack;simp [up]
    refine ⟨?_,λt h1 h2=>by omega⟩
    show 1+pre xs 1-pre xs (0+1)=lack (up (λ_=>(0:Int)) 0 (-1)) 0-1+0
    rw [hL,Nat.zero_add];omega
  | cons a A=>simp at h
 have:p=0:=by simpa using hp
 rw [this];exact hc
theorem tj_run (xs:List Int) (hs:shp xs=true):∀ k,k<=xs.length->TJ xs (trun xs k) k
 | 0,_=>⟨λ_ h=>by omega,λ_ h=>by omega,λ_ h=>by omega,λ_ h=>by omega,λ_ h=>by simp [trun] at h,λA p B h=>by simp [trun] at h,λ_ h=>by simp [trun] at h⟩
 | k+1,hk=>by
   have J:=tj_run xs hs k (by omega)
   obtain ⟨m,hI,hF⟩:=run_ok xs hs k (by omega)
   have hd:xs.drop k=xs[k]'(by omega)::xs.drop (k+1):=List.drop_eq_getElem_cons (by omega)
   have hg:xs.getD k 0=xs[k]'(by omega):=by simp [List.getD,List.getElem?_eq_getElem (show k<xs.length by omega)]
   rw [hd,shpF] at hF
   by_cases h0:m=0
   ·rw [if_pos h0] at hF;cases hF
   rw [if_neg h0] at hF
   by_cases h1:xs[k]'(by omega)≠0/\xs[k]'(by omega)≠2
   ·rw [if_pos h1] at hF;cases hF
   have c02:xs.getD k 0=0\/xs.getD k 0=2:=by rw [hg];omega
   by_cases hk0:k=0
   ·subst hk0;exact tj_one rfl c02
   have hm:=hI.cnt
   rw [if_neg hk0] at hm
   have hne:(trun xs k).wt≠[]:=λe=>by rw [e,Kt] at hm;exact h0 hm
   obtain ⟨q,hql⟩:∃ q,(trun xs k).wt.getLast? = some q:=⟨_,List.getLast?_eq_some_getLast hne⟩
   obtain ⟨A,hA⟩:∃ A,(trun xs k).wt=A++[q]:=by
    obtain ⟨A,hA⟩:=List.getLast?_eq_some_iff.1 hql
    exact ⟨A,hA⟩
   have hqk:q<k:=(hI.wlt q (by rw [hA];simp)).1
   show TJ xs (tstep (trun xs k) k (xs.getD k 0)) (k+1)
   generalize trun xs k=s at *
   have hqn:up s.fi k (-1) q=s.fi q:=Ka _ _ (by omega)
   have hE:(xs.getD k 0=0/\(if xs.getD k 0=2 then [k] else [])=[])\/(xs.getD k 0=2/\(if xs.getD k 0=2 then [k] else [])=[k]):=by
    rcases c02 with h | h<;>rw [h]<;>simp
   have key:∀ s1:TS,tkid s k=s1->(∀ j,j<k->j≠q->s1.fi j=s.fi j)->(∀ j,j<k->j≠q->s1.se j=s.se j)->s1.fi k = -1->s1.se k = -1 ->
    ((s.fi q = -1/\s1.fi q=k/\s1.se q=s.se q/\s1.wt=A++[q])\/(s.fi q ≠ -1/\s1.fi q=s.fi q/\s1.se q=k/\s1.wt=A))->TJ xs (tstep s k (xs.getD k 0)) (k+1):=λs1 e g1 g2 g3 g4 g5=>by
    have e2:tstep s k (xs.getD k 0)=⟨s1.fi,s1.se,s1.pa,s1.wt++(if xs.getD k 0=2 then [k] else [])⟩:=by
     unfold tstep
     rw [e]
     rcases c02 with h | h<;>rw [h]<;>simp
    rw [e2]
    refine tj_step J hA (λp hp=>(hI.wlt p hp).1) hI.asc rfl hE g1 g2 g3 g4 ?_
    rcases g5 with ⟨a1,a2,a3,a4⟩ | ⟨a1,a2,a3,a4⟩
    ·exact .inl ⟨a1,a2,a3,by dsimp only;rw [a4]⟩
    exact .inr ⟨a1,a2,a3,by dsimp only;rw [a4]⟩
   by_cases hf:s.fi q<0
   ·refine key ⟨up (up s.fi k (-1)) q k,up s.se k (-1),up (up s.pa k (-1)) k q,s.wt⟩ ?_ (λj hj hjq => ?_) (λj hj _=>Ka _ _ (by omega)) ?_ (Yx _ _ _) (.inl ⟨?_,Yx _ _ _,Ka _ _ (by omega),hA⟩)
    ·unfold tkid;rw [hql];dsimp only;rw [hqn,if_pos hf]
    ·show up (up s.fi k (-1)) q k j=_
     rw [Ka _ _ hjq,Ka _ _ (by omega)]
    ·show up (up s.fi k (-1)) q k k=_
     rw [Ka _ _ (by omega),Yx]
    rcases J.fip q hqk with h | h
    ·exact h
    omega
   refine key ⟨up s.fi k (-1),up (up s.se k (-1)) q k,up (up s.pa k (-1)) k q,s.wt.dropLast⟩ ?_ (λj hj _=>Ka _ _ (by omega)) (λj hj hjq => ?_) (Yx _ _ _) ?_ (.inr ⟨by omega,Ka _ _ (by omega),Yx _ _ _,?_⟩)
   ·unfold tkid;rw [hql];dsimp only;rw [hqn,if_neg hf]
   ·show up (up s.se k (-1)) q k j=_
    rw [Ka _ _ hjq,Ka _ _ (by omega)]
   ·show up (up s.se k (-1)) q k k=_
    rw [Ka _ _ (by omega),Yx]
   show s.wt.dropLast=A
   rw [hA];simp
variable {i:Nat}
theorem tree_kids (hs:shp xs=true) (hi:i<xs.length) :
 (xs.getD i 0≠2->(trun xs xs.length).fi i = -1/\(trun xs xs.length).se i = -1) /\
 (xs.getD i 0=2->(trun xs xs.length).fi i=i+1/\∃ e:Nat,(trun xs xs.length).se i=e/\pre xs e+1=pre xs (i+1)/\i+1<=e/\∀ t,i+1<=t->t<e->pre xs (i+1)<=pre xs t):=by
 have J:=tj_run xs hs xs.length (Nat.le_refl _)
 have hw:=(Zbz xs hs).2
 refine ⟨J.no2 i hi,λh => ?_⟩
 rcases J.yes i hi h with h2 | ⟨h2,h3⟩
 ·rw [hw] at h2;simp at h2
 exact ⟨(J.fip i hi).resolve_left h2,(J.sep i hi).resolve_left h3⟩
theorem pre_succ {t:Nat} (h:t<xs.length):pre xs (t+1)=pre xs t+(xs[t]-1):=by
 show pre xs t+(xs.getD t 0-1)=_
 rw [List.getD_eq_getElem?_getD,List.getElem?_eq_getElem h];rfl
theorem shp_02 (hs:shp xs=true) {t:Nat} (h:t<xs.length):xs[t]=0\/xs[t]=2:=by
 obtain ⟨m,hI,hF⟩:=run_ok xs hs t (by omega)
 rw [List.drop_eq_getElem_cons h,shpF] at hF
 split at hF
 ·cases hF
 split at hF
 ·cases hF
 omega
theorem pre_bd {xs:List Int} (hs:shp xs=true):∀ k,k<=xs.length -> -(k:Int)<=pre xs k/\pre xs k<=k
 | 0,_=>by simp [pre]
 | k+1,hk=>by
   have h1:=pre_bd hs k (by omega)
   have h2:=shp_02 hs (show k<xs.length by omega)
   rw [pre_succ (by omega)]
   omega
end Tr
end Go.Proofs.YtmpgnibfhjdfpaaGreat
namespace Go.Proofs.YtmpgnibfhjdfpaaGreat
open Go.RowKit Go.Deep Tryz
variable {J:World->Prop}
namespace En
def gbV (r:Ru) (n t f:Int) (k:Nat):Int:=evN (r.gz.getD k default).bd.c (r.gz.getD k default).bd.n (r.gz.getD k default).bd.t (r.gz.getD k default).bd.f n t f
def bdAt (p:Fm) (n t f:Int) (i k:Nat):Int:=if i<p.rz.length/\k<(p.rz.getD i default).gz.length then gbV (p.rz.getD i default) n t f k else 0
def bdP (p:Fm) (n t f:Int) (R K q:Nat):Int:=if q / 2<R\/(q / 2=R/\q % 2<K) then bdAt p n t f (q / 2) (q % 2) else 0
def shS (top:Int) (c:Nat):List (List Int):=if top=4 then Sh.shX (c:Int) else if top=2\/top=3 then [[]] else []
def cLkS (top:Int) (c:Nat) (sh:List Int):List AV:=[Jd.lkA top sh c]
def lkS (top:Int) (c:Nat):AV:=slA 1 (cLkS top c) (shS top c)
def sysB (p:Fm) (n t f:Int) (R K:Nat) (sh li:AV):List AV:=midF (cFm p++[iv n,iv t,iv f,iv (Ns.cntE p n f),iv (n-f)]) 16 (λq=>iv (bdP p n t f R K q)) [sh,li]
def sysP (p:Fm) (n t f:Int):List AV:=sysB p n t f p.rz.length 0 (slA 1 cLi (Ns.shT p.top (Ns.cntE p n f))) (lkS p.top (Ns.cntE p n f).toNat)
variable {p:Fm}{R K:Nat}
theorem sysB_len {n t f:Int} {sh li:AV}:(sysB p n t f R K sh li).length=33:=by
 unfold sysB
 rw [midF_len];rfl
variable {x:Int}
theorem sysB_step {n t f:Int} {sh li:AV} (hR:R<p.rz.length) (h8:p.rz.length<=8) (hK:K<p.rz[R].gz.length) (h2:p.rz[R].gz.length<=2)
 (hx:x=evN p.rz[R].gz[K].bd.c p.rz[R].gz[K].bd.n p.rz[R].gz[K].bd.t p.rz[R].gz[K].bd.f n t f):setAll (sysB p n t f R K sh li) (15+R*2+K*1) [iv x]=sysB p n t f R (K+1) sh li:=by
 have d1:(2*R+K) / 2=R:=by omega
 have d2:(2*R+K) % 2=K:=by omega
 have e1:p.rz.getD R default=p.rz[R]:=by rw [List.getD_eq_getElem?_getD,List.getElem?_eq_getElem hR];rfl
 have e2:p.rz[R].gz.getD K default=p.rz[R].gz[K]:=by rw [List.getD_eq_getElem?_getD,List.getElem?_eq_getElem hK];rfl
 refine midF_set (i:=2*R+K) (by omega) (by show 15+(2*R+K)=_;omega) ?_ λj hj hne => ?_
 ·congr 2
  unfold bdP
  rw [d1,d2,if_pos (.inr ⟨rfl,by omega⟩)]
  unfold bdAt
  rw [e1,if_pos ⟨hR,hK⟩,hx]
  unfold gbV
  rw [e2]
 refine congrArg iv ?_
 unfold bdP
 by_cases c:j / 2<R\/(j / 2=R/\j % 2<K)
 ·rw [if_pos c,if_pos (by omega)]
 rw [if_neg c,if_neg (by omega)]
theorem sysB_row {n t f:Int} {sh li:AV} (hR:R<p.rz.length) (hK:¬ K<p.rz[R].gz.length):sysB p n t f (R+1) 0 sh li=sysB p n t f R K sh li:=by
 have e1:p.rz.getD R default=p.rz[R]:=by rw [List.getD_eq_getElem?_getD,List.getElem?_eq_getElem hR];rfl
 refine midF_congr λj hj=>congrArg iv ?_
 unfold bdP
 by_cases c:j / 2<R\/(j / 2=R/\j % 2<K)
 ·rw [if_pos c,if_pos (by omega)]
 rw [if_neg c]
 by_cases d:j / 2=R
 ·rw [if_pos (by omega),d]
  unfold bdAt
  rw [e1,if_neg (by omega)]
 rw [if_neg (by omega)]
theorem sysP_bd {n t f:Int} {sh li:AV} (hR:R<p.rz.length) (h8:p.rz.length<=8) (hK:K<p.rz[R].gz.length) (h2:p.rz[R].gz.length<=2) :
 (sysB p n t f p.rz.length 0 sh li)[15+R*2+K*1]? = some (iv (gbV p.rz[R] n t f K)):=by
 have e1:p.rz.getD R default=p.rz[R]:=by rw [List.getD_eq_getElem?_getD,List.getElem?_eq_getElem hR];rfl
 have d1:(2*R+K) / 2=R:=by omega
 have d2:(2*R+K) % 2=K:=by omega
 refine (midF_get (i:=2*R+K) (by omega) (by show 15+(2*R+K)=_;omega)).trans ?_
 congr 2
 unfold bdP
 rw [d1,d2,if_pos (.inl hR)]
 unfold bdAt
 rw [e1,if_pos ⟨hR,hK⟩]
theorem plain_lkA (top:Int) (sh:List Int) (c:Nat):Plain (Jd.lkA top sh c) := .sl (ZE λX hX=>by obtain ⟨j,_,rfl⟩:=List.mem_map.1 hX;exact .v _)
theorem plain_lkS (top:Int) (c:Nat):Plain (lkS top c):=Yj (λsh X hX=>by
 unfold cLkS at hX
 rw [List.mem_singleton.1 hX];exact plain_lkA _ _ _) _
theorem plain_sysB (p:Fm) (n t f:Int) (R K:Nat) {sh li:AV} (h1:Plain sh) (h2:Plain li):∀ X∈sysB p n t f R K sh li,Plain X:=by
 intro X hX
 unfold sysB midF at hX
 rcases List.mem_append.1 hX with h | h
 ·rcases List.mem_append.1 h with h | h
  ·exact Zy p X h
  simp only [List.mem_cons,List.not_mem_nil,or_false] at h
  rcases h with rfl | rfl | rfl | rfl | rfl<;>exact .v _
 rcases List.mem_append.1 h with h | h
 ·obtain ⟨j,_,rfl⟩:=List.mem_map.1 h;exact .v _
 simp only [List.mem_cons,List.not_mem_nil,or_false] at h
 rcases h with rfl | rfl
 ·exact h1
 exact h2
theorem plain_sysP (p:Fm) (n t f:Int):∀ X∈sysP p n t f,Plain X:=plain_sysB p n t f _ _ (Yj Zbp _) (plain_lkS _ _)
variable {c:Nat}
theorem shX_is :∀ xs∈Sh.shX (c:Int),xs.length=c/\shp xs=true:=by
 unfold Sh.shX
 split
 ·intro xs h;cases h
 split
 ·intro xs h;cases h
 rename_i h1 h2
 rw [Int.toNat_natCast]
 obtain rfl | rfl | rfl | rfl:c=1\/c=3\/c=5\/c=7:=by omega
 all_goals decide +kernel
theorem lkS_tree :slA 1 Ns.cLk (Sh.shX (c:Int))=lkS 4 c:=by
 unfold lkS shS
 rw [if_pos rfl]
 unfold slA
 congr 1
 rw [List.flatMap_def,List.flatMap_def]
 refine congrArg List.flatten (List.map_congr_left λsh hsh => ?_)
 unfold Ns.cLk cLkS
 rw [Jd.lkA_tree,(shX_is sh hsh).1]
variable {top:Int}
theorem lkS_row (h:top=2\/top=3):AV.sl 1 1 [.sl 3 c (Ns.lkZ top c c)]=lkS top c:=by
 unfold lkS shS
 rw [if_neg (by omega),if_pos h,Jd.lkZ_row (sh:=[]) (by omega)]
 rfl
theorem lkS_no (h:¬ top=2) (h':¬ top=3) (h4:¬ top=4):AV.sl 1 0 []=lkS top c:=by
 unfold lkS shS
 rw [if_neg h4,if_neg (by omega)]
 rfl
end En
set_option maxRecDepth 100000
set_option maxHeartbeats 6400000
variable {x m:Int}
theorem outB_c :Ctr Tryz.prog J 61 [iv x,.el ([iv m]) 0] (bv<|Rd.outB m x):=by
 refine Zn func61 rfl (pN (.v _)<|pN (.el (ZE<|by intro X hX;rw [List.mem_singleton.1 hX];exact .v _)) pZ) (n:=11) rfl (by simp)<|λw0 => ?_
 refine kW 11 [] [(0,iv x),(1,.el ([iv m]) 0)]<|jB<|oS bF<|jD ?_
 by_cases hs1:x<0
 exact Za<|oW<|ol (dT hs1)<|oS bT<|V3<|oF bT<|jE<|Zd results61 (.tmp rfl)<|cB<|(Rd.outB_lo hs1).symm
 exact Za<|oW<|ol (dF hs1)<|oS bF<|oS (iv x)<|oS (iv m)<|gC (ZbD rfl rfl) I0 I0<|oF (bv<|decide<|m<=x)<|jE<|Zd results61 (.tmp rfl)<|cB<|(Rd.outB_hi hs1).symm
theorem ixOut_c (xs:List Int) (lx:xs.length<=9223372036854775807):Ctr Tryz.prog J 104 [Zc xs,.clo 61 [.el ([iv m]) 0]] (iv<|Rd.ixP xs<|Rd.outB m):=by
 refine Zn func104 rfl (pN (Zx _)<|pN (.clo (λj hj=>match j,hj with | 0,_ => .el (ZE<|by intro X hX;rw [List.mem_singleton.1 hX];exact .v _))) pZ) (n:=19) rfl (by simp)<|λw0 => ?_
 refine kW 19 [] [(0,Zc xs),(1,.clo 61 [.el ([iv m]) 0])]<|jB<|oS (iv 0)<|jD<|jB<|oF (iv xs.length)<|oS (iv 0)<|kN 19 [] [(0,Zc xs),(1,.clo 61 [.el ([iv m]) 0]),(4,iv 0),(7,iv xs.length),(8,iv 0)]<|Zf<|Zh<|Zw (σ:={k:Nat // k<=xs.length/\Rd.noP xs (Rd.outB m) k}) (λs=>(ofL [],ofT 19 [(0,Zc xs),(1,.clo 61 [.el ([iv m]) 0]),(7,iv xs.length),(8,iv s.1)])) (λs=>xs.length-s.1) ⟨0,Nat.zero_le _,Rd.noP_zero _ _⟩ (Zk [] _)<|λs => ?_
 obtain ⟨k,hk0,hs0⟩:=s
 show ETri J w0 (ofL []) (ofT 19 [(0,Zc xs),(1,.clo 61 [.el ([iv m]) 0]),(7,iv xs.length),(8,iv k)]) _
 refine Zi ?_
 by_cases hs1:(k:Int)<(xs.length:Int)
 refine Za<|ol (dT hs1)<|jD<|ZM rfl<|Zj<|jC<|Zh<|jB<|oF (iv k)<|jD ?_
 by_cases hs2:(Rd.outB m xs[k])=true
 exact Za<|oS (.clo 61 [.el ([iv m]) 0])<|oS (Zc xs)<|oS (iv k)<|oC (xS (k*1) 12 13 U24) I0 I0<|oL (iv xs[k]) (Zr xs<|by omega)<|oC (WS (c := .tmp 11) (xs := #[.tmp 15]) (Cs:=[.el ([iv m]) 0]) [] (Zo outB_c hs2) rfl (by kernel_rfl) rfl (Xs:=[iv xs[k]]) rfl rfl rfl rfl rfl) I0 I0<|jG<|oF (iv k)<|jE<|Ze<|Zb<|Zb<|Ze<|Zb<|Zd results104 (.tmp rfl)<|congrArg (λx:Int=>AV.v (.int .i64 x))<|(Rd.ixP_at (by omega) hs0 hs2).symm
 have hs2f:(Rd.outB m xs[k])=false:=by simpa using hs2
 exact Za<|oS (.clo 61 [.el ([iv m]) 0])<|oS (Zc xs)<|oS (iv k)<|oC (xS (k*1) 12 13 U24) I0 I0<|oL (iv xs[k]) (Zr xs<|by omega)<|oC (WS (c := .tmp 11) (xs := #[.tmp 15]) (Cs:=[.el ([iv m]) 0]) [] (Zo outB_c hs2f) rfl (by kernel_rfl) rfl (Xs:=[iv xs[k]]) rfl rfl rfl rfl rfl) I0 I0<|jI<|Zj<|Zs<|Zf<|Za<|oV ((k+1:Nat):Int)<|oS (iv (k+1:Nat))<|kN 19 [] [(0,Zc xs),(1,.clo 61 [.el ([iv m]) 0]),(5,iv k),(7,iv xs.length),(8,iv (k+1:Nat)),(9,bT),(16,bF)]<|Zf<|Zp ⟨k+1,by omega,Rd.noP_succ (by omega) hs0 hs2f⟩ (show xs.length-(k+1)<xs.length-k by omega)<|Zk [] _
 exact Za<|ol (dF hs1)<|jD<|Zu rfl<|jO<|jC<|Za<|oS (iv<|-1)<|jE<|Zd results104 (.tmp rfl)<|congrArg (λx:Int=>AV.v (.int .i64 x))<|(Rd.ixP_none (k:=k) (by omega) hs0).symm
theorem hasOut_c (xs:List Int) (lx:xs.length<=9223372036854775807):Ctr Tryz.prog J 60 [Zc xs,.clo 61 [.el ([iv m]) 0]] (bv<|xs.any<|Rd.outB m):=by
 refine Zn func60 rfl (pN (Zx _)<|pN (.clo (λj hj=>match j,hj with | 0,_ => .el (ZE<|by intro X hX;rw [List.mem_singleton.1 hX];exact .v _))) pZ) (n:=9) rfl (by simp)<|λw0 => ?_
 exact kW 9 [] [(0,Zc xs),(1,.clo 61 [.el ([iv m]) 0])]<|jB<|oS bF<|jD<|Za<|W2<|oK (ixOut_c xs lx) [Zc xs,.clo 61 [.el ([iv m]) 0]] rfl rfl<|oC (ZbD rfl rfl) I0 I0<|oS (bv<|decide<|0<=(Rd.ixP xs<|Rd.outB m))<|jE<|Zd results60 (.tmp rfl)<|cB<|Rd.anyP_ix xs<|Rd.outB m
theorem Yh (xs:List Int) (lx:xs.length<=9223372036854775807):Ctr Tryz.prog J 34 [Zc xs,iv m] (bv<|Rd.belB xs m):=by
 exact Zn func34 rfl (pN (Zx _)<|pN (.v _) pZ) (n:=9) rfl (by simp)<|λw0 => kW 9 [] [(0,Zc xs),(1,iv m)]<|jB<|oX 1 (iv m)<|oS bF<|jD<|Za<|oS (Zc xs)<|oA (Zag (xs := #[.tmp 3]) (Xs:=[bx 1]) rfl rfl) I0<|YA rfl (sc #[.tmp 5,.tmp 6] [(1,.box 3 [iv m])] (hasOut_c xs lx) [Zc xs,.clo 61 [bx 1]] rfl rfl rfl) ⟨I0,I0,I0,T0⟩ ⟨rfl,T0⟩ T0<|oF (bv<|!(xs.any<|Rd.outB m))<|jE<|Zd results34 (.tmp rfl)<|rfl
abbrev XNs1_h1 (x0:Int) (x1:Nat) (x2:Nat):List (Nat × AV):=[(0,iv x0),(2,iv x1),(6,nz),(7,.own 1),(8,iv x2),(16,iv x1),(17,iv (x2+1:Nat)),(18,bT)]
variable {top:Int}{c:Nat}
theorem ZbV (ht:top=2\/top=3) (hc:c<=8):Ctr Tryz.prog J 103 [iv top,nz,iv c] (.sl 3 c (Ns.lkZ top c c)):=by
 refine Zn func103 rfl (pN (.v _)<|pN (.v _)<|pN (.v _) pZ) (n:=33) rfl (by simp)<|λw0 => kW 33 [] [(0,iv top),(1,nz),(2,iv c)]<|jB<|oS (nz)<|jD<|jB<|oS (iv top)<|jA<|Zh<|jM ?_
 by_cases hs1:top=2
 refine Za<|oe (dT hs1)<|oS bT<|jH<|Zj<|Zf<|jK<|oS (iv c)<|YA rfl (sp_makeZ (k:=1) (n:=c) (bytes:=24) (z:=3) (zv := .agg #[.int .i64 0,.int .i64 0,.int .i64 0]) true rfl U87 (by kernel_rfl) rfl (by decide) (by first | (show 24*c<=_;omega) | omega) (by unfold maxLen;omega) (cs:=(Ns.lkZ top c 0))<|Ns.lkZ_zero top c) ⟨I0,I0,T0⟩ T0 rfl<|oS (.own 1)<|jD<|jB<|oS (.own 1)<|oB (Kc (.tmp 15) rfl U87) I0 rfl<|oS (iv 0)<|kN 33 [(1,.row true 84 3 c (Ns.lkZ top c 0))] [(0,iv top),(2,iv c),(6,nz),(7,.own 1),(16,iv c),(17,iv 0)]<|Zf ?_
 refine Zh<|Zw (σ:={j:Nat // j<=c}) (λs=>(ofL [(1,.row true 84 3 c (Ns.lkZ top c s.1))],ofT 33 [(0,iv top),(2,iv c),(6,nz),(7,.own 1),(16,iv c),(17,iv s.1)])) (λs=>c-s.1) ⟨0,Nat.zero_le _⟩ (Zk _ _)<|λs => ?_
 obtain ⟨j,hj0⟩:=s
 show ETri J w0 (ofL [(1,.row true 84 3 c (Ns.lkZ top c j))]) (ofT 33 [(0,iv top),(2,iv c),(6,nz),(7,.own 1),(16,iv c),(17,iv j)]) _
 refine Zi ?_
 by_cases hs2:(j:Int)<(c:Int)
 refine Za<|ol (dT hs2)<|jD<|ZM rfl<|Zj<|jC<|Zh<|jB<|oF (iv j)<|jA<|Za<|oS (.own 1)<|oS (iv j)<|W3<|oK (Ns.rowLink_c (by omega) (by omega)<|by omega) [iv top,iv c,iv j] rfl rfl<|YA rfl (ZP (off:=j*3) (.tmp 20) (.tmp 21) rfl U87 (by kernel_rfl) (by omega) (by omega) rfl) ⟨I0,I0,T0⟩ ⟨rfl,T0⟩ T0<|YA rfl (Z8 (X := .agg [iv ((rowL top (c:Int) (((j):Nat):Int)).1),iv ((rowL top (c:Int) (((j):Nat):Int)).2.1),iv ((rowL top (c:Int) (((j):Nat):Int)).2.2)]) (off:=j*3) (cs:=(Ns.lkZ top c j)) (ds:=(Ns.lkZ top c<|j+1)) (zz:=3) (.tmp 26) (.tmp 25) rfl (by kernel_rfl) (by kernel_rfl) (λ_ d hd=>by simp only [AV.cellsOf,Ns.lk3,List.mem_cons,List.not_mem_nil,or_false] at hd;rcases hd with rfl | rfl | rfl<;>rfl) (by kernel_rfl) (by rw [Ns.lkZ_len (by omega)];omega)<|Ns.lkZ_step<|by omega) ⟨I0,.inr (.inr (.inl ⟨_,rfl,rfl⟩)),T0⟩ ⟨rfl,T0⟩ rfl ?_
 exact ZL<|Zs<|Zf<|Za<|oV ((j+1:Nat):Int)<|oS (iv (j+1:Nat))<|kN 33 [(1,.row true 84 3 c (Ns.lkZ top c<|j+1))] (XNs1_h1 top c j)<|Zf<|Zp ⟨j+1,by omega⟩ (show c-(j+1)<c-j by omega)<|Zk _ _
 refine Za<|ol (dF hs2)<|jD<|Zu rfl<|jO<|jC<|Za<|oF (.own 1)<|jE<|Ze<|Zb<|Zd results103 (.tmp rfl) ?_
 obtain rfl:j=c:=by omega
 exact rfl
 refine Za<|oe (dF hs1)<|oS bF<|jI<|Za<|oC (ZH rfl<|dT<|by omega) I0 I0<|oS bT<|jG<|oS (iv c)<|YA rfl (sp_makeZ (k:=1) (n:=c) (bytes:=24) (z:=3) (zv := .agg #[.int .i64 0,.int .i64 0,.int .i64 0]) true rfl U87 (by kernel_rfl) rfl (by decide) (by first | (show 24*c<=_;omega) | omega) (by unfold maxLen;omega) (cs:=(Ns.lkZ top c 0))<|Ns.lkZ_zero top c) ⟨I0,I0,T0⟩ T0 rfl<|oS (.own 1)<|jD<|jB<|oS (.own 1)<|oB (Kc (.tmp 15) rfl U87) I0 rfl ?_
 refine oS (iv 0)<|kN 33 [(1,.row true 84 3 c (Ns.lkZ top c 0))] [(0,iv top),(2,iv c),(6,nz),(7,.own 1),(16,iv c),(17,iv 0)]<|Zf<|Zh<|Zw (σ:={j:Nat // j<=c}) (λs=>(ofL [(1,.row true 84 3 c (Ns.lkZ top c s.1))],ofT 33 [(0,iv top),(2,iv c),(6,nz),(7,.own 1),(16,iv c),(17,iv s.1)])) (λs=>c-s.1) ⟨0,Nat.zero_le _⟩ (Zk _ _)<|λs => ?_
 obtain ⟨j,hj0⟩:=s
 show ETri J w0 (ofL [(1,.row true 84 3 c (Ns.lkZ top c j))]) (ofT 33 [(0,iv top),(2,iv c),(6,nz),(7,.own 1),(16,iv c),(17,iv j)]) _
 refine Zi ?_
 by_cases hs3:(j:Int)<(c:Int)
 refine Za<|ol (dT hs3)<|jD<|ZM rfl<|Zj<|jC<|Zh<|jB<|oF (iv j)<|jA<|Za<|oS (.own 1)<|oS (iv j)<|W3<|oK (Ns.rowLink_c (by omega) (by omega)<|by omega) [iv top,iv c,iv j] rfl rfl<|YA rfl (ZP (off:=j*3) (.tmp 20) (.tmp 21) rfl U87 (by kernel_rfl) (by omega) (by omega) rfl) ⟨I0,I0,T0⟩ ⟨rfl,T0⟩ T0<|YA rfl (Z8 (X := .agg [iv ((rowL top (c:Int) (((j):Nat):Int)).1),iv ((rowL top (c:Int) (((j):Nat):Int)).2.1),iv ((rowL top (c:Int) (((j):Nat):Int)).2.2)]) (off:=j*3) (cs:=(Ns.lkZ top c j)) (ds:=(Ns.lkZ top c<|j+1)) (zz:=3) (.tmp 26) (.tmp 25) rfl (by kernel_rfl) (by kernel_rfl) (λ_ d hd=>by simp only [AV.cellsOf,Ns.lk3,List.mem_cons,List.not_mem_nil,or_false] at hd;rcases hd with rfl | rfl | rfl<;>rfl) (by kernel_rfl) (by rw [Ns.lkZ_len (by omega)];omega)<|Ns.lkZ_step<|by omega) ⟨I0,.inr (.inr (.inl ⟨_,rfl,rfl⟩)),T0⟩ ⟨rfl,T0⟩ rfl ?_
 exact ZL<|Zs<|Zf<|Za<|oV ((j+1:Nat):Int)<|oS (iv (j+1:Nat))<|kN 33 [(1,.row true 84 3 c (Ns.lkZ top c<|j+1))] (XNs1_h1 top c j)<|Zf<|Zp ⟨j+1,by omega⟩ (show c-(j+1)<c-j by omega)<|Zk _ _
 refine Za<|ol (dF hs3)<|jD<|Zu rfl<|jO<|jC<|Za<|oF (.own 1)<|jE<|Ze<|Zb<|Zd results103 (.tmp rfl) ?_
 obtain rfl:j=c:=by omega
 exact rfl
variable {xs:List Int}
theorem Zen {c:Int} (hI:InOk xs) (h0:0<xs.length) (h1:xs.length<=100):Ctr Tryz.prog J 103 [iv 4,Zc xs,iv c] (Ns.lkT xs):=by
 exact Zn func103 rfl (pN (.v _)<|pN (Zx _)<|pN (.v _) pZ) (n:=33) rfl (by simp)<|λw0 => kW 33 [] [(0,iv 4),(1,Zc xs),(2,iv c)]<|jB<|oS (nz)<|jD<|jB<|oS (iv 4)<|jA<|Zh<|jM<|Za<|oC (ZH (r:=false) rfl<|by decide) I0 I0<|oS bF<|jI<|Za<|oC (ZH (r:=false) rfl<|by decide) I0 I0<|oS bF<|jI<|jB<|oC (ZH (r:=true) rfl<|by decide) I0 I0<|oS bT<|jG<|oW<|oK (Ns.treeLinks_c hI h0 h1) [Zc xs] rfl rfl<|oS (.fr (Ns.lkT xs))<|jE<|Ze<|Zb<|Zd results103 (.tmp rfl)<|rfl
theorem Sh_pos :∀ xs∈Sh.shX (c:Int),0<xs.length:=by
 unfold Sh.shX
 split
 ·intro xs h;cases h
 split
 ·intro xs h;cases h
 rename_i h1 h2
 rw [Int.toNat_natCast]
 obtain rfl | rfl | rfl | rfl:c=1\/c=3\/c=5\/c=7:=by omega
 all_goals decide
set_option maxHeartbeats 12800000
namespace Ns
variable {p:Fm}
theorem cnt_lo {n f:Int} (h:1<=n/\n<=1048576/\0<=f/\f<=n):0<=cntE p n f:=by unfold cntE;split<;>omega
theorem cnt_hi {n f:Int} (h:1<=n/\n<=1048576/\0<=f/\f<=n) (h8:¬ 8<n):cntE p n f<=8:=by unfold cntE;split<;>omega
theorem plain_sys (p:Fm) (n t f:Int):∀ X∈sysC p n t f,Plain X:=by
 intro X hX
 unfold sysC at hX
 rcases List.mem_append.1 hX with h | h
 ·exact Zy p X h
 simp only [List.mem_cons,List.not_mem_nil,or_false] at h
 rcases h with rfl | rfl | rfl | rfl | rfl | rfl | rfl | rfl | rfl | rfl | rfl | rfl | rfl | rfl | rfl | rfl | rfl | rfl | rfl | rfl | rfl | rfl | rfl<;>first | exact .v _ | exact .any | exact .any _ | exact Yj Zbp _
theorem plain_mask {m:List Bool} {c0:List AV} (h:∀ xs,(maskC m xs c0).all AV.isV=true):∀ xs,∀ X∈maskC m xs c0,Plain X:=λxs X hX=>by
 have:=List.all_eq_true.1 (h xs) X hX
 cases X<;>first | exact .v _ | cases this
theorem pw1 {k o:Nat}:∀ X∈[AV.box k o],PlainW X:=λX hX=>by
 rw [List.mem_singleton] at hX;rw [hX];exact .box _ _
end Ns
variable {p:Fm}
set_option maxRecDepth 100000 in
theorem Zdl (HP:FmOk p) {n t f:Int} (hs:¬ Ns.sysE p n t f=0):CtrA Tryz.prog J 32 [.agg (cFm p),.agg (cSz n t f)] (.tup [.v (.pointer none),iv (Ns.sysE p n t f)]):=by
 refine YU func32 rfl (pN (Zg (Zy p)) (pN (Zg (ZT n t f)) pZ)) (n:=80) rfl (by simp) (λw0 => ?_)
 refine kW 80 [] [(0,.agg (cFm p)),(1,.agg (cSz n t f))] (jB (oX 1 (.agg (cFm p)) (oX 2 (.agg (cSz n t f)) (oS (.v (.pointer none)) (oS (iv 0) (jD (jB (oW (oK (KP HP) [.agg (cFm p)] rfl rfl (oS (iv (valE p)) (jD ?_)))))))))))
 by_cases hs1:valE p=0
 obtain ⟨hr8,hg2⟩:=Ns.val_lims hs1
 refine Za (oW (on (dT' hs1) (jF (jM ?_))))
 by_cases hs2:(admB p n t f)=true
 have hai:=Ns.adm_in hs2
 refine Za (W2 (oK (Zo (Ns.adm_c HP hs1) hs2) [.agg (cFm p),.agg (cSz n t f)] rfl rfl (oS bF (jF (jM (Za (oF (iv n) (oC (WC rfl (dT (Ns.sys_big hs1 hs2 hs))) I0 I0 (jG (oS (.v (.pointer none)) (oS (iv 4) (jA ?_))))))))))))
 refine jN ?_
 refine KM [(1,.box 27 (cFm p)),(2,.box 32 (cSz n t f))] results32 (.tmp rfl) (.tmp rfl) (by kernel_rfl) rfl rfl rfl ?_ ?_ ?_
 ·exact .v _
 ·exact .v _
 ·rw [Ns.sys_e3 hs1 hs2 (Ns.sys_big hs1 hs2 hs)];rfl
 have hs2f:(admB p n t f)=false:=by simpa using hs2
 refine Za (W2 (oK (Zo (Ns.adm_c HP hs1) hs2f) [.agg (cFm p),.agg (cSz n t f)] rfl rfl (oS bT (jG (oS (.v (.pointer none)) (oS (iv 8) (jE (Zb ?_))))))))
 refine KM [(1,.box 27 (cFm p)),(2,.box 32 (cSz n t f))] results32 (.tmp rfl) (.tmp rfl) (by kernel_rfl) rfl rfl rfl ?_ ?_ ?_
 ·exact .v _
 ·exact .v _
 ·rw [Ns.sys_e2 hs1 hs2f];rfl
 refine Za (oW (on (dF' hs1) (jG (oW (oS (.v (.pointer none)) (oS (iv (valE p)) (jE (Zb ?_))))))))
 refine KM [(1,.box 27 (cFm p)),(2,.box 32 (cSz n t f))] results32 (.tmp rfl) (.tmp rfl) (by kernel_rfl) rfl rfl rfl ?_ ?_ ?_
 ·exact .v _
 ·exact .v _
 rw [Ns.sys_e1 hs1];rfl
end Go.Proofs.YtmpgnibfhjdfpaaGreat
