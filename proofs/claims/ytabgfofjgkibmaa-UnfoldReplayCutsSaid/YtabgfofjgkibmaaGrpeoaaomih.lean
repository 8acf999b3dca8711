import Derived.ChangeArms
import Derived.ChangeMaps5
import Derived.Test.YtabgfofjgkibmaaGrppnbblghi
import Derived.Test.YtabgfofjgkibmaaGrpldllmcan
import Derived.Test.YtabgfofjgkibmaaGrpajaamfjl
import Derived.Test.YtabgfofjgkibmaaGrpihbhnjka
import Derived.Test.YtabgfofjgkibmaaGrpiinopcgp
import Derived.Test.YtabgfofjgkibmaaGrpfiakmkfi
import Derived.Test.YtabgfofjgkibmaaGrpgbeabghn
import Derived.Test.YtabgfofjgkibmaaGrpnedhclko
import Derived.Test.YtabgfofjgkibmaaGrpodgfjebp
set_option linter.all false
namespace Go.Proofs.Ytabgfofjgkibmaa
open Go.RowKit Go.Deep
variable {J:World→Prop}
theorem YN (n t f:Int):∀ X∈cSz n t f,Plain X:=by
  intro X hX;simp only [cSz,List.mem_cons,List.not_mem_nil,or_false] at hX
  rcases hX with rfl | rfl | rfl<;>exact .v _
namespace Ns
def lk3 (top c i:Int):List AV:=[iv (rowL top c i).1,iv (rowL top c i).2.1,iv (rowL top c i).2.2]
def lkZ (top:Int) (n k:Nat):List AV:=(List.range k).flatMap (fun i:Nat=>lk3 top n i)++(List.replicate (n-k) [iv 0,iv 0,iv 0]).flatten
theorem lkZ_zero (top:Int) (n:Nat):(List.range (n*3)).map (fun j=>AV.v ((#[Value.int .i64 0,Value.int .i64 0,Value.int .i64 0]:Array Value).getD (j % 3) undef))=lkZ top n 0:=by
  unfold lkZ
  rw [List.range_zero,List.flatMap_nil,List.nil_append,Nat.sub_zero]
  induction n with
  | zero=>rfl
  | succ m ih =>
    rw [show (m+1)*3=m*3+1+1+1 by omega,List.range_succ,List.range_succ,List.range_succ,List.map_append,List.map_append,List.map_append,ih,List.replicate_succ',List.flatten_append]
    have e1:(m*3) % 3=0:=by omega
    have e2:(m*3+1) % 3=1:=by omega
    have e3:(m*3+1+1) % 3=2:=by omega
    simp [e2,e3]
theorem lkZ_pre (top:Int) (n:Nat):∀ k,((List.range k).flatMap (fun i:Nat=>lk3 top n i)).length=k*3
  | 0=>rfl
  | k+1=>by rw [List.range_succ,List.flatMap_append,List.length_append,lkZ_pre top n k];simp [lk3];omega
theorem lkZ_len {top:Int} {n k:Nat} (h:k≤n):(lkZ top n k).length=n*3:=by
  unfold lkZ
  rw [List.length_append,lkZ_pre,List.length_flatten]
  simp
  omega
theorem lkZ_step {top:Int} {n k:Nat} (h:k<n):setAll (lkZ top n k) (k*3) (Yh true (lk3 top n k))=lkZ top n (k+1):=by
  unfold lkZ
  have e:n-k=(n-(k+1))+1:=by omega
  rw [e,List.replicate_succ,List.flatten_cons]
  have:=setAll_mid (Yh true (lk3 top n k)) ((List.range k).flatMap (fun i:Nat=>lk3 top n i)) [iv 0,iv 0,iv 0] (List.replicate (n-(k+1)) [iv 0,iv 0,iv 0]).flatten rfl
  rw [lkZ_pre,List.append_assoc] at this
  rw [this,List.range_succ,List.flatMap_append]
  simp [Yh,AV.unfr,lk3]
theorem rowLink_c {top c i:Int} (h0:0≤i) (h1:i<c) (hc:c≤8):Ctr Try.prog J 25 [iv top,iv c,iv i] (.agg (lk3 top c i)):=ctr3 fun w v v' v'' _ h h' h''=>by
  rw [h.v_inv,h'.v_inv,h''.v_inv]
  exact (rowLink_any top c i w h0 h1 (by omega)).mono fun _ _ hh=>⟨_,hh.1,.agg rfl fun j hj=>(match j,hj with
    | 0,_ => .v _
    | 1,_ => .v _
    | 2,_ => .v _),hh.2⟩
def lkT (xs:List Int):AV := .sl 3 xs.length ((List.range (xs.length*3)).map fun j=>iv (cf (trun xs xs.length) j))
def cLk (xs:List Int):List AV:=[lkT xs]
theorem newLk (xs:List Int):∀ d∈[AV.fr (lkT xs)],d.isNew=true:=fun d hd=>by
  simp only [List.mem_cons,List.not_mem_nil,or_false] at hd;subst hd;rfl
theorem cellLk (xs:List Int):∀ d∈[AV.fr (lkT xs)],d.cell=true:=fun d hd=>by
  simp only [List.mem_cons,List.not_mem_nil,or_false] at hd;subst hd;rfl
theorem snocLk {L:List (List Int)} {k:Nat} (h:k<L.length):(L.take k).flatMap cLk++Yh true [.fr (lkT L[k])]=(L.take (k+1)).flatMap cLk:=by
  rw [List.take_succ_eq_append_getElem h,List.flatMap_append];simp [Yh,AV.unfr,cLk]
theorem treeLinks_c {xs:List Int} (hI:InOk xs) (h0:0<xs.length) (h1:xs.length≤100):Ctr Try.prog J 27 [Zc xs] (lkT xs):=ctr1 fun w v _ h=>by
  have hi:=YK hI (fun _ _=>Nat.zero_le _) h
  obtain ⟨a,cap,rfl,_,_,_,hc⟩:=hi
  rcases hc with rfl | ⟨b,off,rfl,_,hb,hc⟩
  · simp at h0
  refine (treeLinks_full b off xs.length cap w xs rfl h1 h0 hc).mono fun _ w' ⟨g,he,ho,hb⟩=>⟨_,he,?_,hb⟩
  obtain ⟨h2,cur,t,hg,hcur⟩:=ho
  refine .sl (b:=g) (off:=0) (f:=fun j => .int .i64 (cf (trun xs xs.length) j)) (by simp) (Nat.le_refl _) (by unfold maxLen;omega) ⟨h2,_,_,hg⟩ (Array.getElem?_eq_some_iff.1 hg).1 (fun j hj => ?_) fun j hj => ?_
  · have hj':j<xs.length*3:=by simpa using hj
    rw [Nat.zero_add,ZS hg j (v := .int .i64 (cf (trun xs xs.length) j)) (hcur j hj')]
  simp only [List.getElem_map,List.getElem_range]
  exact .v _
theorem Evaluate_c {l:Ln} {n t f:Int}:Ctr Try.prog J 32 [.agg (cLn l),.agg (cSz n t f)] (.tup [iv (evN l.c l.n l.t l.f n t f),iv (evE l.c l.n l.t l.f n t f)]):=ctr2 fun w v v' _ h h'=>by
  obtain ⟨vs,rfl,hl,hv⟩:=Ke h
  have e:vs=[.int .i64 l.c,.int .i64 l.n,.int .i64 l.t,.int .i64 l.f]:=by
    rw [cells4 hl,(hv 0 (by simp [cLn])).v_inv,(hv 1 (by simp [cLn])).v_inv,(hv 2 (by simp [cLn])).v_inv,(hv 3 (by simp [cLn])).v_inv]
  subst e
  rw [sz_of h']
  exact (Evaluate_any l.c l.n l.t l.f n t f w).mono fun _ _ hh=>⟨_,hh.1,.tup rfl fun j hj=>(match j,hj with
    | 0,_ => .v _
    | 1,_ => .v _),by first | exact hh.2 | (rw [← hh.2];exact Below.refl _ _) | (rw [hh.2];exact Below.refl _ _)⟩
def sysE (p:Fm) (n t f:Int):Int:=if valE p=0 then (if admB p n t f=true then (if 8<n then 4 else 0) else 8) else valE p
def cntE (p:Fm) (n f:Int):Int:=if p.fault=3 then n-f else n
theorem adm_in {p:Fm} {n t f:Int} (h:admB p n t f=true):1≤n∧n≤1048576∧0≤f∧f≤n:=by
  unfold admB inB at h
  simp only [Bool.and_eq_true,decide_eq_true_eq] at h
  omega
theorem rulesE_all {q:Fm}:∀ (f i:Nat),rulesE q i f=0→∀ k,i≤k→k<i+f→ruleE q k (q.rules.getD k default)=0
  | 0,i,_,k,a,b=>absurd b (by omega)
  | f+1,i,e,k,a,b=>by
    unfold rulesE at e
    split at e
    · rename_i e1
      by_cases x:i=k
      · subst x;exact e1
      exact rulesE_all f (i+1) e k (by omega) (by omega)
    exact absurd e (by assumption)
theorem val_lims {p:Fm} (h:valE p=0):p.rules.length≤8∧∀ r∈p.rules,r.guards.length≤2:=by
  unfold valE at h
  split at h
  · cases h
  split at h
  · cases h
  split at h
  · cases h
  split at h
  · cases h
  rename_i g
  split at h
  · cases h
  split at h
  · cases h
  split at h
  · cases h
  refine ⟨(too_rules (by simpa using g)).1,fun r hr => ?_⟩
  have a1:=ZN h
  have a2:=ZN a1.2
  have a3:=ZN a2.2
  obtain ⟨j,hj,rfl⟩:=List.getElem_of_mem hr
  have:=rulesE_all _ _ a3.1 j (Nat.zero_le _) (by omega)
  rw [List.getD_eq_getElem?_getD,List.getElem?_eq_getElem hj,Option.getD_some] at this
  exact rule_guards this
theorem adm_c {p:Fm} {n t f:Int} (HP:FmOk p) (hv:valE p=0):Ctr Try.prog J 31 [.agg (cFm p),.agg (cSz n t f)] (bv (admB p n t f)):=by
  have:=qAdmissible_c (J:=J) HP n t f
  rw [decide_eq_true hv,Bool.true_and] at this
  exact this
def shT (top n:Int):List (List Int):=if top=4 then Sh.shX n else []
theorem shT_tree {top n:Int} (h:top=4):shT top n=Sh.shX n:=if_pos h
theorem shT_no {top n:Int} (h:¬ top=4):shT top n=[]:=if_neg h
def sysC (p:Fm) (n t f:Int):List AV:=cFm p++[iv n,iv t,iv f,iv (cntE p n f),iv (n-f),.any,.any,.any,.any,.any,.any,.any,.any,.any,.any,.any,.any,.any,.any,.any,.any,slA 1 cLi (shT p.top (cntE p n f)),.any]
theorem sys_big {p:Fm} {n t f:Int} (hv:valE p=0) (ha:admB p n t f=true) (h:¬ sysE p n t f=0):8<n:=by
  unfold sysE at h
  rw [if_pos hv,if_pos ha] at h
  by_cases h8:8<n
  · exact h8
  rw [if_neg h8] at h;exact absurd rfl h
theorem sys_ok {p:Fm} {n t f:Int} (h:sysE p n t f=0):valE p=0∧admB p n t f=true∧¬ 8<n:=by
  unfold sysE at h
  split at h
  · split at h
    · split at h
      · cases h
      exact ⟨by assumption,by assumption,by assumption⟩
    cases h
  exact absurd h (by assumption)
theorem sys_e1 {p:Fm} {n t f:Int} (h:¬ valE p=0):sysE p n t f=valE p:=by unfold sysE;rw [if_neg h]
theorem sys_e2 {p:Fm} {n t f:Int} (h:valE p=0) (h2:admB p n t f=false):sysE p n t f=8:=by unfold sysE;rw [if_pos h,if_neg (by rw [h2];simp)]
theorem sys_e3 {p:Fm} {n t f:Int} (h:valE p=0) (h2:admB p n t f=true) (h3:8<n):sysE p n t f=4:=by unfold sysE;rw [if_pos h,if_pos h2,if_pos h3]
end Ns
namespace Rd
def ixP {α:Type} (l:List α) (p:α→Bool):Int:=match l.findIdx? p with | some i=>(i:Int) | none => -1
def noP {α:Type} (l:List α) (p:α→Bool) (k:Nat):Prop:=∀ i (h:i<l.length),i<k→p l[i]=false
theorem noP_zero {α:Type} (l:List α) (p:α→Bool):noP l p 0:=fun _ _ h=>absurd h (by omega)
theorem noP_succ {α:Type} {l:List α} {p:α→Bool} {k:Nat} (hk:k<l.length) (h:noP l p k) (e:p l[k]=false):noP l p (k+1):=fun i a b=>by
  by_cases hi:i<k
  · exact h i a hi
  obtain rfl:i=k:=by omega
  exact e
theorem ixP_at {α:Type} {l:List α} {p:α→Bool} {k:Nat} (hk:k<l.length) (h:noP l p k) (e:p l[k]=true):ixP l p=((k:Nat):Int):=by
  unfold ixP
  rw [List.findIdx?_eq_some_iff_getElem.2 ⟨hk,e,fun j hj=>by simp [h j (by omega) hj]⟩]
theorem ixP_none {α:Type} {l:List α} {p:α→Bool} {k:Nat} (hk:¬ k<l.length) (h:noP l p k):ixP l p = -1:=by
  unfold ixP
  rw [List.findIdx?_eq_none_iff.2 fun x hx=>by
    obtain ⟨i,hi,rfl⟩:=List.mem_iff_getElem.1 hx
    exact h i hi (by omega)]
theorem anyP_ix {α:Type} (l:List α) (p:α→Bool):decide (0≤ixP l p)=l.any p:=by
  unfold ixP
  cases hf:l.findIdx? p with
  | none =>
    rw [List.findIdx?_eq_none_iff] at hf
    have:l.any p=false:=by simpa using hf
    simp [this]
  | some i =>
    obtain ⟨hi,h1,_⟩:=List.findIdx?_eq_some_iff_getElem.1 hf
    have:l.any p=true:=List.any_eq_true.2 ⟨_,List.getElem_mem hi,h1⟩
    simp [this]
def outB (m x:Int):Bool:=decide (x<0)||decide (m≤x)
theorem outB_lo {m x:Int} (h:x<0):outB m x=true:=by unfold outB;simp [h]
theorem outB_hi {m x:Int} (h:¬ x<0):outB m x=decide (m≤x):=by unfold outB;simp [h]
def belB (l:List Int) (m:Int):Bool := !l.any (outB m)
def shI (top:Int) (S:List (List Int)) (sh:List Int):Int:=if top=4 then max (ixP S fun x=>decide (sh=x)) 0 else 0
def shB (top:Int) (S:List (List Int)) (sh:List Int):Bool:=if top=4 then S.any (fun x=>decide (sh=x)) else decide (sh=[])
theorem shI_tree {top:Int} {S:List (List Int)} {sh:List Int} (h:top=4):shI top S sh=max (ixP S fun x=>decide (sh=x)) 0:=if_pos h
theorem shI_no {top:Int} {S:List (List Int)} {sh:List Int} (h:¬ top=4):shI top S sh=0:=if_neg h
theorem shB_tree {top:Int} {S:List (List Int)} {sh:List Int} (h:top=4):shB top S sh=decide (0≤ixP S fun x=>decide (sh=x)):=by
  unfold shB;rw [if_pos h];exact (anyP_ix S _).symm
theorem shB_no {top:Int} {S:List (List Int)} {sh:List Int} (h:¬ top=4):shB top S sh=decide (((sh.length:Nat):Int)=0):=by
  unfold shB;rw [if_neg h]
  cases sh with
  | nil=>rfl
  | cons a l=>simp;omega
def cCg (c:Cf):List AV:=[Zc c.sh,Zc c.st,iv c.cor,Zc c.se,Zc c.fa,iv c.val]
structure CgOk (c:Cf):Prop where
  sh:InOk c.sh
  st:InOk c.st
  se:InOk c.se
  fa:InOk c.fa
  lsh:c.sh.length≤100
  lst:c.st.length≤100
  lse:c.se.length≤100
  lfa:c.fa.length≤100
theorem plain_cg (c:Cf):∀ X∈cCg c,Plain X:=by
  intro X hX
  simp only [cCg,List.mem_cons,List.not_mem_nil,or_false] at hX
  rcases hX with rfl | rfl | rfl | rfl | rfl | rfl<;>first | exact .v _ | exact Ye _
def mfE (p:Fm):Int:=if p.fault=1∨p.fault=2 then 1048577 else 1
def rdB (p:Fm) (cnt cor:Int) (c:Cf) (b:Bool):Bool :=
  b&&decide (((c.st.length:Nat):Int)=cnt)&&belB c.st ((p.states.length:Nat):Int)&&decide (c.cor=cor)&&decide (((c.se.length:Nat):Int)=((p.msgs.length:Nat):Int))&&belB c.se 1048577 &&
  decide (((c.fa.length:Nat):Int)=((p.msgs.length:Nat):Int))&&belB c.fa (mfE p) && !decide (c.val<0) && !decide (max ((p.vals.length:Nat):Int) 1≤c.val)
def zz (b:Bool) (x:Int):Int:=if b=true then x else 0
def cfZ (b:Bool) (i:Int) (c:Cf):List AV :=
  [iv (zz b i),iv (zz b (c.st.getD 0 0)),iv (zz b (c.st.getD 1 0)),iv (zz b (c.st.getD 2 0)),iv (zz b (c.st.getD 3 0)),iv (zz b (c.st.getD 4 0)),iv (zz b (c.st.getD 5 0)),iv (zz b (c.st.getD 6 0)),iv (zz b (c.st.getD 7 0)),
   iv (zz b (c.se.getD 0 0)),iv (zz b (c.se.getD 1 0)),iv (zz b (c.se.getD 2 0)),iv (zz b (c.fa.getD 0 0)),iv (zz b (c.fa.getD 1 0)),iv (zz b (c.fa.getD 2 0)),iv (zz b c.val)]
def rdX (p:Fm) (n f:Int) (c:Cf):Bool:=rdB p (Ns.cntE p n f) (n-f) c (shB p.top (Ns.shT p.top (Ns.cntE p n f)) c.sh)
def rdY (p:Fm) (n f:Int) (c:Cf):Bool:=rdX p n f c
def vcE (p:Fm) (n t f:Int) (c:Cf):Int:=if Ns.sysE p n t f=0 then (if rdX p n f c=true then 0 else 1) else Ns.sysE p n t f
end Rd
namespace Rd
def looseB (p:Fm):Bool:=decide (p.fault=1)||decide (p.fault=2)
theorem any_none {α:Type} {xs:List α} {q:α→Bool} {k:Nat} (hk:¬ k<xs.length) (h:noP xs q k):xs.any q=false :=
  List.any_eq_false.2 fun x hx=>by
    obtain ⟨i,hi,rfl⟩:=List.mem_iff_getElem.1 hx
    simp [h i hi (by omega)]
theorem any_one {α:Type} {xs:List α} {q:α→Bool} {k:Nat} (hk:k<xs.length) (h:q xs[k]=true):xs.any q=true:=List.any_eq_true.2 ⟨_,List.getElem_mem hk,h⟩
end Rd
namespace Ct
def bump (L:List Int) (x:Int):List Int:=L.set x.toNat (L.getD x.toNat 0+1)
def cnt (S:Nat) (xs:List Int):List Int:=xs.foldl bump (List.replicate S 0)
def two (sh A B se fa:List Int) (val:Int):Cf:=⟨sh,A++B,((A.length:Nat):Int),se,fa,val⟩
theorem row_at {L:List Int} {i:Nat} (h:i<L.length):(L.map iv)[i*1]? = some (iv (L.getD i 0)):=by
  rw [Nat.mul_one,List.getElem?_map,List.getD_eq_getElem?_getD,List.getElem?_eq_getElem h]
  rfl
theorem getD_at {L:List Int} {i:Nat} (h:i<L.length):L.getD i 0=L[i]:=by
  rw [List.getD_eq_getElem?_getD,List.getElem?_eq_getElem h];rfl
def srt (xs:List Int):List Int:=xs.mergeSort fun x y=>decide (x≤y)
theorem srt_perm (xs:List Int):(srt xs).Perm xs:=List.mergeSort_perm _ _
theorem srt_pw (xs:List Int):List.Pairwise (fun a b=>a≤b) (srt xs):=by
  have:=List.pairwise_mergeSort (le:=fun x y:Int=>decide (x≤y)) (fun a b c h1 h2=>by simp at *;omega) (fun a b=>by simp;omega) xs
  exact this.imp fun h=>by simpa using h
theorem srt_eq {xs L:List Int} (hp:L.Perm xs) (hs:∀ a b,(h:a<b)→(hb:b<L.length)→L[a]≤L[b]):L=srt xs :=
  List.Perm.eq_of_pairwise (le:=fun a b:Int=>a≤b) (fun a b _ _ h1 h2=>by omega) (List.pairwise_iff_getElem.2 fun i j _ hj hij=>hs i j hij hj) (srt_pw xs) (hp.trans (srt_perm xs).symm)
structure Ins (xs L:List Int) (i k:Nat):Prop where
  perm:L.Perm xs
  le:k≤i
  ord:∀ a b,(h1:a<b)→b≤i→(hb:b<L.length)→a≠k→b≠k→L[a]'(by omega)≤L[b]
  low:∀ b,(h1:k<b)→b≤i→(hb:b<L.length)→L[k]'(by omega)<L[b]
structure Srd (xs L:List Int) (i:Nat):Prop where
  perm:L.Perm xs
  ord:∀ a b,(h1:a<b)→b<i→(hb:b<L.length)→L[a]'(by omega)≤L[b]
theorem Srd.one (xs:List Int):Srd xs xs 1:=⟨List.Perm.refl _,fun a b h1 h2 _=>by omega⟩
theorem Ins.out {xs L:List Int} {i k:Nat} (h:Ins xs L i k) (hi:i<L.length) (hk:0<k→L[k-1]'(by have:=h.le;omega)≤L[k]'(by have:=h.le;omega)):Srd xs L (i+1):=by
  have hle:=h.le
  refine ⟨h.perm,fun a b h1 h2 hb => ?_⟩
  by_cases ea:a=k
  · subst ea;exact Int.le_of_lt (h.low b h1 (by omega) hb)
  by_cases eb:b=k
  · subst eb
    have h3:=hk (by omega)
    by_cases e:a=b-1
    · subst e;exact h3
    exact Int.le_trans (h.ord a (b-1) (by omega) (by omega) (by omega) ea (by omega)) h3
  exact h.ord a b h1 (by omega) hb ea eb
def swp (L:List Int) (k:Nat):List Int:=(L.set (k-1) (L.getD k 0)).set k (L.getD (k-1) 0)
theorem swp_at {L:List Int} {k j:Nat} (hk:0<k) (hj:j<(swp L k).length) (hkl:k<L.length):(swp L k)[j]=if j=k then L[k-1] else if j=k-1 then L[k] else L[j]'(by simpa [swp] using hj):=by
  show ((L.set (k-1) (L.getD k 0)).set k (L.getD (k-1) 0))[j]'(by simpa [swp] using hj)=_
  rw [List.getElem_set,List.getElem_set]
  by_cases e:k=j
  · subst e;simp [List.getD_eq_getElem?_getD,List.getElem?_eq_getElem (show k-1<L.length by omega)]
  rw [if_neg e,if_neg (Ne.symm e)]
  by_cases e2:k-1=j
  · rw [if_pos e2,if_pos e2.symm];simp [List.getD_eq_getElem?_getD,List.getElem?_eq_getElem hkl]
  rw [if_neg e2,if_neg (Ne.symm e2)]
theorem swp_perm {L:List Int} {k:Nat} (hkl:k<L.length):(swp L k).Perm L:=by
  have h1:k-1<L.length:=by omega
  have:=List.set_set_perm h1 hkl
  unfold swp
  rw [List.getD_eq_getElem?_getD,List.getD_eq_getElem?_getD,List.getElem?_eq_getElem hkl,List.getElem?_eq_getElem h1]
  exact this
theorem Ins.step {xs L:List Int} {i k:Nat} (h:Ins xs L i k) (hi:i<L.length) (hk:0<k) (hgt:L[k]'(by have:=h.le;omega)<L[k-1]'(by have:=h.le;omega)):Ins xs (swp L k) i (k-1):=by
  have hle:=h.le
  have hkl:k<L.length:=by omega
  refine ⟨(swp_perm hkl).trans h.perm,by omega,fun a b h1 h2 hb ha hb' => ?_,fun b h1 h2 hb => ?_⟩
  · have hb2:b<L.length:=by simpa [swp] using hb
    rw [swp_at hk _ hkl,swp_at hk _ hkl]
    by_cases eb:b=k
    · rw [if_neg (by omega),if_neg ha,if_pos eb]
      exact h.ord a (k-1) (by omega) (by omega) (by omega) (by omega) (by omega)
    rw [if_neg eb,if_neg hb']
    by_cases ea:a=k
    · rw [if_pos ea]
      exact h.ord (k-1) b (by omega) h2 hb2 (by omega) eb
    rw [if_neg ea,if_neg ha]
    exact h.ord a b h1 h2 hb2 ea eb
  have hb2:b<L.length:=by simpa [swp] using hb
  rw [swp_at hk _ hkl,swp_at hk _ hkl]
  rw [if_neg (by omega),if_pos rfl]
  by_cases eb:b=k
  · rw [if_pos eb];exact hgt
  rw [if_neg eb,if_neg (by omega)]
  exact h.low b (by omega) h2 hb2
theorem Srd.eq {xs L:List Int} {i:Nat} (h:Srd xs L i) (hi:L.length≤i):L=srt xs:=srt_eq h.perm fun a b h1 hb=>h.ord a b h1 (by omega) hb
end Ct
abbrev Rw:=List Int × Int
def IsRows (lo:Nat) (w:World) (v:Value) (rs:List Rw):Prop :=
  ∃ (a:Option Addr) (cap:Nat),v = .slice a rs.length cap∧rs.length≤cap∧cap≤maxLen ∧
    (rs=[]∨∃ b off,a=some ⟨b,off,none⟩∧lo≤b∧b<w.heap.size ∧
      ∀ i (hi:i<rs.length),∃ sv,w.cell? ⟨b,off+i*2,none⟩=some sv∧w.cell? ⟨b,off+i*2+1,none⟩=some (.int .i64 rs[i].2)∧IsInts lo w sv rs[i].1∧I64 rs[i].2)
theorem IsRows.below {lo:Nat} {w w':World} {v:Value} {rs:List Rw} (h:IsRows lo w v rs) (hb:Below w.heap.size w w'):IsRows lo w' v rs:=by
  obtain ⟨a,cap,hv,hl,hm,hc⟩:=h
  refine ⟨a,cap,hv,hl,hm,?_⟩
  rcases hc with hc | ⟨b,off,ha,hlo,hbk,hcell⟩
  · exact .inl hc
  refine .inr ⟨b,off,ha,hlo,Nat.lt_of_lt_of_le hbk hb.size,fun i hi => ?_⟩
  obtain ⟨sv,h1,h2,h3,h4⟩:=hcell i hi
  exact ⟨sv,(hb.cell (p:=⟨b,off+i*2,none⟩) hbk).trans h1,(hb.cell (p:=⟨b,off+i*2+1,none⟩) hbk).trans h2,h3.below hb,h4⟩
theorem IsRows.mono {lo lo':Nat} {w:World} {v:Value} {rs:List Rw} (h:IsRows lo w v rs) (hl:lo'≤lo):IsRows lo' w v rs:=by
  obtain ⟨a,cap,hv,h1,hm,hc⟩:=h
  refine ⟨a,cap,hv,h1,hm,?_⟩
  rcases hc with hc | ⟨b,off,ha,hlo,hbk,r⟩
  · exact .inl hc
  exact .inr ⟨b,off,ha,Nat.le_trans hl hlo,hbk,fun i hi=>by obtain ⟨sv,h1,h2,h3,h4⟩:=r i hi;exact ⟨sv,h1,h2,h3.mono hl,h4⟩⟩
theorem IsRows.shape {lo:Nat} {w:World} {v:Value} {rs:List Rw} (h:IsRows lo w v rs):∃ a cap,v = .slice a rs.length cap:=by
  obtain ⟨a,cap,hv,_⟩:=h
  exact ⟨a,cap,hv⟩
theorem IsRows.bound {lo:Nat} {w:World} {v:Value} {rs:List Rw} (h:IsRows lo w v rs):rs.length≤9223372036854775807:=by
  obtain ⟨a,cap,_,h1,hm,_⟩:=h
  unfold maxLen at hm;omega
theorem IsRows.at {lo:Nat} {w:World} {a:Option Addr} {n cap:Nat} {rs:List Rw} (h:IsRows lo w (.slice a n cap) rs) (k:Nat) (hk:k<rs.length) :
    ∃ b off sv,a=some ⟨b,off,none⟩∧b<w.heap.size∧w.cell? ⟨b,off+k*2,none⟩=some sv∧w.cell? ⟨b,off+k*2+1,none⟩=some (.int .i64 rs[k].2)∧IsInts lo w sv rs[k].1∧I64 rs[k].2:=by
  obtain ⟨a',cap',hv,_,_,hc⟩:=h
  simp only [Value.slice.injEq] at hv
  rcases hc with rfl | ⟨b,off,ha,_,hb,hc⟩
  · simp at hk
  obtain ⟨sv,h1,h2,h3,h4⟩:=hc k hk
  exact ⟨b,off,sv,hv.1.trans ha,hb,h1,h2,h3,h4⟩
structure Pq where
  nm:ByteArray
  kind:Int
  start:List Int
  bad:List Rw
  adj:List Int
  goal:List Int
def IsProp (lo:Nat) (w:World) (v:Value) (q:Pq):Prop :=
  ∃ v2 v3 v4 v5,v = .agg #[.string q.nm,.int .i64 q.kind,v2,v3,v4,v5]∧IsInts lo w v2 q.start∧IsRows lo w v3 q.bad∧IsInts lo w v4 q.adj∧IsInts lo w v5 q.goal∧q.nm.size≤maxLen∧I64 q.kind
theorem IsProp.below {lo:Nat} {w w':World} {v:Value} {q:Pq} (h:IsProp lo w v q) (hb:Below w.heap.size w w'):IsProp lo w' v q:=by
  obtain ⟨v2,v3,v4,v5,e,h2,h3,h4,h5,h6⟩:=h
  exact ⟨v2,v3,v4,v5,e,h2.below hb,h3.below hb,h4.below hb,h5.below hb,h6⟩
theorem IsProp.mono {lo lo':Nat} {w:World} {v:Value} {q:Pq} (h:IsProp lo w v q) (hl:lo'≤lo):IsProp lo' w v q:=by
  obtain ⟨v2,v3,v4,v5,e,h2,h3,h4,h5,h6⟩:=h
  exact ⟨v2,v3,v4,v5,e,h2.mono hl,h3.mono hl,h4.mono hl,h5.mono hl,h6⟩
end Go.Proofs.Ytabgfofjgkibmaa
namespace Go.Proofs.Ytabgfofjgkibmaa
open Go.RowKit Go.Deep Go.ChangeShapes Go.WideShapes Go.ChangeAt Go.Joins
section
variable {H:Type} {enc:TypeId × Value→H} {w:World} {base:Nat} {sp:Nat→Bool} {held:Bool}
end
end Go.Proofs.Ytabgfofjgkibmaa
namespace Go.Proofs.Ytabgfofjgkibmaa
open Go.RowKit Go.Deep
end Go.Proofs.Ytabgfofjgkibmaa
namespace Go.Proofs.Ytabgfofjgkibmaa
open Go.RowKit Go.Deep Go.ChangeShapes Go.WideShapes Go.ChangeAt Go.Joins
def RwEl (lo:Nat) (w:World) (cs:List Value) (r:Rw):Prop:=∃ v,cs=[v,.int .i64 r.2]∧IsInts lo w v r.1∧I64 r.2
def IsPropX (lo:Nat) (w:World) (v:Value) (q:Pq):Prop :=
  ∃ v2 v3 v4 v5,v = .agg #[.string q.nm,.int .i64 q.kind,v2,v3,v4,v5]∧IsInts lo w v2 q.start∧IsSl 2 RwEl lo w v3 q.bad∧IsInts lo w v4 q.adj∧IsInts lo w v5 q.goal∧q.nm.size≤maxLen∧I64 q.kind
section
variable {H:Type} {enc:TypeId × Value→H} {w:World} {base:Nat} {sp:Nat→Bool} {held:Bool}
end
structure PqOk (q:Pq):Prop where
  nm:q.nm.size≤maxLen
  kind:I64 q.kind
  start:InOk q.start
  bad:∀ r∈q.bad,InOk r.1∧I64 r.2∧r.1.length≤9223372036854775807
  adj:InOk q.adj
  goal:InOk q.goal
  lstart:q.start.length≤9223372036854775807
  lbad:q.bad.length≤9223372036854775807
  ladj:q.adj.length≤9223372036854775807
  lgoal:q.goal.length≤9223372036854775807
theorem IsPropX.ok {lo:Nat} {w:World} {v:Value} {q:Pq} (h:IsPropX lo w v q):PqOk q:=by
  obtain ⟨v2,v3,v4,v5,_,h2,h3,h4,h5,h6,h7⟩:=h
  exact ⟨h6,h7,h2.ok,h3.all fun cs r hr=>by obtain ⟨v,_,a,b⟩:=hr;exact ⟨a.ok,b,a.len⟩,h4.ok,h5.ok,h2.len,h3.bound,h4.len,h5.len⟩
section
variable {F ok:Nat→Prop} {lo:Nat} {w:World}
end
section
variable {J:World→Prop}
end
end Go.Proofs.Ytabgfofjgkibmaa
namespace Go.Proofs.Ytabgfofjgkibmaa
open Go.RowKit Go.Deep
def noI (xs:List Int) (x:Int) (k:Nat):Prop:=∀ j (h:j<xs.length),j<k→xs[j]≠x
theorem noI_zero (xs:List Int) (x:Int):noI xs x 0:=fun _ _ h=>absurd h (by omega)
theorem noI_succ {xs:List Int} {x:Int} {k:Nat} (hk:k<xs.length) (h:noI xs x k) (e:¬ x=xs[k]):noI xs x (k+1):=fun j hj h'=>by
  by_cases c:j=k
  · subst c;exact fun h=>e h.symm
  exact h j hj (by omega)
def idxI (xs:List Int) (x:Int):Int:=if x∈xs then ((xs.findIdx (· == x):Nat):Int) else -1
theorem idx_yes {xs:List Int} {x:Int} {k:Nat} (hk:k<xs.length) (h:noI xs x k) (e:x=xs[k]):((k:Nat):Int)=idxI xs x:=by
  have hm:x∈xs:=by rw [e];exact List.getElem_mem hk
  have:xs.findIdx (· == x)=k:=(List.findIdx_eq hk).2 ⟨by simp [← e],fun j hj=>by simpa using h j (by omega) hj⟩
  unfold idxI;rw [if_pos hm,this]
theorem has_no {xs:List Int} {x:Int} {k:Nat} (hk:¬ k<xs.length) (h:noI xs x k):decide (x∈xs)=false:=by
  rw [decide_eq_false_iff_not];intro hm
  obtain ⟨j,hj,e⟩:=List.getElem_of_mem hm
  exact h j hj (by omega) e
theorem idx_no {xs:List Int} {x:Int} {k:Nat} (hk:¬ k<xs.length) (h:noI xs x k):(-1:Int)=idxI xs x:=by
  have:=has_no hk h
  unfold idxI;rw [if_neg (by simpa using this)]
theorem idx_has (xs:List Int) (x:Int):decide (0≤idxI xs x)=decide (x∈xs):=by
  unfold idxI
  by_cases h:x∈xs
  · rw [if_pos h];simp [h]
  rw [if_neg h];simp [h]
def cntE (n:Nat) (c:Rw):Int:=if setE n c.1=0 then (if ((c.1.length:Nat):Int)=0 then 1 else if inB 1 3 c.2=true then 0 else 1) else setE n c.1
namespace Jd
def lkF (top:Int) (sh:List Int) (n i:Nat):Int:=if top=4 then (trun sh sh.length).fi i else (rowL top n i).1
def lkS (top:Int) (sh:List Int) (n i:Nat):Int:=if top=4 then (trun sh sh.length).se i else (rowL top n i).2.1
section
variable {top x y:Int} {xs:List Int} {F S:Nat→Int} {k:Nat}
end
def cP (xs l:List Int):Nat:=xs.countP fun x=>decide (x∈l)
def upB (xs:List Int) (bad:List Rw) (k:Nat):Prop:=∀ i (h:i<bad.length),i<k→bad[i].2≤((cP xs bad[i].1:Nat):Int)
theorem upB_zero (xs:List Int) (bad:List Rw):upB xs bad 0:=fun _ _ h=>absurd h (by omega)
theorem upB_succ {xs:List Int} {bad:List Rw} {k:Nat} (hk:k<bad.length) (h:upB xs bad k) (e:¬ ((cP xs bad[k].1:Nat):Int)<bad[k].2):upB xs bad (k+1):=fun i hi h'=>by
  by_cases c:i=k
  · subst c;omega
  exact h i hi (by omega)
def lkC (top:Int) (sh:List Int) (n:Nat) (j:Nat):Int:=if j % 3=0 then lkF top sh n (j / 3) else if j % 3=1 then lkS top sh n (j / 3) else if top=4 then (trun sh sh.length).pa (j / 3) else (rowL top n (j / 3)).2.2
def lkA (top:Int) (sh:List Int) (n:Nat):AV := .sl 3 n ((List.range (n*3)).map fun j=>iv (lkC top sh n j))
theorem lkC_F {top:Int} {sh:List Int} {n i:Nat}:lkC top sh n (i*3)=lkF top sh n i:=by unfold lkC;rw [if_pos (by omega)];congr 1;omega
theorem lkC_S {top:Int} {sh:List Int} {n i:Nat}:lkC top sh n (i*3+1)=lkS top sh n i:=by unfold lkC;rw [if_neg (by omega),if_pos (by omega)];congr 1;omega
theorem lkA_tree {sh:List Int}:Ns.lkT sh=lkA 4 sh sh.length:=by
  unfold Ns.lkT lkA
  congr 1
theorem lkZ_row {top:Int} {sh:List Int} {n:Nat} (ht:¬ top=4):Ns.lkZ top n n=(List.range (n*3)).map fun j=>iv (lkC top sh n j):=by
  unfold Ns.lkZ
  rw [Nat.sub_self,List.replicate_zero,List.flatten_nil,List.append_nil]
  have key:∀ k,(List.range k).flatMap (fun i:Nat=>Ns.lk3 top n i)=(List.range (k*3)).map fun j=>iv (lkC top sh n j):=by
    intro k
    induction k with
    | zero=>rfl
    | succ k ih =>
      rw [List.range_succ,List.flatMap_append,ih,show (k+1)*3=k*3+1+1+1 by omega,List.range_succ,List.range_succ,List.range_succ,List.map_append,List.map_append,List.map_append]
      have e1:lkC top sh n (k*3)=(rowL top n k).1:=by rw [lkC_F];exact if_neg ht
      have e2:lkC top sh n (k*3+1)=(rowL top n k).2.1:=by rw [lkC_S];exact if_neg ht
      have e3:lkC top sh n (k*3+1+1)=(rowL top n k).2.2:=by
        unfold lkC
        rw [if_neg (by omega),if_neg (by omega),if_neg ht]
        congr 3;omega
      simp only [List.map_cons,List.map_nil,e1,e2,e3,List.flatMap_cons,List.flatMap_nil,List.append_nil,Ns.lk3,List.append_assoc,List.cons_append,List.nil_append]
  exact key n
def LkOk (top:Int) (sh:List Int) (n:Nat):Prop:=∀ i,i<n→lkF top sh n i<n∧lkS top sh n i<n
theorem lk_tree {sh:List Int} (h:shp sh=true):LkOk 4 sh sh.length:=fun i hi=>by
  have T:=(tree_ok sh h).1
  unfold lkF lkS
  rw [if_pos rfl,if_pos rfl]
  have h1:=T.fst i hi
  have h2:=T.snd i hi
  constructor
  · rcases h1 with e | ⟨j,hj,e,_⟩<;>omega
  rcases h2 with e | ⟨j,hj,e,_⟩<;>omega
theorem lk_row {top:Int} {sh:List Int} {n:Nat} (h:top=2∨top=3):LkOk top sh n:=fun i hi=>by
  unfold lkF lkS
  rw [if_neg (by omega),if_neg (by omega)]
  unfold rowL
  dsimp only
  constructor<;>(repeat' split)<;>omega
theorem top_in {p:Fm} (h:valE p=0):1≤p.top∧p.top≤4:=by
  unfold valE at h
  split at h
  · cases h
  split at h
  · cases h
  rename_i _ h2
  have:inB 1 4 p.top=true:=by
    cases e:inB 1 4 p.top with
    | true=>rfl
    | false=>exact absurd (.inl e) h2
  unfold inB at this
  simp at this
  omega
end Jd
end Go.Proofs.Ytabgfofjgkibmaa
namespace Go.Proofs.Ytabgfofjgkibmaa
namespace Tr
theorem lack_pos (f:Nat→Int) (p:Nat):1≤lack f p:=by unfold lack;split<;>omega
end Tr
end Go.Proofs.Ytabgfofjgkibmaa
namespace Go.Proofs.Ytabgfofjgkibmaa
open Go.RowKit Go.Deep
variable {J:World→Prop}
namespace En
def gbV (r:Ru) (n t f:Int) (k:Nat):Int:=evN (r.guards.getD k default).bd.c (r.guards.getD k default).bd.n (r.guards.getD k default).bd.t (r.guards.getD k default).bd.f n t f
def bdAt (p:Fm) (n t f:Int) (i k:Nat):Int:=if i<p.rules.length∧k<(p.rules.getD i default).guards.length then gbV (p.rules.getD i default) n t f k else 0
def bdP (p:Fm) (n t f:Int) (R K q:Nat):Int:=if q / 2<R∨(q / 2=R∧q % 2<K) then bdAt p n t f (q / 2) (q % 2) else 0
def shS (top:Int) (c:Nat):List (List Int):=if top=4 then Sh.shX ((c:Nat):Int) else if top=2∨top=3 then [[]] else []
def cLkS (top:Int) (c:Nat) (sh:List Int):List AV:=[Jd.lkA top sh c]
def lkS (top:Int) (c:Nat):AV:=slA 1 (cLkS top c) (shS top c)
def sysB (p:Fm) (n t f:Int) (R K:Nat) (sh li:AV):List AV:=midF (cFm p++[iv n,iv t,iv f,iv (Ns.cntE p n f),iv (n-f)]) 16 (fun q=>iv (bdP p n t f R K q)) [sh,li]
def sysP (p:Fm) (n t f:Int):List AV:=sysB p n t f p.rules.length 0 (slA 1 cLi (Ns.shT p.top (Ns.cntE p n f))) (lkS p.top (Ns.cntE p n f).toNat)
theorem sysB_len {p:Fm} {n t f:Int} {R K:Nat} {sh li:AV}:(sysB p n t f R K sh li).length=33:=by
  unfold sysB
  rw [midF_len];rfl
theorem sysB_step {p:Fm} {n t f:Int} {R K:Nat} {sh li:AV} {x:Int} (hR:R<p.rules.length) (h8:p.rules.length≤8) (hK:K<p.rules[R].guards.length) (h2:p.rules[R].guards.length≤2)
    (hx:x=evN p.rules[R].guards[K].bd.c p.rules[R].guards[K].bd.n p.rules[R].guards[K].bd.t p.rules[R].guards[K].bd.f n t f):setAll (sysB p n t f R K sh li) (15+R*2+K*1) [iv x]=sysB p n t f R (K+1) sh li:=by
  have d1:(2*R+K) / 2=R:=by omega
  have d2:(2*R+K) % 2=K:=by omega
  have e1:p.rules.getD R default=p.rules[R]:=by rw [List.getD_eq_getElem?_getD,List.getElem?_eq_getElem hR];rfl
  have e2:p.rules[R].guards.getD K default=p.rules[R].guards[K]:=by rw [List.getD_eq_getElem?_getD,List.getElem?_eq_getElem hK];rfl
  refine midF_set (i:=2*R+K) (by omega) (by show 15+(2*R+K)=_;omega) ?_ fun j hj hne => ?_
  · congr 2
    unfold bdP
    rw [d1,d2,if_pos (.inr ⟨rfl,by omega⟩)]
    unfold bdAt
    rw [e1,if_pos ⟨hR,hK⟩,hx]
    unfold gbV
    rw [e2]
  refine congrArg iv ?_
  unfold bdP
  by_cases c:j / 2<R∨(j / 2=R∧j % 2<K)
  · rw [if_pos c,if_pos (by omega)]
  rw [if_neg c,if_neg (by omega)]
theorem sysB_row {p:Fm} {n t f:Int} {R K:Nat} {sh li:AV} (hR:R<p.rules.length) (hK:¬ K<p.rules[R].guards.length):sysB p n t f (R+1) 0 sh li=sysB p n t f R K sh li:=by
  have e1:p.rules.getD R default=p.rules[R]:=by rw [List.getD_eq_getElem?_getD,List.getElem?_eq_getElem hR];rfl
  refine midF_congr fun j hj=>congrArg iv ?_
  unfold bdP
  by_cases c:j / 2<R∨(j / 2=R∧j % 2<K)
  · rw [if_pos c,if_pos (by omega)]
  rw [if_neg c]
  by_cases d:j / 2=R
  · rw [if_pos (by omega),d]
    unfold bdAt
    rw [e1,if_neg (by omega)]
  rw [if_neg (by omega)]
theorem sysP_bd {p:Fm} {n t f:Int} {R K:Nat} {sh li:AV} (hR:R<p.rules.length) (h8:p.rules.length≤8) (hK:K<p.rules[R].guards.length) (h2:p.rules[R].guards.length≤2) :
    (sysB p n t f p.rules.length 0 sh li)[15+R*2+K*1]? = some (iv (gbV p.rules[R] n t f K)):=by
  have e1:p.rules.getD R default=p.rules[R]:=by rw [List.getD_eq_getElem?_getD,List.getElem?_eq_getElem hR];rfl
  have d1:(2*R+K) / 2=R:=by omega
  have d2:(2*R+K) % 2=K:=by omega
  refine (midF_get (i:=2*R+K) (by omega) (by show 15+(2*R+K)=_;omega)).trans ?_
  congr 2
  unfold bdP
  rw [d1,d2,if_pos (.inl hR)]
  unfold bdAt
  rw [e1,if_pos ⟨hR,hK⟩]
theorem plain_lkA (top:Int) (sh:List Int) (c:Nat):Plain (Jd.lkA top sh c) := .sl (ZQ fun X hX=>by obtain ⟨j,_,rfl⟩:=List.mem_map.1 hX;exact .v _)
theorem plain_lkS (top:Int) (c:Nat):Plain (lkS top c):=YQ (fun sh X hX=>by
  unfold cLkS at hX
  rw [List.mem_singleton.1 hX];exact plain_lkA _ _ _) _
theorem plain_sysB (p:Fm) (n t f:Int) (R K:Nat) {sh li:AV} (h1:Plain sh) (h2:Plain li):∀ X∈sysB p n t f R K sh li,Plain X:=by
  intro X hX
  unfold sysB midF at hX
  rcases List.mem_append.1 hX with h | h
  · rcases List.mem_append.1 h with h | h
    · exact YA p X h
    simp only [List.mem_cons,List.not_mem_nil,or_false] at h
    rcases h with rfl | rfl | rfl | rfl | rfl<;>exact .v _
  rcases List.mem_append.1 h with h | h
  · obtain ⟨j,_,rfl⟩:=List.mem_map.1 h;exact .v _
  simp only [List.mem_cons,List.not_mem_nil,or_false] at h
  rcases h with rfl | rfl
  · exact h1
  exact h2
theorem plain_sysP (p:Fm) (n t f:Int):∀ X∈sysP p n t f,Plain X:=plain_sysB p n t f _ _ (YQ plain_li _) (plain_lkS _ _)
theorem shX_is {c:Nat}:∀ xs∈Sh.shX ((c:Nat):Int),xs.length=c∧shp xs=true:=by
  unfold Sh.shX
  split
  · intro xs h;cases h
  split
  · intro xs h;cases h
  rename_i h1 h2
  rw [Int.toNat_natCast]
  obtain rfl | rfl | rfl | rfl:c=1∨c=3∨c=5∨c=7:=by omega
  all_goals decide +kernel
theorem lkS_tree {c:Nat}:slA 1 Ns.cLk (Sh.shX ((c:Nat):Int))=lkS 4 c:=by
  unfold lkS shS
  rw [if_pos rfl]
  unfold slA
  congr 1
  rw [List.flatMap_def,List.flatMap_def]
  refine congrArg List.flatten (List.map_congr_left fun sh hsh => ?_)
  unfold Ns.cLk cLkS
  rw [Jd.lkA_tree,(shX_is sh hsh).1]
theorem lkS_row {top:Int} {c:Nat} (h:top=2∨top=3):AV.sl 1 1 [.sl 3 c (Ns.lkZ top c c)]=lkS top c:=by
  unfold lkS shS
  rw [if_neg (by omega),if_pos h,Jd.lkZ_row (sh:=[]) (by omega)]
  rfl
theorem lkS_no {top:Int} {c:Nat} (h:¬ top=2) (h':¬ top=3) (h4:¬ top=4):AV.sl 1 0 []=lkS top c:=by
  unfold lkS shS
  rw [if_neg h4,if_neg (by omega)]
  rfl
end En
set_option maxRecDepth 100000
set_option maxHeartbeats 6400000
theorem outB_c {x m:Int}:Ctr Try.prog J 60 [iv x,.el ([iv m]) 0] (bv (Rd.outB m x)):=by
 refine Zx Try.func60 rfl (by intro X hX;simp only [List.mem_cons,List.not_mem_nil,or_false] at hX;rcases hX with rfl | rfl;exact .v _;exact .el (ZQ (by intro X hX;rw [List.mem_singleton.1 hX];exact .v _))) (n:=11) rfl (by simp) (fun w0 => ?_)
 refine kW 11 [] [(0,iv x),(1,.el ([iv m]) 0)] (Zb (Za (pM (aC (.bool false)) (Ze (Zd (Zb ?_))))))
 by_cases hs1:x<0
 refine Za (pM (mT 0 (iv x)) (oC (ZZ rfl (dT hs1)) I0 I0 (pM (mT 5 bT) (qK (qK (qK (pP (pk true bT (.v (.tuple #[])) rfl) (pM (aT 10 bT) (Ze (Zd (Zn ?_)))))))))))
 refine Zv Try.results60 (.tmp rfl) ?_
 exact congrArg (fun x:Bool=>AV.v (.bool x)) ((Rd.outB_lo hs1).symm)
 refine Za (pM (mT 0 (iv x)) (oC (ZZ rfl (dF hs1)) I0 I0 (pM (mT 5 bF) (qM (mT 0 (iv x)) (gA (lE (iv m) 1 U3) I0 (gC (YZ rfl rfl) I0 I0 (pP (pk false bT (bv (decide (m≤x))) rfl) (pM (aT 10 (bv (decide (m≤x)))) (Ze (Zd (Zn ?_)))))))))))
 refine Zv Try.results60 (.tmp rfl) ?_
 exact congrArg (fun x:Bool=>AV.v (.bool x)) ((Rd.outB_hi hs1).symm)
theorem ixOut_c (xs:List Int) {m:Int} (lx:xs.length≤9223372036854775807):Ctr Try.prog J 79 [Zc xs,.clo 60 [.el ([iv m]) 0]] (iv (Rd.ixP xs (Rd.outB m))):=by
 refine Zx Try.func79 rfl (by intro X hX;simp only [List.mem_cons,List.not_mem_nil,or_false] at hX;rcases hX with rfl | rfl;exact Ye _;exact .clo (fun j hj=>match j,hj with | 0,_ => .el (ZQ (by intro X hX;rw [List.mem_singleton.1 hX];exact .v _)))) (n:=19) rfl (by simp) (fun w0 => ?_)
 refine kW 19 [] [(0,Zc xs),(1,.clo 60 [.el ([iv m]) 0])] (Zb (Za (pM (aC (.int .i64 0)) (Ze (Zd (Zb (Zb (Za (pM (mT 0 (Zc xs)) (oA (nS 6 U24) I0 (pM (YX (.const (.int .i64 0)) (iv 0) rfl) (kN 19 [] [(0,Zc xs),(1,.clo 60 [.el ([iv m]) 0]),(4,iv 0),(7,iv xs.length),(8,iv 0)] (Zd (ZA ?_))))))))))))))
 refine Yx (σ:={k:Nat // k≤xs.length∧Rd.noP xs (Rd.outB m) k}) (fun s=>(ofL [],ofT 19 [(0,Zc xs),(1,.clo 60 [.el ([iv m]) 0]),(7,iv xs.length),(8,iv s.1)])) (fun s=>xs.length-s.1) ⟨0,Nat.zero_le _,Rd.noP_zero _ _⟩ (ZC [] _ rfl (by kernel_rfl) (by kernel_rfl)) (fun s => ?_)
 obtain ⟨k,hk0,hs0⟩:=s
 show ETri J w0 (ofL []) (ofT 19 [(0,Zc xs),(1,.clo 60 [.el ([iv m]) 0]),(7,iv xs.length),(8,iv k)]) _
 refine Zb ?_
 by_cases hs1:((k:Nat):Int)<((xs.length:Nat):Int)
 refine Za (oC (ZZ rfl (dT hs1)) I0 I0 (Ze (Zd (Zb (Zq rfl (Zp (Zd (Zb (ZA (Zb (Za (pM (mT 8 (iv k)) (pM (aT 10 (iv k)) (Ze (Zd (Zb ?_))))))))))))))))
 by_cases hs2:(Rd.outB m xs[k])=true
 refine Za (pM (mT 1 (.clo 60 [.el ([iv m]) 0])) (pM (mT 0 (Zc xs)) (pM (mT 5 (iv k)) (oC (xS (k*1) 12 13 U24) I0 I0 (oA (lE (iv xs[k]) 14 U3 (map_at1 xs (by omega))) I0 (oC (sp_callClo (c := .tmp 11) (xs := #[.tmp 15]) (Cs:=[.el ([iv m]) 0]) [] (Yf outB_c hs2) rfl (by kernel_rfl) rfl (Xs:=[iv xs[k]]) rfl rfl rfl rfl rfl) I0 I0 (Ze (Zd (Zq rfl (Zb (Za (pM (mT 5 (iv k)) (pM (aT 17 (iv k)) (Ze (Zd (Zn (ZJ (Zj (Zj (ZJ (Zj ?_)))))))))))))))))))))
 refine Zv Try.results79 (.tmp rfl) ?_
 exact congrArg (fun x:Int=>AV.v (.int .i64 x)) ((Rd.ixP_at (by omega) hs0 hs2).symm)
 have hs2f:(Rd.outB m xs[k])=false:=by simpa using hs2
 refine Za (pM (mT 1 (.clo 60 [.el ([iv m]) 0])) (pM (mT 0 (Zc xs)) (pM (mT 5 (iv k)) (oC (xS (k*1) 12 13 U24) I0 I0 (oA (lE (iv xs[k]) 14 U3 (map_at1 xs (by omega))) I0 (oC (sp_callClo (c := .tmp 11) (xs := #[.tmp 15]) (Cs:=[.el ([iv m]) 0]) [] (Yf outB_c hs2f) rfl (by kernel_rfl) rfl (Xs:=[iv xs[k]]) rfl rfl rfl rfl rfl) I0 I0 (Ze (Zd (Zs rfl (Zp (ZU (Zd (Za (oC (Yg (c:=((k+1:Nat):Int)) rfl (w64 (by omega) (by omega) (by omega))) I0 I0 (pM (mT 18 (iv (k+1:Nat))) (kN 19 [] [(0,Zc xs),(1,.clo 60 [.el ([iv m]) 0]),(5,iv k),(7,iv xs.length),(8,iv (k+1:Nat)),(9,bT),(16,bF)] (Zd ?_)))))))))))))))))
 refine ZW ⟨k+1,by omega,Rd.noP_succ (by omega) hs0 hs2f⟩ (show xs.length-(k+1)<xs.length-k by omega) ?_
 exact ZC [] _ rfl (by kernel_rfl) (by kernel_rfl)
 refine Za (oC (ZZ rfl (dF hs1)) I0 I0 (Ze (Zd (Zb (Zs rfl (Yp (Zy (Zy (t_hit (Zd (Zb (Za (pM (aC (.int .i64 (-1))) (Ze (Zd (Zn ?_))))))))))))))))
 refine Zv Try.results79 (.tmp rfl) ?_
 exact congrArg (fun x:Int=>AV.v (.int .i64 x)) ((Rd.ixP_none (k:=k) (by omega) hs0).symm)
theorem hasOut_c (xs:List Int) {m:Int} (lx:xs.length≤9223372036854775807):Ctr Try.prog J 59 [Zc xs,.clo 60 [.el ([iv m]) 0]] (bv (xs.any (Rd.outB m))):=by
 refine Zx Try.func59 rfl (by intro X hX;simp only [List.mem_cons,List.not_mem_nil,or_false] at hX;rcases hX with rfl | rfl;exact Ye _;exact .clo (fun j hj=>match j,hj with | 0,_ => .el (ZQ (by intro X hX;rw [List.mem_singleton.1 hX];exact .v _)))) (n:=9) rfl (by simp) (fun w0 => ?_)
 refine kW 9 [] [(0,Zc xs),(1,.clo 60 [.el ([iv m]) 0])] (Zb (Za (pM (aC (.bool false)) (Ze (Zd (Zb (Za (pM (mT 0 (Zc xs)) (pM (mT 1 (.clo 60 [.el ([iv m]) 0])) (oD (sc #[.tmp 5,.tmp 6] [] (ixOut_c xs lx) [Zc xs,.clo 60 [.el ([iv m]) 0]] rfl rfl rfl) I0 I0 I0 (oC (YZ rfl rfl) I0 I0 (pM (aT 8 (bv (decide (0≤(Rd.ixP xs (Rd.outB m)))))) (Ze (Zd (Zn ?_)))))))))))))))
 refine Zv Try.results59 (.tmp rfl) ?_
 exact congrArg (fun x:Bool=>AV.v (.bool x)) (Rd.anyP_ix xs (Rd.outB m))
theorem Yj (xs:List Int) {m:Int} (lx:xs.length≤9223372036854775807):Ctr Try.prog J 35 [Zc xs,iv m] (bv (Rd.belB xs m)):=by
 refine Zx Try.func35 rfl (by intro X hX;simp only [List.mem_cons,List.not_mem_nil,or_false] at hX;rcases hX with rfl | rfl;exact Ye _;exact .v _) (n:=9) rfl (by simp) (fun w0 => ?_)
 refine kW 9 [] [(0,Zc xs),(1,iv m)] (Zb (Za (ZM rfl (YT (X:=iv m) (k:=1) (.tmp 1) rfl rfl) ⟨I0,T0⟩ T0 rfl (pM (aC (.bool false)) (Ze (Zd (Zb (Za (pM (mT 0 (Zc xs)) (oA (sp_makeFunc (xs := #[.tmp 3]) (Xs:=[.box 1 0]) rfl rfl) I0 (ZM rfl (sc #[.tmp 5,.tmp 6] [(1,.box 3 [iv m])] (hasOut_c xs lx) [Zc xs,.clo 60 [.box 1 0]] rfl rfl rfl) ⟨I0,I0,I0,T0⟩ ⟨rfl,T0⟩ T0 (oA (Ya rfl rfl) I0 (pM (aT 8 (bv (!(xs.any (Rd.outB m))))) (Ze (Zd (Zn ?_))))))))))))))))
 refine Zv Try.results35 (.tmp rfl) ?_
 exact rfl
theorem linksOf_row {top:Int} {c:Nat} (ht:top=2∨top=3) (hc:c≤8):Ctr Try.prog J 55 [iv top,.v (.slice none 0 0),iv c] (.sl 3 c (Ns.lkZ top c c)):=by
 refine Zx Try.func55 rfl (by intro X hX;simp only [List.mem_cons,List.not_mem_nil,or_false] at hX;rcases hX with rfl | rfl | rfl;exact .v _;exact .v _;exact .v _) (n:=33) rfl (by simp) (fun w0 => ?_)
 refine kW 33 [] [(0,iv top),(1,.v (.slice none 0 0)),(2,iv c)] (Zb (Za (pM (Z8 (.const (.slice none 0 0)) (.v (.slice none 0 0)) rfl) (Ze (Zd (Zb (Zb (Za (pM (mT 0 (iv top)) (Ze (Zd (ZA (Zb (Zb ?_))))))))))))))
 by_cases hs1:top=2
 refine Za (oC (ZD rfl (dT hs1)) I0 I0 (pM (aT 11 bT) (Ze (Zd (Zq rfl (Zp (Zd (Zq rfl (Zb (Za (pM (mT 2 (iv c)) (ZM rfl (sp_makeZ (k:=1) (n:=c) (bytes:=24) (z:=3) (zv := .agg #[.int .i64 0,.int .i64 0,.int .i64 0]) true rfl U85 (by kernel_rfl) rfl (by decide) (by first | (show 24*c≤_;omega) | omega) (by unfold maxLen;omega) (cs:=(Ns.lkZ top c 0)) (Ns.lkZ_zero top c)) ⟨I0,I0,T0⟩ T0 rfl (pM (aT 14 (.own 1)) (Ze (Zd (Zb (Zb (Za (pM (mT 7 (.own 1)) (oB (sp_lenOwn (.tmp 15) rfl U85) I0 rfl (pM (YX (.const (.int .i64 0)) (iv 0) rfl) (kN 33 [(1,.row true 82 3 c (Ns.lkZ top c 0))] [(0,iv top),(2,iv c),(6,.v (.slice none 0 0)),(7,.own 1),(16,iv c),(17,iv 0)] (Zd ?_)))))))))))))))))))))))
 refine ZA ?_
 refine Yx (σ:={j:Nat // j≤c}) (fun s=>(ofL [(1,.row true 82 3 c (Ns.lkZ top c s.1))],ofT 33 [(0,iv top),(2,iv c),(6,.v (.slice none 0 0)),(7,.own 1),(16,iv c),(17,iv s.1)])) (fun s=>c-s.1) ⟨0,Nat.zero_le _⟩ (ZC _ _ rfl (by kernel_rfl) (by kernel_rfl)) (fun s => ?_)
 obtain ⟨j,hj0⟩:=s
 show ETri J w0 (ofL [(1,.row true 82 3 c (Ns.lkZ top c j))]) (ofT 33 [(0,iv top),(2,iv c),(6,.v (.slice none 0 0)),(7,.own 1),(16,iv c),(17,iv j)]) _
 refine Zb ?_
 by_cases hs2:((j:Nat):Int)<((c:Nat):Int)
 refine Za (oC (ZZ rfl (dT hs2)) I0 I0 (Ze (Zd (Zb (Zq rfl (Zp (Zd (Zb (ZA (Zb (Za (pM (mT 17 (iv j)) (pM (aT 19 (iv j)) (Ze (Zd (Za (pM (mT 7 (.own 1)) (pM (mT 8 (iv j)) (pM (mT 0 (iv top)) (pM (mT 2 (iv c)) (pM (mT 8 (iv j)) (ZM rfl (sc #[.tmp 22,.tmp 23,.tmp 24] [] (Ns.rowLink_c (by omega) (by omega) (by omega)) [iv top,iv c,iv j] rfl rfl rfl) ⟨I0,I0,I0,I0,T0⟩ T0 T0 (ZM rfl (sp_indexOwn (off:=j*3) (.tmp 20) (.tmp 21) rfl U85 (by kernel_rfl) (by omega) (by omega) rfl) ⟨I0,I0,T0⟩ ⟨rfl,T0⟩ T0 ?_)))))))))))))))))))))))
 refine ZM rfl (sp_storeRow (X := .agg [iv ((rowL top ((c:Nat):Int) (((j):Nat):Int)).1),iv ((rowL top ((c:Nat):Int) (((j):Nat):Int)).2.1),iv ((rowL top ((c:Nat):Int) (((j):Nat):Int)).2.2)]) (off:=j*3) (cs:=(Ns.lkZ top c j)) (ds:=(Ns.lkZ top c (j+1))) (zz:=3) (.tmp 26) (.tmp 25) rfl (by kernel_rfl) (by kernel_rfl) (fun _ d hd=>by simp only [AV.cellsOf,Ns.lk3,List.mem_cons,List.not_mem_nil,or_false] at hd;rcases hd with rfl | rfl | rfl<;>rfl) (by kernel_rfl) (by rw [Ns.lkZ_len (by omega)];omega) (Ns.lkZ_step (by omega))) ⟨I0,.inr (.inr (.inl ⟨_,rfl,rfl⟩)),T0⟩ ⟨rfl,T0⟩ rfl (Ze (ZU (Zd (Za (oC (Yg (c:=((j+1:Nat):Int)) rfl (w64 (by omega) (by omega) (by omega))) I0 I0 (pM (mT 27 (iv (j+1:Nat))) (kN 33 [(1,.row true 82 3 c (Ns.lkZ top c (j+1)))] [(0,iv top),(2,iv c),(6,.v (.slice none 0 0)),(7,.own 1),(8,iv j),(16,iv c),(17,iv (j+1:Nat)),(18,bT)] (Zd ?_))))))))
 refine ZW ⟨j+1,by omega⟩ (show c-(j+1)<c-j by omega) ?_
 exact ZC _ _ rfl (by kernel_rfl) (by kernel_rfl)
 refine Za (oC (ZZ rfl (dF hs2)) I0 I0 (Ze (Zd (Zb (Zs rfl (Yp (Zy (Zy (t_hit (Zd (Zb (Za (pM (mT 7 (.own 1)) (pM (aT 28 (.own 1)) (Ze (Zd (Zn (ZJ (Zj ?_)))))))))))))))))))
 refine Zv Try.results55 (.tmp rfl) ?_
 obtain rfl:j=c:=by omega
 exact rfl
 refine Za (oC (ZD rfl (dF hs1)) I0 I0 (pM (aT 11 bF) (Ze (Zd (Zs rfl (Za (oC (ZD rfl (dT (by omega))) I0 I0 (pM (aT 12 bT) (Ze (Zd (Zq rfl (Zb (Za (pM (mT 2 (iv c)) (ZM rfl (sp_makeZ (k:=1) (n:=c) (bytes:=24) (z:=3) (zv := .agg #[.int .i64 0,.int .i64 0,.int .i64 0]) true rfl U85 (by kernel_rfl) rfl (by decide) (by first | (show 24*c≤_;omega) | omega) (by unfold maxLen;omega) (cs:=(Ns.lkZ top c 0)) (Ns.lkZ_zero top c)) ⟨I0,I0,T0⟩ T0 rfl (pM (aT 14 (.own 1)) (Ze (Zd (Zb (Zb (Za (pM (mT 7 (.own 1)) (oB (sp_lenOwn (.tmp 15) rfl U85) I0 rfl ?_)))))))))))))))))))))))
 refine pM (YX (.const (.int .i64 0)) (iv 0) rfl) (kN 33 [(1,.row true 82 3 c (Ns.lkZ top c 0))] [(0,iv top),(2,iv c),(6,.v (.slice none 0 0)),(7,.own 1),(16,iv c),(17,iv 0)] (Zd (ZA ?_)))
 refine Yx (σ:={j:Nat // j≤c}) (fun s=>(ofL [(1,.row true 82 3 c (Ns.lkZ top c s.1))],ofT 33 [(0,iv top),(2,iv c),(6,.v (.slice none 0 0)),(7,.own 1),(16,iv c),(17,iv s.1)])) (fun s=>c-s.1) ⟨0,Nat.zero_le _⟩ (ZC _ _ rfl (by kernel_rfl) (by kernel_rfl)) (fun s => ?_)
 obtain ⟨j,hj0⟩:=s
 show ETri J w0 (ofL [(1,.row true 82 3 c (Ns.lkZ top c j))]) (ofT 33 [(0,iv top),(2,iv c),(6,.v (.slice none 0 0)),(7,.own 1),(16,iv c),(17,iv j)]) _
 refine Zb ?_
 by_cases hs3:((j:Nat):Int)<((c:Nat):Int)
 refine Za (oC (ZZ rfl (dT hs3)) I0 I0 (Ze (Zd (Zb (Zq rfl (Zp (Zd (Zb (ZA (Zb (Za (pM (mT 17 (iv j)) (pM (aT 19 (iv j)) (Ze (Zd (Za (pM (mT 7 (.own 1)) (pM (mT 8 (iv j)) (pM (mT 0 (iv top)) (pM (mT 2 (iv c)) (pM (mT 8 (iv j)) (ZM rfl (sc #[.tmp 22,.tmp 23,.tmp 24] [] (Ns.rowLink_c (by omega) (by omega) (by omega)) [iv top,iv c,iv j] rfl rfl rfl) ⟨I0,I0,I0,I0,T0⟩ T0 T0 (ZM rfl (sp_indexOwn (off:=j*3) (.tmp 20) (.tmp 21) rfl U85 (by kernel_rfl) (by omega) (by omega) rfl) ⟨I0,I0,T0⟩ ⟨rfl,T0⟩ T0 ?_)))))))))))))))))))))))
 refine ZM rfl (sp_storeRow (X := .agg [iv ((rowL top ((c:Nat):Int) (((j):Nat):Int)).1),iv ((rowL top ((c:Nat):Int) (((j):Nat):Int)).2.1),iv ((rowL top ((c:Nat):Int) (((j):Nat):Int)).2.2)]) (off:=j*3) (cs:=(Ns.lkZ top c j)) (ds:=(Ns.lkZ top c (j+1))) (zz:=3) (.tmp 26) (.tmp 25) rfl (by kernel_rfl) (by kernel_rfl) (fun _ d hd=>by simp only [AV.cellsOf,Ns.lk3,List.mem_cons,List.not_mem_nil,or_false] at hd;rcases hd with rfl | rfl | rfl<;>rfl) (by kernel_rfl) (by rw [Ns.lkZ_len (by omega)];omega) (Ns.lkZ_step (by omega))) ⟨I0,.inr (.inr (.inl ⟨_,rfl,rfl⟩)),T0⟩ ⟨rfl,T0⟩ rfl (Ze (ZU (Zd (Za (oC (Yg (c:=((j+1:Nat):Int)) rfl (w64 (by omega) (by omega) (by omega))) I0 I0 (pM (mT 27 (iv (j+1:Nat))) (kN 33 [(1,.row true 82 3 c (Ns.lkZ top c (j+1)))] [(0,iv top),(2,iv c),(6,.v (.slice none 0 0)),(7,.own 1),(8,iv j),(16,iv c),(17,iv (j+1:Nat)),(18,bT)] (Zd ?_))))))))
 refine ZW ⟨j+1,by omega⟩ (show c-(j+1)<c-j by omega) ?_
 exact ZC _ _ rfl (by kernel_rfl) (by kernel_rfl)
 refine Za (oC (ZZ rfl (dF hs3)) I0 I0 (Ze (Zd (Zb (Zs rfl (Yp (Zy (Zy (t_hit (Zd (Zb (Za (pM (mT 7 (.own 1)) (pM (aT 28 (.own 1)) (Ze (Zd (Zn (ZJ (Zj ?_)))))))))))))))))))
 refine Zv Try.results55 (.tmp rfl) ?_
 obtain rfl:j=c:=by omega
 exact rfl
theorem linksOf_tree {xs:List Int} {c:Int} (hI:InOk xs) (h0:0<xs.length) (h1:xs.length≤100):Ctr Try.prog J 55 [iv 4,Zc xs,iv c] (Ns.lkT xs):=by
 refine Zx Try.func55 rfl (by intro X hX;simp only [List.mem_cons,List.not_mem_nil,or_false] at hX;rcases hX with rfl | rfl | rfl;exact .v _;exact Ye _;exact .v _) (n:=33) rfl (by simp) (fun w0 => ?_)
 refine kW 33 [] [(0,iv 4),(1,Zc xs),(2,iv c)] (Zb (Za (pM (Z8 (.const (.slice none 0 0)) (.v (.slice none 0 0)) rfl) (Ze (Zd (Zb (Zb (Za (pM (mT 0 (iv 4)) (Ze (Zd (ZA (Zb (Zb (Za (oC (ZD (r:=false) rfl (by decide)) I0 I0 (pM (aT 11 bF) (Ze (Zd (Zs rfl (Za (oC (ZD (r:=false) rfl (by decide)) I0 I0 (pM (aT 12 bF) ?_)))))))))))))))))))))))
 refine Ze (Zd (Zs rfl (Zb (Za (oC (ZD (r:=true) rfl (by decide)) I0 I0 (pM (aT 30 bT) (Ze (Zd (Zq rfl (Zb (Za (pM (mT 1 (Zc xs)) (oC (sc #[.tmp 31] [] (Ns.treeLinks_c hI h0 h1) [Zc xs] rfl rfl rfl) I0 I0 (pM (aT 32 (.fr (Ns.lkT xs))) (Ze (Zd (Zn (ZJ (Zj ?_)))))))))))))))))))
 refine Zv Try.results55 (.tmp rfl) ?_
 exact rfl
theorem Sh_pos {c:Nat}:∀ xs∈Sh.shX ((c:Nat):Int),0<xs.length:=by
  unfold Sh.shX
  split
  · intro xs h;cases h
  split
  · intro xs h;cases h
  rename_i h1 h2
  rw [Int.toNat_natCast]
  obtain rfl | rfl | rfl | rfl:c=1∨c=3∨c=5∨c=7:=by omega
  all_goals decide
set_option maxHeartbeats 12800000
namespace Ns
theorem cnt_lo {p:Fm} {n f:Int} (h:1≤n∧n≤1048576∧0≤f∧f≤n):0≤cntE p n f:=by unfold cntE;split<;>omega
theorem cnt_hi {p:Fm} {n f:Int} (h:1≤n∧n≤1048576∧0≤f∧f≤n) (h8:¬ 8<n):cntE p n f≤8:=by unfold cntE;split<;>omega
theorem plain_sys (p:Fm) (n t f:Int):∀ X∈sysC p n t f,Plain X:=by
  intro X hX
  unfold sysC at hX
  rcases List.mem_append.1 hX with h | h
  · exact YA p X h
  simp only [List.mem_cons,List.not_mem_nil,or_false] at h
  rcases h with rfl | rfl | rfl | rfl | rfl | rfl | rfl | rfl | rfl | rfl | rfl | rfl | rfl | rfl | rfl | rfl | rfl | rfl | rfl | rfl | rfl | rfl | rfl<;>first | exact .v _ | exact .any | exact .any _ | exact YQ plain_li _
theorem plain_mask {m:List Bool} {c0:List AV} (h:∀ xs,(maskC m xs c0).all AV.isV=true):∀ xs,∀ X∈maskC m xs c0,Plain X:=fun xs X hX=>by
  have:=List.all_eq_true.1 (h xs) X hX
  cases X<;>first | exact .v _ | cases this
theorem pw1 {k o:Nat}:∀ X∈[AV.box k o],PlainW X:=fun X hX=>by
  rw [List.mem_singleton] at hX;rw [hX];exact .box _ _
end Ns
set_option maxRecDepth 100000 in
theorem newSystem_err {p:Fm} (HP:FmOk p) {n t f:Int} (hs:¬ Ns.sysE p n t f=0):CtrA Try.prog J 16 [.agg (cFm p),.agg (cSz n t f)] (.tup [.v (.pointer none),iv (Ns.sysE p n t f)]):=by
 refine ctrA_of_tri Try.func16 rfl (by intro X hX;simp only [List.mem_cons,List.not_mem_nil,or_false] at hX;rcases hX with rfl | rfl;exact Zk (YA p);exact Zk (YN n t f)) (n:=80) rfl (by simp) (fun w0 => ?_)
 refine kW 80 [] [(0,.agg (cFm p)),(1,.agg (cSz n t f))] (Zb (Za (ZM rfl (YT (X := .agg (cFm p)) (k:=1) (.tmp 0) rfl rfl) ⟨I0,T0⟩ T0 rfl (ZM rfl (YT (X := .agg (cSz n t f)) (k:=2) (.tmp 1) rfl rfl) ⟨I0,T0⟩ T0 rfl (pM (Z8 (.const (.pointer none)) (.v (.pointer none)) rfl) (pM (aC (.int .i64 0)) (Ze (Zd (Zb (Zb (Za (oB (lS (cFm p) 10 2 U27) I0 rfl (oC (sc #[.tmp 12] [] (qValidate_c HP) [.agg (cFm p)] rfl rfl rfl) I0 I0 (pM (aT 13 (iv (valE p))) (Ze (Zd (Zb ?_)))))))))))))))))
 by_cases hs1:valE p=0
 obtain ⟨hr8,hg2⟩:=Ns.val_lims hs1
 refine Za (pM (mT 6 (iv (valE p))) (oC (ZX rfl (dT' hs1)) I0 I0 (Ze (Zd (Zs rfl (Zp (Zd (Zb (Zb ?_)))))))))
 by_cases hs2:(admB p n t f)=true
 have hai:=Ns.adm_in hs2
 refine Za (oB (lS (cFm p) 10 2 U27) I0 rfl (oB (lS (cSz n t f) 3 3 U29) I0 rfl (oD (sc #[.tmp 17,.tmp 18] [] (Yf (Ns.adm_c HP hs1) hs2) [.agg (cFm p),.agg (cSz n t f)] rfl rfl rfl) I0 I0 I0 (oA (Ya rfl rfl) I0 (Ze (Zd (Zs rfl (Zp (Zd (Zb (Zb (Za (oA (fb 0 3 U29 1) I0 (oB (lb (iv n) 21 U3) I0 rfl (oC (sp_gtr rfl (dT (Ns.sys_big hs1 hs2 hs))) I0 I0 (Ze (Zd (Zq rfl (Zb (Za (pM (Z8 (.const (.pointer none)) (.v (.pointer none)) rfl) (pM (aC (.int .i64 4)) (Ze ?_)))))))))))))))))))))))
 refine Zd (Zn (Zj ?_))
 refine tri_endA2 [(1,.box 27 (cFm p)),(2,.box 29 (cSz n t f))] Try.results16 (.tmp rfl) (.tmp rfl) (by kernel_rfl) rfl rfl rfl ?_ ?_ ?_
 · exact .v _
 · exact .v _
 · rw [Ns.sys_e3 hs1 hs2 (Ns.sys_big hs1 hs2 hs)];rfl
 have hs2f:(admB p n t f)=false:=by simpa using hs2
 refine Za (oB (lS (cFm p) 10 2 U27) I0 rfl (oB (lS (cSz n t f) 3 3 U29) I0 rfl (oD (sc #[.tmp 17,.tmp 18] [] (Yf (Ns.adm_c HP hs1) hs2f) [.agg (cFm p),.agg (cSz n t f)] rfl rfl rfl) I0 I0 I0 (oA (Ya rfl rfl) I0 (Ze (Zd (Zq rfl (Zb (Za (pM (Z8 (.const (.pointer none)) (.v (.pointer none)) rfl) (pM (aC (.int .i64 8)) (Ze (Zd (Zn (Zj ?_)))))))))))))))
 refine tri_endA2 [(1,.box 27 (cFm p)),(2,.box 29 (cSz n t f))] Try.results16 (.tmp rfl) (.tmp rfl) (by kernel_rfl) rfl rfl rfl ?_ ?_ ?_
 · exact .v _
 · exact .v _
 · rw [Ns.sys_e2 hs1 hs2f];rfl
 refine Za (pM (mT 6 (iv (valE p))) (oC (ZX rfl (dF' hs1)) I0 I0 (Ze (Zd (Zq rfl (Zb (Za (pM (mT 6 (iv (valE p))) (pM (Z8 (.const (.pointer none)) (.v (.pointer none)) rfl) (pM (aT 16 (iv (valE p))) (Ze (Zd (Zn (Zj ?_))))))))))))))
 refine tri_endA2 [(1,.box 27 (cFm p)),(2,.box 29 (cSz n t f))] Try.results16 (.tmp rfl) (.tmp rfl) (by kernel_rfl) rfl rfl rfl ?_ ?_ ?_
 · exact .v _
 · exact .v _
 rw [Ns.sys_e1 hs1];rfl
theorem isShape1_c {x sh:List Int} (HX:InOk x) (HS:InOk sh):Ctr Try.prog J 57 [Zc x,.el ([Zc sh]) 0] (bv (decide (sh=x))):=by
 refine Zx Try.func57 rfl (by intro X hX;simp only [List.mem_cons,List.not_mem_nil,or_false] at hX;rcases hX with rfl | rfl;exact Ye _;exact .el (ZQ (by intro X hX;rw [List.mem_singleton.1 hX];exact Ye _))) (n:=7) rfl (by simp) (fun w0 => ?_)
 refine kW 7 [] [(0,Zc x),(1,.el ([Zc sh]) 0)] (Zb (Za (pM (aC (.bool false)) (Ze (Zd (Zb (Za (oA (lE (Zc sh) 1 U24) I0 (pM (mT 0 (Zc x)) (oD (sc #[.tmp 4,.tmp 5] [] (eqIntsG sh x HS HX) [Zc sh,Zc x] rfl rfl rfl) I0 I0 I0 (pM (aT 6 (bv (decide (sh=x)))) (Ze (Zd (Zn ?_))))))))))))))
 refine Zv Try.results57 (.tmp rfl) ?_
 exact rfl
theorem ixShape_c {S:List (List Int)} (hS:∀ x∈S,InOk x) (lS:S.length≤5) {sh:List Int} (HS:InOk sh):Ctr Try.prog J 56 [slA 1 cLi S,.clo 57 [.el ([Zc sh]) 0]] (iv (Rd.ixP S fun x=>decide (sh=x))):=by
 refine Zx Try.func56 rfl (by intro X hX;simp only [List.mem_cons,List.not_mem_nil,or_false] at hX;rcases hX with rfl | rfl;exact YQ plain_li _;exact .clo (fun j hj=>match j,hj with | 0,_ => .el (ZQ (by intro X hX;rw [List.mem_singleton.1 hX];exact Ye _)))) (n:=19) rfl (by simp) (fun w0 => ?_)
 refine kW 19 [] [(0,slA 1 cLi S),(1,.clo 57 [.el ([Zc sh]) 0])] (Zb (Za (pM (aC (.int .i64 0)) (Ze (Zd (Zb (Zb (Za (pM (mT 0 (slA 1 cLi S)) (oA (nS 6 U59) I0 (pM (YX (.const (.int .i64 0)) (iv 0) rfl) (kN 19 [] [(0,slA 1 cLi S),(1,.clo 57 [.el ([Zc sh]) 0]),(4,iv 0),(7,iv S.length),(8,iv 0)] (Zd (ZA ?_))))))))))))))
 refine Yx (σ:={k:Nat // k≤S.length∧Rd.noP S (fun x=>decide (sh=x)) k}) (fun s=>(ofL [],ofT 19 [(0,slA 1 cLi S),(1,.clo 57 [.el ([Zc sh]) 0]),(7,iv S.length),(8,iv s.1)])) (fun s=>S.length-s.1) ⟨0,Nat.zero_le _,Rd.noP_zero _ _⟩ (ZC [] _ rfl (by kernel_rfl) (by kernel_rfl)) (fun s => ?_)
 obtain ⟨k,hk0,hs0⟩:=s
 show ETri J w0 (ofL []) (ofT 19 [(0,slA 1 cLi S),(1,.clo 57 [.el ([Zc sh]) 0]),(7,iv S.length),(8,iv k)]) _
 refine Zb ?_
 by_cases hs1:((k:Nat):Int)<((S.length:Nat):Int)
 refine Za (oC (ZZ rfl (dT hs1)) I0 I0 (Ze (Zd (Zb (Zq rfl (Zp (Zd (Zb (ZA (Zb (Za (pM (mT 8 (iv k)) (pM (aT 10 (iv k)) (Ze (Zd (Zb ?_))))))))))))))))
 by_cases hs2:(decide (sh=S[k]))=true
 refine Za (pM (mT 1 (.clo 57 [.el ([Zc sh]) 0])) (pM (mT 0 (slA 1 cLi S)) (pM (mT 5 (iv k)) (oC (xS (k*1) 12 13 U59) I0 I0 (oA (lE (Zc S[k]) 14 U24 ((Zu lenLi S k 0 (by omega) (by decide)).trans rfl)) I0 (oC (sp_callClo (c := .tmp 11) (xs := #[.tmp 15]) (Cs:=[.el ([Zc sh]) 0]) [] (Yf (isShape1_c (hS S[k] (List.getElem_mem (by omega))) HS) hs2) rfl (by kernel_rfl) rfl (Xs:=[Zc S[k]]) rfl rfl rfl rfl rfl) I0 I0 (Ze (Zd (Zq rfl (Zb (Za (pM (mT 5 (iv k)) (pM (aT 17 (iv k)) (Ze (Zd (Zn (ZJ (Zj (Zj (ZJ (Zj ?_)))))))))))))))))))))
 refine Zv Try.results56 (.tmp rfl) ?_
 exact congrArg (fun x:Int=>AV.v (.int .i64 x)) ((Rd.ixP_at (by omega) hs0 hs2).symm)
 have hs2f:(decide (sh=S[k]))=false:=by simpa using hs2
 refine Za (pM (mT 1 (.clo 57 [.el ([Zc sh]) 0])) (pM (mT 0 (slA 1 cLi S)) (pM (mT 5 (iv k)) (oC (xS (k*1) 12 13 U59) I0 I0 (oA (lE (Zc S[k]) 14 U24 ((Zu lenLi S k 0 (by omega) (by decide)).trans rfl)) I0 (oC (sp_callClo (c := .tmp 11) (xs := #[.tmp 15]) (Cs:=[.el ([Zc sh]) 0]) [] (Yf (isShape1_c (hS S[k] (List.getElem_mem (by omega))) HS) hs2f) rfl (by kernel_rfl) rfl (Xs:=[Zc S[k]]) rfl rfl rfl rfl rfl) I0 I0 (Ze (Zd (Zs rfl (Zp (ZU (Zd (Za (oC (Yg (c:=((k+1:Nat):Int)) rfl (w64 (by omega) (by omega) (by omega))) I0 I0 (pM (mT 18 (iv (k+1:Nat))) (kN 19 [] [(0,slA 1 cLi S),(1,.clo 57 [.el ([Zc sh]) 0]),(5,iv k),(7,iv S.length),(8,iv (k+1:Nat)),(9,bT),(16,bF)] (Zd ?_)))))))))))))))))
 refine ZW ⟨k+1,by omega,Rd.noP_succ (by omega) hs0 hs2f⟩ (show S.length-(k+1)<S.length-k by omega) ?_
 exact ZC [] _ rfl (by kernel_rfl) (by kernel_rfl)
 refine Za (oC (ZZ rfl (dF hs1)) I0 I0 (Ze (Zd (Zb (Zs rfl (Yp (Zy (Zy (t_hit (Zd (Zb (Za (pM (aC (.int .i64 (-1))) (Ze (Zd (Zn ?_))))))))))))))))
 refine Zv Try.results56 (.tmp rfl) ?_
 exact congrArg (fun x:Int=>AV.v (.int .i64 x)) ((Rd.ixP_none (k:=k) (by omega) hs0).symm)
theorem Rd.shT_ok (top n:Int):∀ x∈Ns.shT top n,InOk x:=by
  unfold Ns.shT
  split
  · exact fun x hx=>(Sh.shX_mem n x hx).2
  intro x hx;cases hx
theorem Rd.shT_len (top n:Int):(Ns.shT top n).length≤5:=by
  unfold Ns.shT
  split
  · exact Sh.shX_len n
  simp
theorem readShape_c {p:Fm} {n t f:Int} {sh:List Int} (HS:InOk sh) (lsh:sh.length≤100):Ctr Try.prog J 34 [.el (Ns.sysC p n t f) 0,Zc sh] (.tup [iv (Rd.shI p.top (Ns.shT p.top (Ns.cntE p n f)) sh),bv (Rd.shB p.top (Ns.shT p.top (Ns.cntE p n f)) sh)]):=by
 refine Zx Try.func34 rfl (by intro X hX;simp only [List.mem_cons,List.not_mem_nil,or_false] at hX;rcases hX with rfl | rfl;exact (show Plain (.el (Ns.sysC p n t f) 0) from .el (ZQ (Ns.plain_sys p n t f)));exact Ye _) (n:=26) rfl (by simp) (fun w0 => ?_)
 refine kW 26 [] [(0,.el (Ns.sysC p n t f) 0),(1,Zc sh)] (Zb (Za (ZM rfl (YT (X:=Zc sh) (k:=1) (.tmp 1) rfl rfl) ⟨I0,T0⟩ T0 rfl (pM (aC (.int .i64 0)) (pM (aC (.bool false)) (Ze (Zd (Zb (Zb ?_)))))))))
 by_cases hs1:p.top=4
 refine Za (pM (mT 0 (.el (Ns.sysC p n t f) 0)) (oA (Zm (off:=0) (.tmp 7) rfl) I0 (oA (fe 0 8 U94 10) I0 (oA (fe 1 9 U27 1) I0 (oA (lE (iv p.top) 10 U3) I0 (oC (ZX rfl (dT' hs1)) I0 I0 (Ze (Zd (Zs rfl (Zp (Zd (Zb (Za (pM (mT 0 (.el (Ns.sysC p n t f) 0)) (oA (Zm (off:=0) (.tmp 16) rfl) I0 (oA (fe 31 17 U94 1) I0 (oA (lE (slA 1 cLi (Ns.shT p.top (Ns.cntE p n f))) 18 U59) I0 (oA (sp_makeFunc (xs := #[.tmp 3]) (Xs:=[.box 1 0]) rfl rfl) I0 (ZM rfl (sc #[.tmp 19,.tmp 20] [(1,.box 24 [Zc sh])] (ixShape_c (Rd.shT_ok _ _) (Rd.shT_len _ _) HS) [slA 1 cLi (Ns.shT p.top (Ns.cntE p n f)),.clo 57 [.box 1 0]] rfl rfl rfl) ⟨I0,I0,I0,T0⟩ ⟨rfl,T0⟩ T0 (pM (aT 21 (iv (Rd.ixP (Ns.shT p.top (Ns.cntE p n f)) fun x=>decide (sh=x)))) (Ze (Zd (Zb ?_)))))))))))))))))))))))
 refine Za (pM (mT 6 (iv (Rd.ixP (Ns.shT p.top (Ns.cntE p n f)) fun x=>decide (sh=x)))) (oC (sp_max (.tmp 22) (.const (.int .i64 0)) rfl) I0 I0 (pM (mT 6 (iv (Rd.ixP (Ns.shT p.top (Ns.cntE p n f)) fun x=>decide (sh=x)))) (oC (YZ rfl rfl) I0 I0 (pM (aT 23 (iv (max (Rd.ixP (Ns.shT p.top (Ns.cntE p n f)) fun x=>decide (sh=x)) 0))) (pM (aT 25 (bv (decide (0≤(Rd.ixP (Ns.shT p.top (Ns.cntE p n f)) fun x=>decide (sh=x)))))) (Ze (Zd (Zn ?_)))))))))
 refine Z5 Try.results34 (.tmp rfl) (.tmp rfl) ?_
 rw [Rd.shI_tree hs1,Rd.shB_tree hs1]
 exact rfl
 refine Za (pM (mT 0 (.el (Ns.sysC p n t f) 0)) (oA (Zm (off:=0) (.tmp 7) rfl) I0 (oA (fe 0 8 U94 10) I0 (oA (fe 1 9 U27 1) I0 (oA (lE (iv p.top) 10 U3) I0 (oC (ZX rfl (dF' hs1)) I0 I0 (Ze (Zd (Zq rfl (Zb ?_))))))))))
 refine Zr (dB (lb (Zc sh) 3 U24) I0 rfl (dA (nS 13 U24) I0 (dC (ZD rfl rfl) I0 I0 (dM (aC (.int .i64 0)) (dM (aT 15 (bv (decide (((sh.length:Nat):Int)=0)))) (dE ?_)))))) (by kernel_rfl)
 show ETri J w0 _ _ _
 refine Zd (Zn (Zj ?_))
 refine Z5 Try.results34 (.tmp rfl) (.tmp rfl) ?_
 rw [Rd.shI_no hs1,Rd.shB_no hs1]
 exact rfl
theorem Rd.mf_t {p:Fm} (h:Rd.looseB p=true):Rd.mfE p-1=1048576:=by
  unfold Rd.looseB at h
  rw [Bool.or_eq_true,decide_eq_true_iff,decide_eq_true_iff] at h
  unfold Rd.mfE;rw [if_pos h];rfl
theorem Rd.mf_in (p:Fm):1≤Rd.mfE p∧Rd.mfE p≤1048577:=by
  unfold Rd.mfE;split<;>omega
theorem Rd.mf_f {p:Fm} (h:Rd.looseB p=false):Rd.mfE p-1=0:=by
  unfold Rd.looseB at h
  rw [Bool.or_eq_false_iff,decide_eq_false_iff_not,decide_eq_false_iff_not] at h
  unfold Rd.mfE;rw [if_neg (not_or.2 h)];rfl
set_option maxRecDepth 100000 in
set_option maxHeartbeats 6400000 in
theorem read_c {p:Fm} {n t f:Int} {c:Cf} (HC:Rd.CgOk c):Ctr Try.prog J 17 [.el (Ns.sysC p n t f) 0,.agg (Rd.cCg c)] (.tup [.agg (Rd.cfZ (Rd.rdY p n f c) (Rd.shI p.top (Ns.shT p.top (Ns.cntE p n f)) c.sh) c),bv (Rd.rdX p n f c)]):=by
 have hmf:=Rd.mf_in p
 refine Zx Try.func17 rfl (by intro X hX;simp only [List.mem_cons,List.not_mem_nil,or_false] at hX;rcases hX with rfl | rfl;exact (show Plain (.el (Ns.sysC p n t f) 0) from .el (ZQ (Ns.plain_sys p n t f)));exact Zk (Rd.plain_cg c)) (n:=124) rfl (by simp) (fun w0 => ?_)
 refine kW 124 [] [(0,.el (Ns.sysC p n t f) 0),(1,.agg (Rd.cCg c))] (Zb (Za (ZM rfl (YT (X := .agg (Rd.cCg c)) (k:=1) (.tmp 1) rfl rfl) ⟨I0,T0⟩ T0 rfl (ZM rfl (ZT (z := .agg #[.int .i64 0,.int .i64 0,.int .i64 0,.int .i64 0,.int .i64 0,.int .i64 0,.int .i64 0,.int .i64 0,.int .i64 0,.int .i64 0,.int .i64 0,.int .i64 0,.int .i64 0,.int .i64 0,.int .i64 0,.int .i64 0]) (k:=2) rfl (by kernel_rfl)) T0 T0 rfl (pM (aC (.bool false)) (Ze (Zd (Zb (Za (pM (mT 0 (.el (Ns.sysC p n t f) 0)) (oA (Zm (off:=0) (.tmp 11) rfl) I0 (oA (fe 0 12 U94 10) I0 (oA (Zl (z:=10) (ds:=[sv p.nm,iv p.top,ZH p.states,ZH p.msgs,ZH p.vals,iv p.fault,slA 4 cLn p.res,Zc p.init,Zc p.leader,slA 18 cRu p.rules]) (.tmp 13) rfl U27 rfl (by kernel_rfl) (by kernel_rfl) rfl) I0 (ZM rfl (ZT (z := .agg #[.string (⟨#[]⟩),.int .i64 0,.slice none 0 0,.slice none 0 0,.slice none 0 0,.int .i64 0,.slice none 0 0,.slice none 0 0,.slice none 0 0,.slice none 0 0]) (k:=3) rfl (by kernel_rfl)) T0 T0 rfl (ZM rfl (sB 10 6 (.tmp 14) (.agg [sv p.nm,iv p.top,ZH p.states,ZH p.msgs,ZH p.vals,iv p.fault,slA 4 cLn p.res,Zc p.init,Zc p.leader,slA 18 cRu p.rules])) ⟨I0,I0,T0⟩ ⟨rfl,T0⟩ rfl (Ze (Zd (Zb (Za (pM (mT 0 (.el (Ns.sysC p n t f) 0)) (oA (fb 0 3 U31 1) I0 (oB (lb (Zc c.sh) 17 U24) I0 rfl (oD (sc #[.tmp 16,.tmp 18] [] (readShape_c HC.sh HC.lsh) [.el (Ns.sysC p n t f) 0,Zc c.sh] rfl rfl rfl) I0 I0 I0 ?_)))))))))))))))))))))))
 refine pM (mT 19 (.tup [iv (Rd.shI p.top (Ns.shT p.top (Ns.cntE p n f)) c.sh),bv (Rd.shB p.top (Ns.shT p.top (Ns.cntE p n f)) c.sh)])) (oA (Zo (X:=iv (Rd.shI p.top (Ns.shT p.top (Ns.cntE p n f)) c.sh)) (.tmp 15) rfl rfl) I0 (oA (Zo (X:=bv (Rd.shB p.top (Ns.shT p.top (Ns.cntE p n f)) c.sh)) (.tmp 15) rfl rfl) I0 (pM (aT 20 (iv (Rd.shI p.top (Ns.shT p.top (Ns.cntE p n f)) c.sh))) (pM (aT 21 (bv (Rd.shB p.top (Ns.shT p.top (Ns.cntE p n f)) c.sh))) (Ze (Zd (Zb (Zb ?_))))))))
 by_cases hs1:(Rd.shB p.top (Ns.shT p.top (Ns.cntE p n f)) c.sh)=true
 rw [hs1]
 refine kW 124 [(1,.box 31 (Rd.cCg c)),(2,.box 70 [iv 0,iv 0,iv 0,iv 0,iv 0,iv 0,iv 0,iv 0,iv 0,iv 0,iv 0,iv 0,iv 0,iv 0,iv 0,iv 0]),(3,.box 27 [sv p.nm,iv p.top,ZH p.states,ZH p.msgs,ZH p.vals,iv p.fault,slA 4 cLn p.res,Zc p.init,Zc p.leader,slA 18 cRu p.rules])] [(0,.el (Ns.sysC p n t f) 0),(3,.box 1 0),(4,.box 2 0),(5,bF),(6,.box 3 0),(7,iv (Rd.shI p.top (Ns.shT p.top (Ns.cntE p n f)) c.sh)),(8,bT)] ?_
 by_cases hs2:((c.st.length:Nat):Int)=(Ns.cntE p n f)
 by_cases hs3:(Rd.belB c.st ((p.states.length:Nat):Int))=true
 by_cases hs4:c.cor=(n-f)
 refine Zr (dM (mT 8 bT) (dA (Ya rfl rfl) I0 (dM (mT 23 bF) (dA (fb 1 3 U31 1) I0 (dB (lb (Zc c.st) 25 U24) I0 rfl (dA (nS 26 U24) I0 (dM (mT 0 (.el (Ns.sysC p n t f) 0)) (dA (Zm (off:=0) (.tmp 28) rfl) I0 (dA (fe 13 29 U94 1) I0 (dA (lE (iv (Ns.cntE p n f)) 30 U3) I0 (dC (ZX rfl (dT' hs2)) I0 I0 (dP (pk false bT bF rfl) (dM (mT 33 bF) (dA (fb 1 3 U31 1) I0 (dB (lb (Zc c.st) 35 U24) I0 rfl (dA (fb 2 6 U27 1) I0 (dB (lb (ZH p.states) 37 U22) I0 rfl (dA (nS 38 U22) I0 (dD (sc #[.tmp 36,.tmp 39] [] (Yf (Yj c.st (Nat.le_trans HC.lst (by decide))) hs3) [Zc c.st,iv p.states.length] rfl rfl rfl) I0 I0 I0 (dA (Ya rfl rfl) I0 (dP (pk false bT bF rfl) (dM (mT 42 bF) (dA (fb 2 3 U31 1) I0 (dB (lb (iv c.cor) 44 U3) I0 rfl (dM (mT 0 (.el (Ns.sysC p n t f) 0)) (dA (Zm (off:=0) (.tmp 46) rfl) I0 (dA (fe 14 47 U94 1) I0 (dA (lE (iv (n-f)) 48 U3) I0 (dC (ZX rfl (dT' hs4)) I0 I0 (dP (pk false bT bF rfl) (dE ?_))))))))))))))))))))))))))))))) (by kernel_rfl)
 show ETri J w0 _ _ _
 refine kW 124 [(1,.box 31 (Rd.cCg c)),(2,.box 70 [iv 0,iv 0,iv 0,iv 0,iv 0,iv 0,iv 0,iv 0,iv 0,iv 0,iv 0,iv 0,iv 0,iv 0,iv 0,iv 0]),(3,.box 27 [sv p.nm,iv p.top,ZH p.states,ZH p.msgs,ZH p.vals,iv p.fault,slA 4 cLn p.res,Zc p.init,Zc p.leader,slA 18 cRu p.rules])] [(3,.box 1 0),(4,.box 2 0),(5,bF),(6,.box 3 0),(7,iv (Rd.shI p.top (Ns.shT p.top (Ns.cntE p n f)) c.sh)),(51,bF)] (Zd (Zs rfl (Zp (Zd (Zb (Zb ?_))))))
 by_cases hs5:((c.se.length:Nat):Int)=((p.msgs.length:Nat):Int)
 by_cases hs6:(Rd.belB c.se 1048577)=true
 refine Za (oA (fb 3 3 U31 1) I0 (oB (lb (Zc c.se) 53 U24) I0 rfl (oA (nS 54 U24) I0 (oA (fb 3 6 U27 1) I0 (oB (lb (ZH p.msgs) 56 U22) I0 rfl (oA (nS 57 U22) I0 (oC (ZX rfl (dT' hs5)) I0 I0 (pM (mT 59 bF) (gA (fb 3 3 U31 1) I0 (gB (lb (Zc c.se) 61 U24) I0 rfl (gD (sc #[.tmp 62,.const (.int .i64 1048577)] [] (Yf (Yj c.se (Nat.le_trans HC.lse (by decide))) hs6) [Zc c.se,iv 1048577] rfl rfl rfl) I0 I0 I0 (gA (Ya rfl rfl) I0 (pP (pk false bT bF rfl) (Ze (Zd (Zs rfl (Zp (Zd (Zb (Za (pM (aC (.int .i64 0)) (kN 124 [(1,.box 31 (Rd.cCg c)),(2,.box 70 [iv 0,iv 0,iv 0,iv 0,iv 0,iv 0,iv 0,iv 0,iv 0,iv 0,iv 0,iv 0,iv 0,iv 0,iv 0,iv 0]),(3,.box 27 [sv p.nm,iv p.top,ZH p.states,ZH p.msgs,ZH p.vals,iv p.fault,slA 4 cLn p.res,Zc p.init,Zc p.leader,slA 18 cRu p.rules])] [(3,.box 1 0),(4,.box 2 0),(5,bF),(6,.box 3 0),(7,iv (Rd.shI p.top (Ns.shT p.top (Ns.cntE p n f)) c.sh)),(9,iv 0)] (Zd ?_)))))))))))))))))))))))
 refine Zb (Zb ?_)
 refine t_cut (True) (ofL [(1,.box 31 (Rd.cCg c)),(2,.box 70 [iv 0,iv 0,iv 0,iv 0,iv 0,iv 0,iv 0,iv 0,iv 0,iv 0,iv 0,iv 0,iv 0,iv 0,iv 0,iv 0]),(3,.box 27 [sv p.nm,iv p.top,ZH p.states,ZH p.msgs,ZH p.vals,iv p.fault,slA 4 cLn p.res,Zc p.init,Zc p.leader,slA 18 cRu p.rules])]) (ofT 124 [(3,.box 1 0),(4,.box 2 0),(5,bF),(6,.box 3 0),(7,iv (Rd.shI p.top (Ns.shT p.top (Ns.cntE p n f)) c.sh)),(9,iv 0),(74,bv (Rd.looseB p))]) ?_ (fun _ => ?_)
 by_cases hs7:p.fault=1
 refine Za (oA (fb 5 6 U27 1) I0 (oB (lb (iv p.fault) 67 U3) I0 rfl (oC (ZD rfl (dT hs7)) I0 I0 (pM (mT 69 bT) (qK (qK (qK (pP (pk true bT (.v (.tuple #[])) rfl) (kN 124 [(1,.box 31 (Rd.cCg c)),(2,.box 70 [iv 0,iv 0,iv 0,iv 0,iv 0,iv 0,iv 0,iv 0,iv 0,iv 0,iv 0,iv 0,iv 0,iv 0,iv 0,iv 0]),(3,.box 27 [sv p.nm,iv p.top,ZH p.states,ZH p.msgs,ZH p.vals,iv p.fault,slA 4 cLn p.res,Zc p.init,Zc p.leader,slA 18 cRu p.rules])] [(3,.box 1 0),(4,.box 2 0),(5,bF),(6,.box 3 0),(7,iv (Rd.shI p.top (Ns.shT p.top (Ns.cntE p n f)) c.sh)),(9,iv 0),(74,bT)] ?_)))))))))
 rw [show (Rd.looseB p)=true by simp only [Rd.looseB,hs7,decide_true,decide_false,Bool.true_or,Bool.false_or]]
 exact Y1 T0 (ZC _ _ rfl (by kernel_rfl) (by kernel_rfl))
 refine Za (oA (fb 5 6 U27 1) I0 (oB (lb (iv p.fault) 67 U3) I0 rfl (oC (ZD rfl (dF hs7)) I0 I0 (pM (mT 69 bF) (gA (fb 5 6 U27 1) I0 (gB (lb (iv p.fault) 71 U3) I0 rfl (gC (ZD rfl rfl) I0 I0 (pP (pk false bT (bv (decide (p.fault=2))) rfl) (kN 124 [(1,.box 31 (Rd.cCg c)),(2,.box 70 [iv 0,iv 0,iv 0,iv 0,iv 0,iv 0,iv 0,iv 0,iv 0,iv 0,iv 0,iv 0,iv 0,iv 0,iv 0,iv 0]),(3,.box 27 [sv p.nm,iv p.top,ZH p.states,ZH p.msgs,ZH p.vals,iv p.fault,slA 4 cLn p.res,Zc p.init,Zc p.leader,slA 18 cRu p.rules])] [(3,.box 1 0),(4,.box 2 0),(5,bF),(6,.box 3 0),(7,iv (Rd.shI p.top (Ns.shT p.top (Ns.cntE p n f)) c.sh)),(9,iv 0),(74,bv (decide (p.fault=2)))] ?_)))))))))
 rw [show (Rd.looseB p)=(decide (p.fault=2)) by simp only [Rd.looseB,hs7,decide_true,decide_false,Bool.true_or,Bool.false_or]]
 exact Y1 T0 (ZC _ _ rfl (by kernel_rfl) (by kernel_rfl))
 refine Zd ?_
 refine t_cut (True) (ofL [(1,.box 31 (Rd.cCg c)),(2,.box 70 [iv 0,iv 0,iv 0,iv 0,iv 0,iv 0,iv 0,iv 0,iv 0,iv 0,iv 0,iv 0,iv 0,iv 0,iv 0,iv 0]),(3,.box 27 [sv p.nm,iv p.top,ZH p.states,ZH p.msgs,ZH p.vals,iv p.fault,slA 4 cLn p.res,Zc p.init,Zc p.leader,slA 18 cRu p.rules])]) (ofT 124 [(3,.box 1 0),(4,.box 2 0),(5,bF),(6,.box 3 0),(7,iv (Rd.shI p.top (Ns.shT p.top (Ns.cntE p n f)) c.sh)),(9,iv (Rd.mfE p-1))]) ?_ (fun _ => ?_)
 by_cases hs8:(Rd.looseB p)=true
 rw [hs8]
 refine kW 124 [(1,.box 31 (Rd.cCg c)),(2,.box 70 [iv 0,iv 0,iv 0,iv 0,iv 0,iv 0,iv 0,iv 0,iv 0,iv 0,iv 0,iv 0,iv 0,iv 0,iv 0,iv 0]),(3,.box 27 [sv p.nm,iv p.top,ZH p.states,ZH p.msgs,ZH p.vals,iv p.fault,slA 4 cLn p.res,Zc p.init,Zc p.leader,slA 18 cRu p.rules])] [(3,.box 1 0),(4,.box 2 0),(5,bF),(6,.box 3 0),(7,iv (Rd.shI p.top (Ns.shT p.top (Ns.cntE p n f)) c.sh)),(9,iv 0),(74,bT)] (Zq rfl (Za (pM (aC (.int .i64 1048576)) (kN 124 [(1,.box 31 (Rd.cCg c)),(2,.box 70 [iv 0,iv 0,iv 0,iv 0,iv 0,iv 0,iv 0,iv 0,iv 0,iv 0,iv 0,iv 0,iv 0,iv 0,iv 0,iv 0]),(3,.box 27 [sv p.nm,iv p.top,ZH p.states,ZH p.msgs,ZH p.vals,iv p.fault,slA 4 cLn p.res,Zc p.init,Zc p.leader,slA 18 cRu p.rules])] [(3,.box 1 0),(4,.box 2 0),(5,bF),(6,.box 3 0),(7,iv (Rd.shI p.top (Ns.shT p.top (Ns.cntE p n f)) c.sh)),(9,iv 1048576)] ?_))))
 rw [Rd.mf_t hs8]
 exact Y1 T0 (ZC _ _ rfl (by kernel_rfl) (by kernel_rfl))
 have hs8f:(Rd.looseB p)=false:=by simpa using hs8
 rw [hs8f]
 refine kW 124 [(1,.box 31 (Rd.cCg c)),(2,.box 70 [iv 0,iv 0,iv 0,iv 0,iv 0,iv 0,iv 0,iv 0,iv 0,iv 0,iv 0,iv 0,iv 0,iv 0,iv 0,iv 0]),(3,.box 27 [sv p.nm,iv p.top,ZH p.states,ZH p.msgs,ZH p.vals,iv p.fault,slA 4 cLn p.res,Zc p.init,Zc p.leader,slA 18 cRu p.rules])] [(3,.box 1 0),(4,.box 2 0),(5,bF),(6,.box 3 0),(7,iv (Rd.shI p.top (Ns.shT p.top (Ns.cntE p n f)) c.sh)),(9,iv 0),(74,bF)] (Zs rfl (Zp ?_))
 rw [Rd.mf_f hs8f]
 exact Y1 T0 (ZC _ _ rfl (by kernel_rfl) (by kernel_rfl))
 refine Zd (Zb (Zb ?_))
 by_cases hs9:((c.fa.length:Nat):Int)=((p.msgs.length:Nat):Int)
 by_cases hs10:(Rd.belB c.fa ((Rd.mfE p-1)+1))=true
 refine Za (oA (fb 4 3 U31 1) I0 (oB (lb (Zc c.fa) 75 U24) I0 rfl (oA (nS 76 U24) I0 (oA (fb 3 6 U27 1) I0 (oB (lb (ZH p.msgs) 78 U22) I0 rfl (oA (nS 79 U22) I0 (oC (ZX rfl (dT' hs9)) I0 I0 (pM (mT 81 bF) (gA (fb 4 3 U31 1) I0 (gB (lb (Zc c.fa) 83 U24) I0 rfl (qM (mT 9 (iv (Rd.mfE p-1))) (gC (Yg (c:=(Rd.mfE p-1)+1) rfl (w64 (by omega) (by omega) (by omega))) I0 I0 (gD (sc #[.tmp 84,.tmp 86] [] (Yf (Yj c.fa (Nat.le_trans HC.lfa (by decide))) hs10) [Zc c.fa,iv ((Rd.mfE p-1)+1)] rfl rfl rfl) I0 I0 I0 (gA (Ya rfl rfl) I0 (pP (pk false bT bF rfl) (Ze (Zd (Zs rfl (Zp (Zd (Zb (Zb ?_))))))))))))))))))))))
 by_cases hs11:c.val<0
 refine Za (oA (fb 5 3 U31 1) I0 (oB (lb (iv c.val) 91 U3) I0 rfl (oC (ZZ rfl (dT hs11)) I0 I0 (pM (mT 93 bT) (qK (qK (qK (qK (qK (qK (qK (pP (pk true bT (.v (.tuple #[])) rfl) (Ze (Zd (Zq rfl (Zb (Za (ZM rfl (Y0 [] #[.int .i64 0,.int .i64 0,.int .i64 0,.int .i64 0,.int .i64 0,.int .i64 0,.int .i64 0,.int .i64 0,.int .i64 0,.int .i64 0,.int .i64 0,.int .i64 0,.int .i64 0,.int .i64 0,.int .i64 0,.int .i64 0] rfl rfl (by kernel_rfl) rfl) T0 T0 T0 (ZM rfl (sB 16 4 (.tmp 103) (.agg [iv 0,iv 0,iv 0,iv 0,iv 0,iv 0,iv 0,iv 0,iv 0,iv 0,iv 0,iv 0,iv 0,iv 0,iv 0,iv 0])) ⟨I0,I0,T0⟩ ⟨rfl,T0⟩ rfl (pM (aC (.bool false)) (Ze (Zd (Zn ?_)))))))))))))))))))))))
 refine Zj ?_
 refine Z5 Try.results17 (.cellS rfl rfl U70 rfl (z:=16) (by kernel_rfl) rfl (by decide)) (.tmp rfl) ?_
 rw [Int.sub_add_cancel] at hs10
 have hr:(Rd.rdX p n f c)=false:=by simp only [Rd.rdX,Rd.rdB,hs1,hs2,hs3,hs4,hs5,hs6,hs9,hs10,hs11,decide_true,decide_false,Bool.and_true,Bool.true_and,Bool.false_and,Bool.and_false,Bool.not_true,Bool.not_false,if_true,if_false,true_or,or_true,or_self,not_true_eq_false,not_false_eq_true,ite_true,ite_false,or_false,false_or]
 rw [show (Rd.rdY p n f c)=false from hr,hr]
 exact rfl
 by_cases hs12:(max ((p.vals.length:Nat):Int) 1)≤c.val
 refine Za (oA (fb 5 3 U31 1) I0 (oB (lb (iv c.val) 91 U3) I0 rfl (oC (ZZ rfl (dF hs11)) I0 I0 (pM (mT 93 bF) (gA (fb 5 3 U31 1) I0 (gB (lb (iv c.val) 95 U3) I0 rfl (gA (fb 4 6 U27 1) I0 (gB (lb (ZH p.vals) 97 U22) I0 rfl (gA (nS 98 U22) I0 (gC (sp_max (.tmp 99) (.const (.int .i64 1)) rfl) I0 I0 (gC (YZ rfl (dT hs12)) I0 I0 (pP (pk false bT bT rfl) (Ze (Zd (Zq rfl (Zb (Za (ZM rfl (Y0 [] #[.int .i64 0,.int .i64 0,.int .i64 0,.int .i64 0,.int .i64 0,.int .i64 0,.int .i64 0,.int .i64 0,.int .i64 0,.int .i64 0,.int .i64 0,.int .i64 0,.int .i64 0,.int .i64 0,.int .i64 0,.int .i64 0] rfl rfl (by kernel_rfl) rfl) T0 T0 T0 (ZM rfl (sB 16 4 (.tmp 103) (.agg [iv 0,iv 0,iv 0,iv 0,iv 0,iv 0,iv 0,iv 0,iv 0,iv 0,iv 0,iv 0,iv 0,iv 0,iv 0,iv 0])) ⟨I0,I0,T0⟩ ⟨rfl,T0⟩ rfl (pM (aC (.bool false)) (Ze (Zd (Zn ?_)))))))))))))))))))))))
 refine Zj ?_
 refine Z5 Try.results17 (.cellS rfl rfl U70 rfl (z:=16) (by kernel_rfl) rfl (by decide)) (.tmp rfl) ?_
 rw [Int.sub_add_cancel] at hs10
 have hr:(Rd.rdX p n f c)=false:=by simp only [Rd.rdX,Rd.rdB,hs1,hs2,hs3,hs4,hs5,hs6,hs9,hs10,hs11,hs12,decide_true,decide_false,Bool.and_true,Bool.true_and,Bool.false_and,Bool.and_false,Bool.not_true,Bool.not_false,if_true,if_false,true_or,or_true,or_self,not_true_eq_false,not_false_eq_true,ite_true,ite_false,or_false,false_or]
 rw [show (Rd.rdY p n f c)=false from hr,hr]
 exact rfl
 refine Za (oA (fb 5 3 U31 1) I0 (oB (lb (iv c.val) 91 U3) I0 rfl (oC (ZZ rfl (dF hs11)) I0 I0 (pM (mT 93 bF) (gA (fb 5 3 U31 1) I0 (gB (lb (iv c.val) 95 U3) I0 rfl (gA (fb 4 6 U27 1) I0 (gB (lb (ZH p.vals) 97 U22) I0 rfl (gA (nS 98 U22) I0 (gC (sp_max (.tmp 99) (.const (.int .i64 1)) rfl) I0 I0 (gC (YZ rfl (dF hs12)) I0 I0 (pP (pk false bT bF rfl) (Ze (Zd (Zs rfl (Zp (Zd (Zb (Za (pM (mT 7 (iv (Rd.shI p.top (Ns.shT p.top (Ns.cntE p n f)) c.sh))) (oA (fb 5 3 U31 1) I0 (oB (lb (iv c.val) 105 U3) I0 rfl (oC (Y0 [(.tmp 104,.int .i64 (Rd.shI p.top (Ns.shT p.top (Ns.cntE p n f)) c.sh)),(.tmp 106,.int .i64 c.val)] #[.int .i64 (Rd.shI p.top (Ns.shT p.top (Ns.cntE p n f)) c.sh),.int .i64 0,.int .i64 0,.int .i64 0,.int .i64 0,.int .i64 0,.int .i64 0,.int .i64 0,.int .i64 0,.int .i64 0,.int .i64 0,.int .i64 0,.int .i64 0,.int .i64 0,.int .i64 0,.int .i64 c.val] rfl rfl (by kernel_rfl) rfl) I0 I0 ?_)))))))))))))))))))))))
 refine ZM rfl (ZT (z := .agg #[.int .i64 0,.int .i64 0,.int .i64 0,.int .i64 0,.int .i64 0,.int .i64 0,.int .i64 0,.int .i64 0,.int .i64 0,.int .i64 0,.int .i64 0,.int .i64 0,.int .i64 0,.int .i64 0,.int .i64 0,.int .i64 0]) (k:=4) rfl (by kernel_rfl)) T0 T0 rfl (ZM rfl (sB 16 10 (.tmp 107) (.agg [iv (Rd.shI p.top (Ns.shT p.top (Ns.cntE p n f)) c.sh),iv 0,iv 0,iv 0,iv 0,iv 0,iv 0,iv 0,iv 0,iv 0,iv 0,iv 0,iv 0,iv 0,iv 0,iv c.val])) ⟨I0,I0,T0⟩ ⟨rfl,T0⟩ rfl (Ze (Zd (Zb ?_))))
 refine Zr (dA (fb 1 10 U70 8) I0 (dA (sp_sliceArr (z:=1) (.tmp 108) rfl U66 (by kernel_rfl)) I0 (dA (fb 1 3 U31 1) I0 (dB (lb (Zc c.st) 110 U24) I0 rfl (dR (sp_copyInts (old:=[iv (Rd.shI p.top (Ns.shT p.top (Ns.cntE p n f)) c.sh),iv 0,iv 0,iv 0,iv 0,iv 0,iv 0,iv 0,iv 0,iv 0,iv 0,iv 0,iv 0,iv 0,iv 0,iv c.val]) (new:=[iv (Rd.shI p.top (Ns.shT p.top (Ns.cntE p n f)) c.sh),iv (c.st.getD 0 0),iv (c.st.getD 1 0),iv (c.st.getD 2 0),iv (c.st.getD 3 0),iv (c.st.getD 4 0),iv (c.st.getD 5 0),iv (c.st.getD 6 0),iv (c.st.getD 7 0),iv 0,iv 0,iv 0,iv 0,iv 0,iv 0,iv c.val]) c.st (.tmp 109) (.tmp 111) rfl U24 (by kernel_rfl) (by kernel_rfl) (by kernel_rfl) (by kernel_rfl)) ⟨I0,I0,T0⟩ ⟨rfl,T0⟩ rfl (dE ?_)))))) (by kernel_rfl)
 show ETri J w0 _ _ _
 refine kW 124 [(1,.box 31 (Rd.cCg c)),(2,.box 70 [iv 0,iv 0,iv 0,iv 0,iv 0,iv 0,iv 0,iv 0,iv 0,iv 0,iv 0,iv 0,iv 0,iv 0,iv 0,iv 0]),(4,.box 70 [iv (Rd.shI p.top (Ns.shT p.top (Ns.cntE p n f)) c.sh),iv (c.st.getD 0 0),iv (c.st.getD 1 0),iv (c.st.getD 2 0),iv (c.st.getD 3 0),iv (c.st.getD 4 0),iv (c.st.getD 5 0),iv (c.st.getD 6 0),iv (c.st.getD 7 0),iv 0,iv 0,iv 0,iv 0,iv 0,iv 0,iv c.val])] [(3,.box 1 0),(4,.box 2 0),(5,bF),(10,.box 4 0)] (Zd (Zb ?_))
 refine Zr (dA (fb 9 10 U70 3) I0 (dA (sp_sliceArr (z:=1) (.tmp 113) rfl U68 (by kernel_rfl)) I0 (dA (fb 3 3 U31 1) I0 (dB (lb (Zc c.se) 115 U24) I0 rfl (dR (sp_copyInts (old:=[iv (Rd.shI p.top (Ns.shT p.top (Ns.cntE p n f)) c.sh),iv (c.st.getD 0 0),iv (c.st.getD 1 0),iv (c.st.getD 2 0),iv (c.st.getD 3 0),iv (c.st.getD 4 0),iv (c.st.getD 5 0),iv (c.st.getD 6 0),iv (c.st.getD 7 0),iv 0,iv 0,iv 0,iv 0,iv 0,iv 0,iv c.val]) (new:=[iv (Rd.shI p.top (Ns.shT p.top (Ns.cntE p n f)) c.sh),iv (c.st.getD 0 0),iv (c.st.getD 1 0),iv (c.st.getD 2 0),iv (c.st.getD 3 0),iv (c.st.getD 4 0),iv (c.st.getD 5 0),iv (c.st.getD 6 0),iv (c.st.getD 7 0),iv (c.se.getD 0 0),iv (c.se.getD 1 0),iv (c.se.getD 2 0),iv 0,iv 0,iv 0,iv c.val]) c.se (.tmp 114) (.tmp 116) rfl U24 (by kernel_rfl) (by kernel_rfl) (by kernel_rfl) (by kernel_rfl)) ⟨I0,I0,T0⟩ ⟨rfl,T0⟩ rfl (dE ?_)))))) (by kernel_rfl)
 show ETri J w0 _ _ _
 refine kW 124 [(1,.box 31 (Rd.cCg c)),(2,.box 70 [iv 0,iv 0,iv 0,iv 0,iv 0,iv 0,iv 0,iv 0,iv 0,iv 0,iv 0,iv 0,iv 0,iv 0,iv 0,iv 0]),(4,.box 70 [iv (Rd.shI p.top (Ns.shT p.top (Ns.cntE p n f)) c.sh),iv (c.st.getD 0 0),iv (c.st.getD 1 0),iv (c.st.getD 2 0),iv (c.st.getD 3 0),iv (c.st.getD 4 0),iv (c.st.getD 5 0),iv (c.st.getD 6 0),iv (c.st.getD 7 0),iv (c.se.getD 0 0),iv (c.se.getD 1 0),iv (c.se.getD 2 0),iv 0,iv 0,iv 0,iv c.val])] [(3,.box 1 0),(4,.box 2 0),(5,bF),(10,.box 4 0)] (Zd (Zb ?_))
 refine Zr (dA (fb 12 10 U70 3) I0 (dA (sp_sliceArr (z:=1) (.tmp 118) rfl U68 (by kernel_rfl)) I0 (dA (fb 4 3 U31 1) I0 (dB (lb (Zc c.fa) 120 U24) I0 rfl (dR (sp_copyInts (old:=[iv (Rd.shI p.top (Ns.shT p.top (Ns.cntE p n f)) c.sh),iv (c.st.getD 0 0),iv (c.st.getD 1 0),iv (c.st.getD 2 0),iv (c.st.getD 3 0),iv (c.st.getD 4 0),iv (c.st.getD 5 0),iv (c.st.getD 6 0),iv (c.st.getD 7 0),iv (c.se.getD 0 0),iv (c.se.getD 1 0),iv (c.se.getD 2 0),iv 0,iv 0,iv 0,iv c.val]) (new:=[iv (Rd.shI p.top (Ns.shT p.top (Ns.cntE p n f)) c.sh),iv (c.st.getD 0 0),iv (c.st.getD 1 0),iv (c.st.getD 2 0),iv (c.st.getD 3 0),iv (c.st.getD 4 0),iv (c.st.getD 5 0),iv (c.st.getD 6 0),iv (c.st.getD 7 0),iv (c.se.getD 0 0),iv (c.se.getD 1 0),iv (c.se.getD 2 0),iv (c.fa.getD 0 0),iv (c.fa.getD 1 0),iv (c.fa.getD 2 0),iv c.val]) c.fa (.tmp 119) (.tmp 121) rfl U24 (by kernel_rfl) (by kernel_rfl) (by kernel_rfl) (by kernel_rfl)) ⟨I0,I0,T0⟩ ⟨rfl,T0⟩ rfl (dE ?_)))))) (by kernel_rfl)
 show ETri J w0 _ _ _
 refine kW 124 [(2,.box 70 [iv 0,iv 0,iv 0,iv 0,iv 0,iv 0,iv 0,iv 0,iv 0,iv 0,iv 0,iv 0,iv 0,iv 0,iv 0,iv 0]),(4,.box 70 [iv (Rd.shI p.top (Ns.shT p.top (Ns.cntE p n f)) c.sh),iv (c.st.getD 0 0),iv (c.st.getD 1 0),iv (c.st.getD 2 0),iv (c.st.getD 3 0),iv (c.st.getD 4 0),iv (c.st.getD 5 0),iv (c.st.getD 6 0),iv (c.st.getD 7 0),iv (c.se.getD 0 0),iv (c.se.getD 1 0),iv (c.se.getD 2 0),iv (c.fa.getD 0 0),iv (c.fa.getD 1 0),iv (c.fa.getD 2 0),iv c.val])] [(4,.box 2 0),(5,bF),(10,.box 4 0)] (Zd (Zb (Za (oB (lS ([iv (Rd.shI p.top (Ns.shT p.top (Ns.cntE p n f)) c.sh),iv (c.st.getD 0 0),iv (c.st.getD 1 0),iv (c.st.getD 2 0),iv (c.st.getD 3 0),iv (c.st.getD 4 0),iv (c.st.getD 5 0),iv (c.st.getD 6 0),iv (c.st.getD 7 0),iv (c.se.getD 0 0),iv (c.se.getD 1 0),iv (c.se.getD 2 0),iv (c.fa.getD 0 0),iv (c.fa.getD 1 0),iv (c.fa.getD 2 0),iv c.val]) 16 10 U70) I0 rfl (ZM rfl (sB 16 4 (.tmp 123) (.agg [iv (Rd.shI p.top (Ns.shT p.top (Ns.cntE p n f)) c.sh),iv (c.st.getD 0 0),iv (c.st.getD 1 0),iv (c.st.getD 2 0),iv (c.st.getD 3 0),iv (c.st.getD 4 0),iv (c.st.getD 5 0),iv (c.st.getD 6 0),iv (c.st.getD 7 0),iv (c.se.getD 0 0),iv (c.se.getD 1 0),iv (c.se.getD 2 0),iv (c.fa.getD 0 0),iv (c.fa.getD 1 0),iv (c.fa.getD 2 0),iv c.val])) ⟨I0,I0,T0⟩ ⟨rfl,T0⟩ rfl (pM (aC (.bool true)) (Ze (Zd (Zn ?_)))))))))
 refine Z5 Try.results17 (.cellS rfl rfl U70 rfl (z:=16) (by kernel_rfl) rfl (by decide)) (.tmp rfl) ?_
 rw [Int.sub_add_cancel] at hs10
 have hr:(Rd.rdX p n f c)=true:=by simp only [Rd.rdX,Rd.rdB,hs1,hs2,hs3,hs4,hs5,hs6,hs9,hs10,hs11,hs12,decide_true,decide_false,Bool.and_true,Bool.true_and,Bool.false_and,Bool.and_false,Bool.not_true,Bool.not_false,if_true,if_false,true_or,or_true,or_self,not_true_eq_false,not_false_eq_true,ite_true,ite_false,or_false,false_or]
 rw [show (Rd.rdY p n f c)=true from hr,hr]
 exact rfl
 have hs10f:(Rd.belB c.fa ((Rd.mfE p-1)+1))=false:=by simpa using hs10
 refine Za (oA (fb 4 3 U31 1) I0 (oB (lb (Zc c.fa) 75 U24) I0 rfl (oA (nS 76 U24) I0 (oA (fb 3 6 U27 1) I0 (oB (lb (ZH p.msgs) 78 U22) I0 rfl (oA (nS 79 U22) I0 (oC (ZX rfl (dT' hs9)) I0 I0 (pM (mT 81 bF) (gA (fb 4 3 U31 1) I0 (gB (lb (Zc c.fa) 83 U24) I0 rfl (qM (mT 9 (iv (Rd.mfE p-1))) (gC (Yg (c:=(Rd.mfE p-1)+1) rfl (w64 (by omega) (by omega) (by omega))) I0 I0 (gD (sc #[.tmp 84,.tmp 86] [] (Yf (Yj c.fa (Nat.le_trans HC.lfa (by decide))) hs10f) [Zc c.fa,iv ((Rd.mfE p-1)+1)] rfl rfl rfl) I0 I0 I0 (gA (Ya rfl rfl) I0 (pP (pk false bT bT rfl) (Ze (Zd (Zq rfl (Zb (Za (ZM rfl (Y0 [] #[.int .i64 0,.int .i64 0,.int .i64 0,.int .i64 0,.int .i64 0,.int .i64 0,.int .i64 0,.int .i64 0,.int .i64 0,.int .i64 0,.int .i64 0,.int .i64 0,.int .i64 0,.int .i64 0,.int .i64 0,.int .i64 0] rfl rfl (by kernel_rfl) rfl) T0 T0 T0 (ZM rfl (sB 16 4 (.tmp 90) (.agg [iv 0,iv 0,iv 0,iv 0,iv 0,iv 0,iv 0,iv 0,iv 0,iv 0,iv 0,iv 0,iv 0,iv 0,iv 0,iv 0])) ⟨I0,I0,T0⟩ ⟨rfl,T0⟩ rfl (pM (aC (.bool false)) ?_)))))))))))))))))))))))
 refine Ze (Zd (Zn (Zj ?_)))
 refine Z5 Try.results17 (.cellS rfl rfl U70 rfl (z:=16) (by kernel_rfl) rfl (by decide)) (.tmp rfl) ?_
 rw [Int.sub_add_cancel] at hs10f
 have hr:(Rd.rdX p n f c)=false:=by simp only [Rd.rdX,Rd.rdB,hs1,hs2,hs3,hs4,hs5,hs6,hs9,hs10f,decide_true,decide_false,Bool.and_true,Bool.true_and,Bool.false_and,Bool.and_false,Bool.not_true,Bool.not_false,if_true,if_false,true_or,or_true,or_self,not_true_eq_false,not_false_eq_true,ite_true,ite_false,or_false,false_or]
 rw [show (Rd.rdY p n f c)=false from hr,hr]
 exact rfl
 refine Za (oA (fb 4 3 U31 1) I0 (oB (lb (Zc c.fa) 75 U24) I0 rfl (oA (nS 76 U24) I0 (oA (fb 3 6 U27 1) I0 (oB (lb (ZH p.msgs) 78 U22) I0 rfl (oA (nS 79 U22) I0 (oC (ZX rfl (dF' hs9)) I0 I0 (pM (mT 81 bT) (qK (qK (qK (qK (qK (qK (pP (pk true bT (.v (.tuple #[])) rfl) (Ze (Zd (Zq rfl (Zb (Za (ZM rfl (Y0 [] #[.int .i64 0,.int .i64 0,.int .i64 0,.int .i64 0,.int .i64 0,.int .i64 0,.int .i64 0,.int .i64 0,.int .i64 0,.int .i64 0,.int .i64 0,.int .i64 0,.int .i64 0,.int .i64 0,.int .i64 0,.int .i64 0] rfl rfl (by kernel_rfl) rfl) T0 T0 T0 (ZM rfl (sB 16 4 (.tmp 90) (.agg [iv 0,iv 0,iv 0,iv 0,iv 0,iv 0,iv 0,iv 0,iv 0,iv 0,iv 0,iv 0,iv 0,iv 0,iv 0,iv 0])) ⟨I0,I0,T0⟩ ⟨rfl,T0⟩ rfl (pM (aC (.bool false)) ?_)))))))))))))))))))))))
 refine Ze (Zd (Zn (Zj ?_)))
 refine Z5 Try.results17 (.cellS rfl rfl U70 rfl (z:=16) (by kernel_rfl) rfl (by decide)) (.tmp rfl) ?_
 have hr:(Rd.rdX p n f c)=false:=by simp only [Rd.rdX,Rd.rdB,hs1,hs2,hs3,hs4,hs5,hs6,hs9,decide_true,decide_false,Bool.and_true,Bool.true_and,Bool.false_and,Bool.and_false,Bool.not_true,Bool.not_false,if_true,if_false,true_or,or_true,or_self,not_true_eq_false,not_false_eq_true,ite_true,ite_false,or_false,false_or]
 rw [show (Rd.rdY p n f c)=false from hr,hr]
 exact rfl
 have hs6f:(Rd.belB c.se 1048577)=false:=by simpa using hs6
 refine Za (oA (fb 3 3 U31 1) I0 (oB (lb (Zc c.se) 53 U24) I0 rfl (oA (nS 54 U24) I0 (oA (fb 3 6 U27 1) I0 (oB (lb (ZH p.msgs) 56 U22) I0 rfl (oA (nS 57 U22) I0 (oC (ZX rfl (dT' hs5)) I0 I0 (pM (mT 59 bF) (gA (fb 3 3 U31 1) I0 (gB (lb (Zc c.se) 61 U24) I0 rfl (gD (sc #[.tmp 62,.const (.int .i64 1048577)] [] (Yf (Yj c.se (Nat.le_trans HC.lse (by decide))) hs6f) [Zc c.se,iv 1048577] rfl rfl rfl) I0 I0 I0 (gA (Ya rfl rfl) I0 (pP (pk false bT bT rfl) (Ze (Zd (Zq rfl (Zb (Za (ZM rfl (Y0 [] #[.int .i64 0,.int .i64 0,.int .i64 0,.int .i64 0,.int .i64 0,.int .i64 0,.int .i64 0,.int .i64 0,.int .i64 0,.int .i64 0,.int .i64 0,.int .i64 0,.int .i64 0,.int .i64 0,.int .i64 0,.int .i64 0] rfl rfl (by kernel_rfl) rfl) T0 T0 T0 (ZM rfl (sB 16 4 (.tmp 66) (.agg [iv 0,iv 0,iv 0,iv 0,iv 0,iv 0,iv 0,iv 0,iv 0,iv 0,iv 0,iv 0,iv 0,iv 0,iv 0,iv 0])) ⟨I0,I0,T0⟩ ⟨rfl,T0⟩ rfl (pM (aC (.bool false)) (Ze (Zd ?_)))))))))))))))))))))))
 refine Zn (Zj ?_)
 refine Z5 Try.results17 (.cellS rfl rfl U70 rfl (z:=16) (by kernel_rfl) rfl (by decide)) (.tmp rfl) ?_
 have hr:(Rd.rdX p n f c)=false:=by simp only [Rd.rdX,Rd.rdB,hs1,hs2,hs3,hs4,hs5,hs6f,decide_true,decide_false,Bool.and_true,Bool.true_and,Bool.false_and,Bool.and_false,Bool.not_true,Bool.not_false,if_true,if_false,true_or,or_true,or_self,not_true_eq_false,not_false_eq_true,ite_true,ite_false,or_false,false_or]
 rw [show (Rd.rdY p n f c)=false from hr,hr]
 exact rfl
 refine Za (oA (fb 3 3 U31 1) I0 (oB (lb (Zc c.se) 53 U24) I0 rfl (oA (nS 54 U24) I0 (oA (fb 3 6 U27 1) I0 (oB (lb (ZH p.msgs) 56 U22) I0 rfl (oA (nS 57 U22) I0 (oC (ZX rfl (dF' hs5)) I0 I0 (pM (mT 59 bT) (qK (qK (qK (qK (pP (pk true bT (.v (.tuple #[])) rfl) (Ze (Zd (Zq rfl (Zb (Za (ZM rfl (Y0 [] #[.int .i64 0,.int .i64 0,.int .i64 0,.int .i64 0,.int .i64 0,.int .i64 0,.int .i64 0,.int .i64 0,.int .i64 0,.int .i64 0,.int .i64 0,.int .i64 0,.int .i64 0,.int .i64 0,.int .i64 0,.int .i64 0] rfl rfl (by kernel_rfl) rfl) T0 T0 T0 (ZM rfl (sB 16 4 (.tmp 66) (.agg [iv 0,iv 0,iv 0,iv 0,iv 0,iv 0,iv 0,iv 0,iv 0,iv 0,iv 0,iv 0,iv 0,iv 0,iv 0,iv 0])) ⟨I0,I0,T0⟩ ⟨rfl,T0⟩ rfl (pM (aC (.bool false)) (Ze (Zd ?_)))))))))))))))))))))))
 refine Zn (Zj ?_)
 refine Z5 Try.results17 (.cellS rfl rfl U70 rfl (z:=16) (by kernel_rfl) rfl (by decide)) (.tmp rfl) ?_
 have hr:(Rd.rdX p n f c)=false:=by simp only [Rd.rdX,Rd.rdB,hs1,hs2,hs3,hs4,hs5,decide_true,decide_false,Bool.and_true,Bool.true_and,Bool.false_and,Bool.and_false,Bool.not_true,Bool.not_false,if_true,if_false,true_or,or_true,or_self,not_true_eq_false,not_false_eq_true,ite_true,ite_false,or_false,false_or]
 rw [show (Rd.rdY p n f c)=false from hr,hr]
 exact rfl
 refine Zr (dM (mT 8 bT) (dA (Ya rfl rfl) I0 (dM (mT 23 bF) (dA (fb 1 3 U31 1) I0 (dB (lb (Zc c.st) 25 U24) I0 rfl (dA (nS 26 U24) I0 (dM (mT 0 (.el (Ns.sysC p n t f) 0)) (dA (Zm (off:=0) (.tmp 28) rfl) I0 (dA (fe 13 29 U94 1) I0 (dA (lE (iv (Ns.cntE p n f)) 30 U3) I0 (dC (ZX rfl (dT' hs2)) I0 I0 (dP (pk false bT bF rfl) (dM (mT 33 bF) (dA (fb 1 3 U31 1) I0 (dB (lb (Zc c.st) 35 U24) I0 rfl (dA (fb 2 6 U27 1) I0 (dB (lb (ZH p.states) 37 U22) I0 rfl (dA (nS 38 U22) I0 (dD (sc #[.tmp 36,.tmp 39] [] (Yf (Yj c.st (Nat.le_trans HC.lst (by decide))) hs3) [Zc c.st,iv p.states.length] rfl rfl rfl) I0 I0 I0 (dA (Ya rfl rfl) I0 (dP (pk false bT bF rfl) (dM (mT 42 bF) (dA (fb 2 3 U31 1) I0 (dB (lb (iv c.cor) 44 U3) I0 rfl (dM (mT 0 (.el (Ns.sysC p n t f) 0)) (dA (Zm (off:=0) (.tmp 46) rfl) I0 (dA (fe 14 47 U94 1) I0 (dA (lE (iv (n-f)) 48 U3) I0 (dC (ZX rfl (dF' hs4)) I0 I0 (dP (pk false bT bT rfl) (dE ?_))))))))))))))))))))))))))))))) (by kernel_rfl)
 show ETri J w0 _ _ _
 refine kW 124 [(1,.box 31 (Rd.cCg c)),(2,.box 70 [iv 0,iv 0,iv 0,iv 0,iv 0,iv 0,iv 0,iv 0,iv 0,iv 0,iv 0,iv 0,iv 0,iv 0,iv 0,iv 0]),(3,.box 27 [sv p.nm,iv p.top,ZH p.states,ZH p.msgs,ZH p.vals,iv p.fault,slA 4 cLn p.res,Zc p.init,Zc p.leader,slA 18 cRu p.rules])] [(3,.box 1 0),(4,.box 2 0),(5,bF),(6,.box 3 0),(7,iv (Rd.shI p.top (Ns.shT p.top (Ns.cntE p n f)) c.sh)),(51,bT)] (Zd (Zq rfl (Zb (Za (ZM rfl (Y0 [] #[.int .i64 0,.int .i64 0,.int .i64 0,.int .i64 0,.int .i64 0,.int .i64 0,.int .i64 0,.int .i64 0,.int .i64 0,.int .i64 0,.int .i64 0,.int .i64 0,.int .i64 0,.int .i64 0,.int .i64 0,.int .i64 0] rfl rfl (by kernel_rfl) rfl) T0 T0 T0 (ZM rfl (sB 16 4 (.tmp 52) (.agg [iv 0,iv 0,iv 0,iv 0,iv 0,iv 0,iv 0,iv 0,iv 0,iv 0,iv 0,iv 0,iv 0,iv 0,iv 0,iv 0])) ⟨I0,I0,T0⟩ ⟨rfl,T0⟩ rfl (pM (aC (.bool false)) (Ze (Zd (Zn (Zj ?_)))))))))))
 refine Z5 Try.results17 (.cellS rfl rfl U70 rfl (z:=16) (by kernel_rfl) rfl (by decide)) (.tmp rfl) ?_
 have hr:(Rd.rdX p n f c)=false:=by simp only [Rd.rdX,Rd.rdB,hs1,hs2,hs3,hs4,decide_true,decide_false,Bool.and_true,Bool.true_and,Bool.false_and,Bool.and_false,Bool.not_true,Bool.not_false,if_true,if_false,true_or,or_true,or_self,not_true_eq_false,not_false_eq_true,ite_true,ite_false,or_false,false_or]
 rw [show (Rd.rdY p n f c)=false from hr,hr]
 exact rfl
 have hs3f:(Rd.belB c.st ((p.states.length:Nat):Int))=false:=by simpa using hs3
 refine Zr (dM (mT 8 bT) (dA (Ya rfl rfl) I0 (dM (mT 23 bF) (dA (fb 1 3 U31 1) I0 (dB (lb (Zc c.st) 25 U24) I0 rfl (dA (nS 26 U24) I0 (dM (mT 0 (.el (Ns.sysC p n t f) 0)) (dA (Zm (off:=0) (.tmp 28) rfl) I0 (dA (fe 13 29 U94 1) I0 (dA (lE (iv (Ns.cntE p n f)) 30 U3) I0 (dC (ZX rfl (dT' hs2)) I0 I0 (dP (pk false bT bF rfl) (dM (mT 33 bF) (dA (fb 1 3 U31 1) I0 (dB (lb (Zc c.st) 35 U24) I0 rfl (dA (fb 2 6 U27 1) I0 (dB (lb (ZH p.states) 37 U22) I0 rfl (dA (nS 38 U22) I0 (dD (sc #[.tmp 36,.tmp 39] [] (Yf (Yj c.st (Nat.le_trans HC.lst (by decide))) hs3f) [Zc c.st,iv p.states.length] rfl rfl rfl) I0 I0 I0 (dA (Ya rfl rfl) I0 (dP (pk false bT bT rfl) (dM (mT 42 bT) (dK (dK (dK (dK (dK (dK (dK (dP (pk true bT (.v (.tuple #[])) rfl) (dE ?_))))))))))))))))))))))))))))))) (by kernel_rfl)
 show ETri J w0 _ _ _
 refine kW 124 [(1,.box 31 (Rd.cCg c)),(2,.box 70 [iv 0,iv 0,iv 0,iv 0,iv 0,iv 0,iv 0,iv 0,iv 0,iv 0,iv 0,iv 0,iv 0,iv 0,iv 0,iv 0]),(3,.box 27 [sv p.nm,iv p.top,ZH p.states,ZH p.msgs,ZH p.vals,iv p.fault,slA 4 cLn p.res,Zc p.init,Zc p.leader,slA 18 cRu p.rules])] [(3,.box 1 0),(4,.box 2 0),(5,bF),(6,.box 3 0),(7,iv (Rd.shI p.top (Ns.shT p.top (Ns.cntE p n f)) c.sh)),(51,bT)] (Zd (Zq rfl (Zb (Za (ZM rfl (Y0 [] #[.int .i64 0,.int .i64 0,.int .i64 0,.int .i64 0,.int .i64 0,.int .i64 0,.int .i64 0,.int .i64 0,.int .i64 0,.int .i64 0,.int .i64 0,.int .i64 0,.int .i64 0,.int .i64 0,.int .i64 0,.int .i64 0] rfl rfl (by kernel_rfl) rfl) T0 T0 T0 (ZM rfl (sB 16 4 (.tmp 52) (.agg [iv 0,iv 0,iv 0,iv 0,iv 0,iv 0,iv 0,iv 0,iv 0,iv 0,iv 0,iv 0,iv 0,iv 0,iv 0,iv 0])) ⟨I0,I0,T0⟩ ⟨rfl,T0⟩ rfl (pM (aC (.bool false)) (Ze (Zd (Zn (Zj ?_)))))))))))
 refine Z5 Try.results17 (.cellS rfl rfl U70 rfl (z:=16) (by kernel_rfl) rfl (by decide)) (.tmp rfl) ?_
 have hr:(Rd.rdX p n f c)=false:=by simp only [Rd.rdX,Rd.rdB,hs1,hs2,hs3f,decide_true,decide_false,Bool.and_true,Bool.true_and,Bool.false_and,Bool.and_false,Bool.not_true,Bool.not_false,if_true,if_false,true_or,or_true,or_self,not_true_eq_false,not_false_eq_true,ite_true,ite_false,or_false,false_or]
 rw [show (Rd.rdY p n f c)=false from hr,hr]
 exact rfl
 refine Zr (dM (mT 8 bT) (dA (Ya rfl rfl) I0 (dM (mT 23 bF) (dA (fb 1 3 U31 1) I0 (dB (lb (Zc c.st) 25 U24) I0 rfl (dA (nS 26 U24) I0 (dM (mT 0 (.el (Ns.sysC p n t f) 0)) (dA (Zm (off:=0) (.tmp 28) rfl) I0 (dA (fe 13 29 U94 1) I0 (dA (lE (iv (Ns.cntE p n f)) 30 U3) I0 (dC (ZX rfl (dF' hs2)) I0 I0 (dP (pk false bT bT rfl) (dM (mT 33 bT) (dK (dK (dK (dK (dK (dK (dK (dP (pk true bT (.v (.tuple #[])) rfl) (dM (mT 42 bT) (dK (dK (dK (dK (dK (dK (dK (dP (pk true bT (.v (.tuple #[])) rfl) (dE ?_))))))))))))))))))))))))))))))) (by kernel_rfl)
 show ETri J w0 _ _ _
 refine kW 124 [(1,.box 31 (Rd.cCg c)),(2,.box 70 [iv 0,iv 0,iv 0,iv 0,iv 0,iv 0,iv 0,iv 0,iv 0,iv 0,iv 0,iv 0,iv 0,iv 0,iv 0,iv 0]),(3,.box 27 [sv p.nm,iv p.top,ZH p.states,ZH p.msgs,ZH p.vals,iv p.fault,slA 4 cLn p.res,Zc p.init,Zc p.leader,slA 18 cRu p.rules])] [(3,.box 1 0),(4,.box 2 0),(5,bF),(6,.box 3 0),(7,iv (Rd.shI p.top (Ns.shT p.top (Ns.cntE p n f)) c.sh)),(51,bT)] (Zd (Zq rfl (Zb (Za (ZM rfl (Y0 [] #[.int .i64 0,.int .i64 0,.int .i64 0,.int .i64 0,.int .i64 0,.int .i64 0,.int .i64 0,.int .i64 0,.int .i64 0,.int .i64 0,.int .i64 0,.int .i64 0,.int .i64 0,.int .i64 0,.int .i64 0,.int .i64 0] rfl rfl (by kernel_rfl) rfl) T0 T0 T0 (ZM rfl (sB 16 4 (.tmp 52) (.agg [iv 0,iv 0,iv 0,iv 0,iv 0,iv 0,iv 0,iv 0,iv 0,iv 0,iv 0,iv 0,iv 0,iv 0,iv 0,iv 0])) ⟨I0,I0,T0⟩ ⟨rfl,T0⟩ rfl (pM (aC (.bool false)) (Ze (Zd (Zn (Zj ?_)))))))))))
 refine Z5 Try.results17 (.cellS rfl rfl U70 rfl (z:=16) (by kernel_rfl) rfl (by decide)) (.tmp rfl) ?_
 have hr:(Rd.rdX p n f c)=false:=by simp only [Rd.rdX,Rd.rdB,hs1,hs2,decide_true,decide_false,Bool.and_true,Bool.true_and,Bool.false_and,Bool.and_false,Bool.not_true,Bool.not_false,if_true,if_false,true_or,or_true,or_self,not_true_eq_false,not_false_eq_true,ite_true,ite_false,or_false,false_or]
 rw [show (Rd.rdY p n f c)=false from hr,hr]
 exact rfl
 have hs1f:(Rd.shB p.top (Ns.shT p.top (Ns.cntE p n f)) c.sh)=false:=by simpa using hs1
 rw [hs1f]
 refine kW 124 [(1,.box 31 (Rd.cCg c)),(2,.box 70 [iv 0,iv 0,iv 0,iv 0,iv 0,iv 0,iv 0,iv 0,iv 0,iv 0,iv 0,iv 0,iv 0,iv 0,iv 0,iv 0]),(3,.box 27 [sv p.nm,iv p.top,ZH p.states,ZH p.msgs,ZH p.vals,iv p.fault,slA 4 cLn p.res,Zc p.init,Zc p.leader,slA 18 cRu p.rules])] [(0,.el (Ns.sysC p n t f) 0),(3,.box 1 0),(4,.box 2 0),(5,bF),(6,.box 3 0),(7,iv (Rd.shI p.top (Ns.shT p.top (Ns.cntE p n f)) c.sh)),(8,bF)] ?_
 refine Zr (dM (mT 8 bF) (dA (Ya rfl rfl) I0 (dM (mT 23 bT) (dK (dK (dK (dK (dK (dK (dK (dK (dP (pk true bT (.v (.tuple #[])) rfl) (dM (mT 33 bT) (dK (dK (dK (dK (dK (dK (dK (dP (pk true bT (.v (.tuple #[])) rfl) (dM (mT 42 bT) (dK (dK (dK (dK (dK (dK (dK (dP (pk true bT (.v (.tuple #[])) rfl) (dE ?_))))))))))))))))))))))))))))))) (by kernel_rfl)
 show ETri J w0 _ _ _
 refine kW 124 [(1,.box 31 (Rd.cCg c)),(2,.box 70 [iv 0,iv 0,iv 0,iv 0,iv 0,iv 0,iv 0,iv 0,iv 0,iv 0,iv 0,iv 0,iv 0,iv 0,iv 0,iv 0]),(3,.box 27 [sv p.nm,iv p.top,ZH p.states,ZH p.msgs,ZH p.vals,iv p.fault,slA 4 cLn p.res,Zc p.init,Zc p.leader,slA 18 cRu p.rules])] [(3,.box 1 0),(4,.box 2 0),(5,bF),(6,.box 3 0),(7,iv (Rd.shI p.top (Ns.shT p.top (Ns.cntE p n f)) c.sh)),(51,bT)] (Zd (Zq rfl (Zb (Za (ZM rfl (Y0 [] #[.int .i64 0,.int .i64 0,.int .i64 0,.int .i64 0,.int .i64 0,.int .i64 0,.int .i64 0,.int .i64 0,.int .i64 0,.int .i64 0,.int .i64 0,.int .i64 0,.int .i64 0,.int .i64 0,.int .i64 0,.int .i64 0] rfl rfl (by kernel_rfl) rfl) T0 T0 T0 (ZM rfl (sB 16 4 (.tmp 52) (.agg [iv 0,iv 0,iv 0,iv 0,iv 0,iv 0,iv 0,iv 0,iv 0,iv 0,iv 0,iv 0,iv 0,iv 0,iv 0,iv 0])) ⟨I0,I0,T0⟩ ⟨rfl,T0⟩ rfl (pM (aC (.bool false)) (Ze (Zd (Zn (Zj ?_)))))))))))
 refine Z5 Try.results17 (.cellS rfl rfl U70 rfl (z:=16) (by kernel_rfl) rfl (by decide)) (.tmp rfl) ?_
 have hr:(Rd.rdX p n f c)=false:=by simp only [Rd.rdX,Rd.rdB,hs1f,decide_true,decide_false,Bool.and_true,Bool.true_and,Bool.false_and,Bool.and_false,Bool.not_true,Bool.not_false,if_true,if_false,true_or,or_true,or_self,not_true_eq_false,not_false_eq_true,ite_true,ite_false,or_false,false_or]
 rw [show (Rd.rdY p n f c)=false from hr,hr]
 exact rfl
end Go.Proofs.Ytabgfofjgkibmaa
