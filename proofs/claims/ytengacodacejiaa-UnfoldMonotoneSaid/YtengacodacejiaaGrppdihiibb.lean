import Derived.Deep.QuietTactic
import Derived.BigQuiet
import Derived.LoopTactic
import Derived.Lib.Hide
import Derived.StillTailTactics
import Derived.Outline
import Derived.ChangeArms
import Derived.ChangeMaps5
import Derived.Test.YtengacodacejiaaGrpjmplmpld
import Derived.Test.YtengacodacejiaaGrpjicnfjoo
import Derived.Test.YtengacodacejiaaGrpeallfklb
import Derived.Test.YtengacodacejiaaGrplhllodke
import Derived.Test.YtengacodacejiaaGrpnckbmimh
import Derived.Test.YtengacodacejiaaGrpmdopolij
import Derived.Test.YtengacodacejiaaGrpdbhjpfkk
import Derived.Test.YtengacodacejiaaGrpaajmcegn
import Derived.Test.YtengacodacejiaaGrpflkjneac
set_option linter.all false
namespace Go.Proofs.Ytengacodacejiaa
open Go.RowKit Go.Deep
set_option maxHeartbeats 12800000
def sameK (xs ys:List Int) (k:Nat):Prop:=xs.take k=ys.take k
theorem sameK_succ {xs ys:List Int} {k:Nat} (h:k<xs.length) (h':k<ys.length) (hk:sameK xs ys k) (e:xs[k]=ys[k]):sameK xs ys (k+1):=by
  unfold sameK at *;rw [List.take_succ_eq_append_getElem h,List.take_succ_eq_append_getElem h',hk,e]
theorem eqI_differ {xs ys:List Int} {k:Nat} (h:k<xs.length) (h':k<ys.length) (e:xs[k]≠ys[k]):eqI xs ys=false:=by
  unfold eqI;rw [decide_eq_false_iff_not];rintro rfl;exact e rfl
theorem eqI_len {xs ys:List Int} (h:xs.length≠ys.length):eqI xs ys=false:=by
  unfold eqI;rw [decide_eq_false_iff_not];rintro rfl;exact h rfl
theorem eqI_end {xs ys:List Int} {k:Nat} (h:k=xs.length) (h':k=ys.length) (hk:sameK xs ys k):eqI xs ys=true:=by
  unfold sameK at hk;rw [List.take_of_length_le (by omega),List.take_of_length_le (by omega)] at hk
  unfold eqI;rw [decide_eq_true_iff];exact hk
theorem Equal_full (b off n cap b' off' n' cap':Nat) (w:World) (xs ys:List Int) (hx:xs.length=n) (hy:ys.length=n') (hn:n≤9223372036854775807) (hb:b<w.heap.size) (hb':b'<w.heap.size)
    (hc:∀ i,i<n→w.cell? ⟨b,off+i,none⟩=some (.int .i64 (xs.getD i 0))) (hc':∀ i,i<n'→w.cell? ⟨b',off'+i,none⟩=some (.int .i64 (ys.getD i 0))) :
    Calls Try.prog 90 #[.slice (some ⟨b,off,none⟩) n cap,.slice (some ⟨b',off',none⟩) n' cap'] w fun e w'=>e = .returned (.bool (eqI xs ys))∧Below w.heap.size w w':=by
  by_cases hnn:n=n'
  · subst hnn
    go_enter Try.func90,Try.ntmps90
    go_wp2_with fail
    go_loopw [13] (fun v wr=>∃ k:Nat,k≤n∧v = .int .i64 k∧sameK xs ys k∧Below w.heap.size w wr) (fun v _=>n-(intOf v).toNat)
    case atStart=>exact ⟨0,Nat.zero_le _,rfl,rfl,Below.refl _ _⟩
    case round =>
      obtain ⟨k,hk,rfl,hs,hB⟩:=hrel
      have HS:=Lib.hid hs
      have HB:=Lib.hid hB
      clear hs
      by_cases h1:k<n
      · have g1:wr.cell? ⟨b,off+k,none⟩=some (.int .i64 (xs.getD k 0)):=(hB.cell (p:=⟨b,off+k,none⟩) hb).trans (hc k h1)
        have g2:wr.cell? ⟨b',off'+k,none⟩=some (.int .i64 (ys.getD k 0)):=(hB.cell (p:=⟨b',off'+k,none⟩) hb').trans (hc' k h1)
        have ex:xs.getD k 0=xs[k]'(by omega):=by simp [List.getD,List.getElem?_eq_getElem (show k<xs.length by omega)]
        have ey:ys.getD k 0=ys[k]'(by omega):=by simp [List.getD,List.getElem?_eq_getElem (show k<ys.length by omega)]
        rw [ex] at g1
        rw [ey] at g2
        generalize hX:xs[k]'(by omega)=x at g1
        generalize hY:ys[k]'(by omega)=y at g2
        have HX:=Lib.hid hX
        have HY:=Lib.hid hY
        clear hB ex ey hX hY
        by_cases he:x=y
        · have HE:=Lib.hid he
          have e1:(x==y)=true:=by simp [he]
          have e2:(x != y)=false:=by rw [bne,e1];rfl
          clear he
          go_wp2_with fail
          go_quiet (fail)
          go_wp2_with fail
          go_roundw
          case rel=>exact ⟨k+1,by omega,by go_num,sameK_succ (by omega) (by omega) HS.out (by rw [HX.out,HY.out];exact HE.out),quietBelow HB.out _⟩
          case measure=>simp [intOf];omega
        have HE:=Lib.hid he
        have e1:(x==y)=false:=by simp [he]
        have e2:(x != y)=true:=by rw [bne,e1];rfl
        clear he
        go_wp2_with fail
        go_quiet (fail)
        go_wp2_with fail
        go_ret
        exact ⟨Zi (by rw [eqI_differ (k:=k) (by omega) (by omega) (by rw [HX.out,HY.out];exact HE.out)]),quietBelow HB.out _⟩
      clear hB
      go_wp2_with fail
      go_ret
      exact ⟨Zi (by rw [eqI_end (k:=k) (by omega) (by omega) HS.out]),HB.out⟩
  have h1:(((n:Nat):Int)==((n':Nat):Int))=false:=by simp;omega
  have h2:(((n:Nat):Int) != ((n':Nat):Int))=true:=by rw [bne,h1];rfl
  have E:=Lib.hid (eqI_len (xs:=xs) (ys:=ys) (by rw [hx,hy];exact hnn))
  clear hnn
  go_enter Try.func90,Try.ntmps90
  go_wp2_with fail
  go_ret
  exact ⟨Zi (by rw [E.out]),Below.refl _ _⟩
theorem Equal_left (a a':Option Addr) (cap n' cap':Nat) (w:World) (ys:List Int) (hy:ys.length=n') (hn:n'≤9223372036854775807) :
    Calls Try.prog 90 #[.slice a 0 cap,.slice a' n' cap'] w fun e w'=>e = .returned (.bool (eqI [] ys))∧Below w.heap.size w w':=by
  by_cases h0:n'=0
  · subst h0
    obtain rfl:=List.eq_nil_of_length_eq_zero hy
    go_enter Try.func90,Try.ntmps90
    go_wp2_with fail
    refine wp_loop_rounds 1 ?_
    rw [rounds_succ]
    go_wp2_with fail
    go_ret
    exact ⟨rfl,Below.refl _ _⟩
  have h1:(((0:Nat):Int)==((n':Nat):Int))=false:=by simp;omega
  have h1':((0:Int)==((n':Nat):Int))=false:=by simp;omega
  have h2:((0:Int) != ((n':Nat):Int))=true:=by rw [bne,h1'];rfl
  have E:=Lib.hid (eqI_len (xs:=[]) (ys:=ys) (by simp;omega))
  clear h0
  go_enter Try.func90,Try.ntmps90
  go_wp2_with fail
  go_ret
  exact ⟨Zi (by rw [E.out]),Below.refl _ _⟩
theorem Equal_right (a a':Option Addr) (n cap cap':Nat) (w:World) (x:Int) (xs:List Int) (hx:(x::xs).length=n) (hn:n≤9223372036854775807) :
    Calls Try.prog 90 #[.slice a n cap,.slice a' 0 cap'] w fun e w'=>e = .returned (.bool (eqI (x::xs) []))∧Below w.heap.size w w':=by
  have h0:0<n:=by simp at hx;omega
  have h1:(((n:Nat):Int)==(0:Int))=false:=by simp;omega
  have h2:(((n:Nat):Int) != (0:Int))=true:=by rw [bne,h1];rfl
  have E:=Lib.hid (eqI_len (xs:=x::xs) (ys:=[]) (by simp))
  clear hx
  go_enter Try.func90,Try.ntmps90
  go_wp2_with fail
  go_ret
  exact ⟨Zi (by rw [E.out]),Below.refl _ _⟩
theorem Equal_any {lo lo':Nat} {w:World} {v v':Value} {xs ys:List Int} (h:IsInts lo w v xs) (h':IsInts lo' w v' ys) :
    Calls Try.prog 90 #[v,v'] w fun e w'=>e = .returned (.bool (eqI xs ys))∧Below w.heap.size w w':=by
  obtain ⟨a,cap,rfl,hl,hm,hi,hc⟩:=h
  obtain ⟨a',cap',rfl,hl',hm',hi',hc'⟩:=h'
  unfold maxLen at hm hm'
  rcases hc with rfl | ⟨b,off,rfl,_,hb,hc⟩
  · exact Equal_left _ _ _ _ _ _ _ rfl (by omega)
  rcases hc' with rfl | ⟨b',off',rfl,_,hb',hc'⟩
  · cases xs with
    | nil=>exact Equal_left _ _ _ _ _ _ _ rfl (by simp)
    | cons x xs=>exact Equal_right _ _ _ _ _ _ _ _ rfl (by omega)
  exact Equal_full _ _ _ _ _ _ _ _ _ _ _ rfl rfl (by omega) hb hb' hc hc'
end Go.Proofs.Ytengacodacejiaa
namespace Go.Proofs.Ytengacodacejiaa
open Go.RowKit Go.Deep
deriving instance DecidableEq for Ru
deriving instance DecidableEq for Fm
section
variable {α:Type} {xs ys:List α} {k:Nat}
variable [DecidableEq α]
end
section
variable {P:Program} {J:World→Prop} {o:Oper}
end
variable {J:World→Prop}
theorem eqIntsG (xs ys:List Int) (hx:InOk xs) (hy:InOk ys):Ctr Try.prog J 90 [Zd xs,Zd ys] (bv (decide (xs=ys))):=ctr2 fun w v v' _ h h' =>
  (Equal_any (YW hx lo0 h) (YW hy lo0 h')).mono fun _ _=>ret_sc
structure SP (r s:Ru):Prop where
  n9:[r.kind,r.frm,r.to,r.pf,r.pt,r.rd,r.wr,r.pos,r.dir]=[s.kind,s.frm,s.to,s.pf,s.pt,s.rd,s.wr,s.pos,s.dir]
  resp:r.resp=s.resp
  guards:r.guards=s.guards
  ex:r.ex=s.ex
  fa:r.fa=s.fa
  send:r.send=s.send
  left:r.left=s.left
  right:r.right=s.right
  parent:r.parent=s.parent
end Go.Proofs.Ytengacodacejiaa
namespace Go.Proofs.Ytengacodacejiaa
open Go.RowKit Go.Deep
structure Cf where
  sh:List Int
  st:List Int
  cor:Int
  se:List Int
  fa:List Int
  val:Int
def IsCf (lo:Nat) (w:World) (v:Value) (q:Cf):Prop :=
  ∃ u0 u1 u3 u4,v = .agg #[u0,u1,.int .i64 q.cor,u3,u4,.int .i64 q.val]∧IsInts lo w u0 q.sh∧IsInts lo w u1 q.st∧I64 q.cor∧IsInts lo w u3 q.se∧IsInts lo w u4 q.fa∧I64 q.val
theorem IsCf.below {lo:Nat} {w w':World} {v:Value} {q:Cf} (h:IsCf lo w v q) (hb:Below w.heap.size w w'):IsCf lo w' v q:=by
  obtain ⟨u0,u1,u3,u4,e,h0,h1,h2,h3,h4,h5⟩:=h
  exact ⟨u0,u1,u3,u4,e,h0.below hb,h1.below hb,h2,h3.below hb,h4.below hb,h5⟩
variable {J:World→Prop}
namespace Rd
def ixP {α:Type} (l:List α) (p:α→Bool):Int:=match l.findIdx? p with | some i=>(i:Int) | none => -1
def noP {α:Type} (l:List α) (p:α→Bool) (k:Nat):Prop:=∀ i (h:i<l.length),i<k→p l[i]=false
theorem noP_zero {α:Type} (l:List α) (p:α→Bool):noP l p 0:=fun _ _ h=>absurd h (by omega)
theorem noP_succ {α:Type} {l:List α} {p:α→Bool} {k:Nat} (hk:k<l.length) (h:noP l p k) (e:p l[k]=false):noP l p (k+1):=fun i a b=>by
  by_cases hi:i<k
  · exact h i a hi
  obtain rfl:i=k:=by omega
  exact e
theorem ixP_at {α:Type} {l:List α} {p:α→Bool} {k:Nat} (hk:k<l.length) (h:noP l p k) (e:p l[k]=true):ixP l p=((k:Nat):Int):=by
  unfold ixP
  rw [List.findIdx?_eq_some_iff_getElem.2 ⟨hk,e,fun j hj=>by simp [h j (by omega) hj]⟩]
theorem ixP_none {α:Type} {l:List α} {p:α→Bool} {k:Nat} (hk:¬ k<l.length) (h:noP l p k):ixP l p = -1:=by
  unfold ixP
  rw [List.findIdx?_eq_none_iff.2 fun x hx=>by
    obtain ⟨i,hi,rfl⟩:=List.mem_iff_getElem.1 hx
    exact h i hi (by omega)]
theorem anyP_ix {α:Type} (l:List α) (p:α→Bool):decide (0≤ixP l p)=l.any p:=by
  unfold ixP
  cases hf:l.findIdx? p with
  | none =>
    rw [List.findIdx?_eq_none_iff] at hf
    have:l.any p=false:=by simpa using hf
    simp [this]
  | some i =>
    obtain ⟨hi,h1,_⟩:=List.findIdx?_eq_some_iff_getElem.1 hf
    have:l.any p=true:=List.any_eq_true.2 ⟨_,List.getElem_mem hi,h1⟩
    simp [this]
def outB (m x:Int):Bool:=decide (x<0)||decide (m≤x)
theorem outB_lo {m x:Int} (h:x<0):outB m x=true:=by unfold outB;simp [h]
theorem outB_hi {m x:Int} (h:¬ x<0):outB m x=decide (m≤x):=by unfold outB;simp [h]
def belB (l:List Int) (m:Int):Bool := !l.any (outB m)
def shI (top:Int) (S:List (List Int)) (sh:List Int):Int:=if top=4 then max (ixP S fun x=>decide (sh=x)) 0 else 0
def shB (top:Int) (S:List (List Int)) (sh:List Int):Bool:=if top=4 then S.any (fun x=>decide (sh=x)) else decide (sh=[])
theorem shI_tree {top:Int} {S:List (List Int)} {sh:List Int} (h:top=4):shI top S sh=max (ixP S fun x=>decide (sh=x)) 0:=if_pos h
theorem shI_no {top:Int} {S:List (List Int)} {sh:List Int} (h:¬ top=4):shI top S sh=0:=if_neg h
theorem shB_tree {top:Int} {S:List (List Int)} {sh:List Int} (h:top=4):shB top S sh=decide (0≤ixP S fun x=>decide (sh=x)):=by
  unfold shB;rw [if_pos h];exact (anyP_ix S _).symm
theorem shB_no {top:Int} {S:List (List Int)} {sh:List Int} (h:¬ top=4):shB top S sh=decide (((sh.length:Nat):Int)=0):=by
  unfold shB;rw [if_neg h]
  cases sh with
  | nil=>rfl
  | cons a l=>simp;omega
def cCg (c:Cf):List AV:=[Zd c.sh,Zd c.st,iv c.cor,Zd c.se,Zd c.fa,iv c.val]
structure CgOk (c:Cf):Prop where
  sh:InOk c.sh
  st:InOk c.st
  se:InOk c.se
  fa:InOk c.fa
  lsh:c.sh.length≤100
  lst:c.st.length≤100
  lse:c.se.length≤100
  lfa:c.fa.length≤100
theorem plain_cg (c:Cf):∀ X∈cCg c,Plain X:=by
  intro X hX
  simp only [cCg,List.mem_cons,List.not_mem_nil,or_false] at hX
  rcases hX with rfl | rfl | rfl | rfl | rfl | rfl<;>first | exact .v _ | exact Yc _
def mfE (p:Fm):Int:=if p.fault=1∨p.fault=2 then 1048577 else 1
def rdB (p:Fm) (cnt cor:Int) (c:Cf) (b:Bool):Bool :=
  b&&decide (((c.st.length:Nat):Int)=cnt)&&belB c.st ((p.states.length:Nat):Int)&&decide (c.cor=cor)&&decide (((c.se.length:Nat):Int)=((p.msgs.length:Nat):Int))&&belB c.se 1048577 &&
  decide (((c.fa.length:Nat):Int)=((p.msgs.length:Nat):Int))&&belB c.fa (mfE p) && !decide (c.val<0) && !decide (max ((p.vals.length:Nat):Int) 1≤c.val)
def zz (b:Bool) (x:Int):Int:=if b=true then x else 0
def cfZ (b:Bool) (i:Int) (c:Cf):List AV :=
  [iv (zz b i),iv (zz b (c.st.getD 0 0)),iv (zz b (c.st.getD 1 0)),iv (zz b (c.st.getD 2 0)),iv (zz b (c.st.getD 3 0)),iv (zz b (c.st.getD 4 0)),iv (zz b (c.st.getD 5 0)),iv (zz b (c.st.getD 6 0)),iv (zz b (c.st.getD 7 0)),
   iv (zz b (c.se.getD 0 0)),iv (zz b (c.se.getD 1 0)),iv (zz b (c.se.getD 2 0)),iv (zz b (c.fa.getD 0 0)),iv (zz b (c.fa.getD 1 0)),iv (zz b (c.fa.getD 2 0)),iv (zz b c.val)]
def rdX (p:Fm) (n f:Int) (c:Cf):Bool:=rdB p (Ns.cntE p n f) (n-f) c (shB p.top (Ns.shT p.top (Ns.cntE p n f)) c.sh)
def rdY (p:Fm) (n f:Int) (c:Cf):Bool:=rdX p n f c
def vcE (p:Fm) (n t f:Int) (c:Cf):Int:=if Ns.sysE p n t f=0 then (if rdX p n f c=true then 0 else 1) else Ns.sysE p n t f
end Rd
namespace Rd
def looseB (p:Fm):Bool:=decide (p.fault=1)||decide (p.fault=2)
theorem any_none {α:Type} {xs:List α} {q:α→Bool} {k:Nat} (hk:¬ k<xs.length) (h:noP xs q k):xs.any q=false :=
  List.any_eq_false.2 fun x hx=>by
    obtain ⟨i,hi,rfl⟩:=List.mem_iff_getElem.1 hx
    simp [h i hi (by omega)]
theorem any_one {α:Type} {xs:List α} {q:α→Bool} {k:Nat} (hk:k<xs.length) (h:q xs[k]=true):xs.any q=true:=List.any_eq_true.2 ⟨_,List.getElem_mem hk,h⟩
end Rd
namespace Ct
def bump (L:List Int) (x:Int):List Int:=L.set x.toNat (L.getD x.toNat 0+1)
def cnt (S:Nat) (xs:List Int):List Int:=xs.foldl bump (List.replicate S 0)
def two (sh A B se fa:List Int) (val:Int):Cf:=⟨sh,A++B,((A.length:Nat):Int),se,fa,val⟩
theorem row_at {L:List Int} {i:Nat} (h:i<L.length):(L.map iv)[i*1]? = some (iv (L.getD i 0)):=by
  rw [Nat.mul_one,List.getElem?_map,List.getD_eq_getElem?_getD,List.getElem?_eq_getElem h]
  rfl
theorem getD_at {L:List Int} {i:Nat} (h:i<L.length):L.getD i 0=L[i]:=by
  rw [List.getD_eq_getElem?_getD,List.getElem?_eq_getElem h];rfl
def srt (xs:List Int):List Int:=xs.mergeSort fun x y=>decide (x≤y)
theorem srt_perm (xs:List Int):(srt xs).Perm xs:=List.mergeSort_perm _ _
theorem srt_pw (xs:List Int):List.Pairwise (fun a b=>a≤b) (srt xs):=by
  have:=List.pairwise_mergeSort (le:=fun x y:Int=>decide (x≤y)) (fun a b c h1 h2=>by simp at *;omega) (fun a b=>by simp;omega) xs
  exact this.imp fun h=>by simpa using h
theorem srt_eq {xs L:List Int} (hp:L.Perm xs) (hs:∀ a b,(h:a<b)→(hb:b<L.length)→L[a]≤L[b]):L=srt xs :=
  List.Perm.eq_of_pairwise (le:=fun a b:Int=>a≤b) (fun a b _ _ h1 h2=>by omega) (List.pairwise_iff_getElem.2 fun i j _ hj hij=>hs i j hij hj) (srt_pw xs) (hp.trans (srt_perm xs).symm)
structure Ins (xs L:List Int) (i k:Nat):Prop where
  perm:L.Perm xs
  le:k≤i
  ord:∀ a b,(h1:a<b)→b≤i→(hb:b<L.length)→a≠k→b≠k→L[a]'(by omega)≤L[b]
  low:∀ b,(h1:k<b)→b≤i→(hb:b<L.length)→L[k]'(by omega)<L[b]
structure Srd (xs L:List Int) (i:Nat):Prop where
  perm:L.Perm xs
  ord:∀ a b,(h1:a<b)→b<i→(hb:b<L.length)→L[a]'(by omega)≤L[b]
theorem Srd.one (xs:List Int):Srd xs xs 1:=⟨List.Perm.refl _,fun a b h1 h2 _=>by omega⟩
theorem Ins.out {xs L:List Int} {i k:Nat} (h:Ins xs L i k) (hi:i<L.length) (hk:0<k→L[k-1]'(by have:=h.le;omega)≤L[k]'(by have:=h.le;omega)):Srd xs L (i+1):=by
  have hle:=h.le
  refine ⟨h.perm,fun a b h1 h2 hb => ?_⟩
  by_cases ea:a=k
  · subst ea;exact Int.le_of_lt (h.low b h1 (by omega) hb)
  by_cases eb:b=k
  · subst eb
    have h3:=hk (by omega)
    by_cases e:a=b-1
    · subst e;exact h3
    exact Int.le_trans (h.ord a (b-1) (by omega) (by omega) (by omega) ea (by omega)) h3
  exact h.ord a b h1 (by omega) hb ea eb
def swp (L:List Int) (k:Nat):List Int:=(L.set (k-1) (L.getD k 0)).set k (L.getD (k-1) 0)
theorem swp_at {L:List Int} {k j:Nat} (hk:0<k) (hj:j<(swp L k).length) (hkl:k<L.length):(swp L k)[j]=if j=k then L[k-1] else if j=k-1 then L[k] else L[j]'(by simpa [swp] using hj):=by
  show ((L.set (k-1) (L.getD k 0)).set k (L.getD (k-1) 0))[j]'(by simpa [swp] using hj)=_
  rw [List.getElem_set,List.getElem_set]
  by_cases e:k=j
  · subst e;simp [List.getD_eq_getElem?_getD,List.getElem?_eq_getElem (show k-1<L.length by omega)]
  rw [if_neg e,if_neg (Ne.symm e)]
  by_cases e2:k-1=j
  · rw [if_pos e2,if_pos e2.symm];simp [List.getD_eq_getElem?_getD,List.getElem?_eq_getElem hkl]
  rw [if_neg e2,if_neg (Ne.symm e2)]
theorem swp_perm {L:List Int} {k:Nat} (hkl:k<L.length):(swp L k).Perm L:=by
  have h1:k-1<L.length:=by omega
  have:=List.set_set_perm h1 hkl
  unfold swp
  rw [List.getD_eq_getElem?_getD,List.getD_eq_getElem?_getD,List.getElem?_eq_getElem hkl,List.getElem?_eq_getElem h1]
  exact this
theorem Ins.step {xs L:List Int} {i k:Nat} (h:Ins xs L i k) (hi:i<L.length) (hk:0<k) (hgt:L[k]'(by have:=h.le;omega)<L[k-1]'(by have:=h.le;omega)):Ins xs (swp L k) i (k-1):=by
  have hle:=h.le
  have hkl:k<L.length:=by omega
  refine ⟨(swp_perm hkl).trans h.perm,by omega,fun a b h1 h2 hb ha hb' => ?_,fun b h1 h2 hb => ?_⟩
  · have hb2:b<L.length:=by simpa [swp] using hb
    rw [swp_at hk _ hkl,swp_at hk _ hkl]
    by_cases eb:b=k
    · rw [if_neg (by omega),if_neg ha,if_pos eb]
      exact h.ord a (k-1) (by omega) (by omega) (by omega) (by omega) (by omega)
    rw [if_neg eb,if_neg hb']
    by_cases ea:a=k
    · rw [if_pos ea]
      exact h.ord (k-1) b (by omega) h2 hb2 (by omega) eb
    rw [if_neg ea,if_neg ha]
    exact h.ord a b h1 h2 hb2 ea eb
  have hb2:b<L.length:=by simpa [swp] using hb
  rw [swp_at hk _ hkl,swp_at hk _ hkl]
  rw [if_neg (by omega),if_pos rfl]
  by_cases eb:b=k
  · rw [if_pos eb];exact hgt
  rw [if_neg eb,if_neg (by omega)]
  exact h.low b (by omega) h2 hb2
theorem Srd.eq {xs L:List Int} {i:Nat} (h:Srd xs L i) (hi:L.length≤i):L=srt xs:=srt_eq h.perm fun a b h1 hb=>h.ord a b h1 (by omega) hb
end Ct
abbrev Rw:=List Int × Int
def IsRows (lo:Nat) (w:World) (v:Value) (rs:List Rw):Prop :=
  ∃ (a:Option Addr) (cap:Nat),v = .slice a rs.length cap∧rs.length≤cap∧cap≤maxLen ∧
    (rs=[]∨∃ b off,a=some ⟨b,off,none⟩∧lo≤b∧b<w.heap.size ∧
      ∀ i (hi:i<rs.length),∃ sv,w.cell? ⟨b,off+i*2,none⟩=some sv∧w.cell? ⟨b,off+i*2+1,none⟩=some (.int .i64 rs[i].2)∧IsInts lo w sv rs[i].1∧I64 rs[i].2)
theorem IsRows.below {lo:Nat} {w w':World} {v:Value} {rs:List Rw} (h:IsRows lo w v rs) (hb:Below w.heap.size w w'):IsRows lo w' v rs:=by
  obtain ⟨a,cap,hv,hl,hm,hc⟩:=h
  refine ⟨a,cap,hv,hl,hm,?_⟩
  rcases hc with hc | ⟨b,off,ha,hlo,hbk,hcell⟩
  · exact .inl hc
  refine .inr ⟨b,off,ha,hlo,Nat.lt_of_lt_of_le hbk hb.size,fun i hi => ?_⟩
  obtain ⟨sv,h1,h2,h3,h4⟩:=hcell i hi
  exact ⟨sv,(hb.cell (p:=⟨b,off+i*2,none⟩) hbk).trans h1,(hb.cell (p:=⟨b,off+i*2+1,none⟩) hbk).trans h2,h3.below hb,h4⟩
theorem IsRows.mono {lo lo':Nat} {w:World} {v:Value} {rs:List Rw} (h:IsRows lo w v rs) (hl:lo'≤lo):IsRows lo' w v rs:=by
  obtain ⟨a,cap,hv,h1,hm,hc⟩:=h
  refine ⟨a,cap,hv,h1,hm,?_⟩
  rcases hc with hc | ⟨b,off,ha,hlo,hbk,r⟩
  · exact .inl hc
  exact .inr ⟨b,off,ha,Nat.le_trans hl hlo,hbk,fun i hi=>by obtain ⟨sv,h1,h2,h3,h4⟩:=r i hi;exact ⟨sv,h1,h2,h3.mono hl,h4⟩⟩
theorem IsRows.shape {lo:Nat} {w:World} {v:Value} {rs:List Rw} (h:IsRows lo w v rs):∃ a cap,v = .slice a rs.length cap:=by
  obtain ⟨a,cap,hv,_⟩:=h
  exact ⟨a,cap,hv⟩
theorem IsRows.bound {lo:Nat} {w:World} {v:Value} {rs:List Rw} (h:IsRows lo w v rs):rs.length≤9223372036854775807:=by
  obtain ⟨a,cap,_,h1,hm,_⟩:=h
  unfold maxLen at hm;omega
theorem IsRows.at {lo:Nat} {w:World} {a:Option Addr} {n cap:Nat} {rs:List Rw} (h:IsRows lo w (.slice a n cap) rs) (k:Nat) (hk:k<rs.length) :
    ∃ b off sv,a=some ⟨b,off,none⟩∧b<w.heap.size∧w.cell? ⟨b,off+k*2,none⟩=some sv∧w.cell? ⟨b,off+k*2+1,none⟩=some (.int .i64 rs[k].2)∧IsInts lo w sv rs[k].1∧I64 rs[k].2:=by
  obtain ⟨a',cap',hv,_,_,hc⟩:=h
  simp only [Value.slice.injEq] at hv
  rcases hc with rfl | ⟨b,off,ha,_,hb,hc⟩
  · simp at hk
  obtain ⟨sv,h1,h2,h3,h4⟩:=hc k hk
  exact ⟨b,off,sv,hv.1.trans ha,hb,h1,h2,h3,h4⟩
structure Pq where
  nm:ByteArray
  kind:Int
  start:List Int
  bad:List Rw
  adj:List Int
  goal:List Int
def IsProp (lo:Nat) (w:World) (v:Value) (q:Pq):Prop :=
  ∃ v2 v3 v4 v5,v = .agg #[.string q.nm,.int .i64 q.kind,v2,v3,v4,v5]∧IsInts lo w v2 q.start∧IsRows lo w v3 q.bad∧IsInts lo w v4 q.adj∧IsInts lo w v5 q.goal∧q.nm.size≤maxLen∧I64 q.kind
theorem IsProp.below {lo:Nat} {w w':World} {v:Value} {q:Pq} (h:IsProp lo w v q) (hb:Below w.heap.size w w'):IsProp lo w' v q:=by
  obtain ⟨v2,v3,v4,v5,e,h2,h3,h4,h5,h6⟩:=h
  exact ⟨v2,v3,v4,v5,e,h2.below hb,h3.below hb,h4.below hb,h5.below hb,h6⟩
theorem IsProp.mono {lo lo':Nat} {w:World} {v:Value} {q:Pq} (h:IsProp lo w v q) (hl:lo'≤lo):IsProp lo' w v q:=by
  obtain ⟨v2,v3,v4,v5,e,h2,h3,h4,h5,h6⟩:=h
  exact ⟨v2,v3,v4,v5,e,h2.mono hl,h3.mono hl,h4.mono hl,h5.mono hl,h6⟩
end Go.Proofs.Ytengacodacejiaa
namespace Go.Proofs.Ytengacodacejiaa
open Go.RowKit Go.Deep Go.ChangeShapes Go.WideShapes Go.ChangeAt Go.Joins
section
variable {H:Type} {enc:TypeId × Value→H} {w:World} {base:Nat} {sp:Nat→Bool} {held:Bool}
end
end Go.Proofs.Ytengacodacejiaa
namespace Go.Proofs.Ytengacodacejiaa
open Go.RowKit Go.Deep
end Go.Proofs.Ytengacodacejiaa
namespace Go.Proofs.Ytengacodacejiaa
open Go.RowKit Go.Deep Go.ChangeShapes Go.WideShapes Go.ChangeAt Go.Joins
def RwEl (lo:Nat) (w:World) (cs:List Value) (r:Rw):Prop:=∃ v,cs=[v,.int .i64 r.2]∧IsInts lo w v r.1∧I64 r.2
def IsPropX (lo:Nat) (w:World) (v:Value) (q:Pq):Prop :=
  ∃ v2 v3 v4 v5,v = .agg #[.string q.nm,.int .i64 q.kind,v2,v3,v4,v5]∧IsInts lo w v2 q.start∧IsSl 2 RwEl lo w v3 q.bad∧IsInts lo w v4 q.adj∧IsInts lo w v5 q.goal∧q.nm.size≤maxLen∧I64 q.kind
section
variable {H:Type} {enc:TypeId × Value→H} {w:World} {base:Nat} {sp:Nat→Bool} {held:Bool}
end
structure PqOk (q:Pq):Prop where
  nm:q.nm.size≤maxLen
  kind:I64 q.kind
  start:InOk q.start
  bad:∀ r∈q.bad,InOk r.1∧I64 r.2∧r.1.length≤9223372036854775807
  adj:InOk q.adj
  goal:InOk q.goal
  lstart:q.start.length≤9223372036854775807
  lbad:q.bad.length≤9223372036854775807
  ladj:q.adj.length≤9223372036854775807
  lgoal:q.goal.length≤9223372036854775807
theorem IsPropX.ok {lo:Nat} {w:World} {v:Value} {q:Pq} (h:IsPropX lo w v q):PqOk q:=by
  obtain ⟨v2,v3,v4,v5,_,h2,h3,h4,h5,h6,h7⟩:=h
  exact ⟨h6,h7,h2.ok,h3.all fun cs r hr=>by obtain ⟨v,_,a,b⟩:=hr;exact ⟨a.ok,b,a.len⟩,h4.ok,h5.ok,h2.len,h3.bound,h4.len,h5.len⟩
section
variable {F ok:Nat→Prop} {lo:Nat} {w:World}
end
section
variable {J:World→Prop}
end
end Go.Proofs.Ytengacodacejiaa
namespace Go.Proofs.Ytengacodacejiaa
open Go.RowKit Go.Deep
def noI (xs:List Int) (x:Int) (k:Nat):Prop:=∀ j (h:j<xs.length),j<k→xs[j]≠x
theorem noI_zero (xs:List Int) (x:Int):noI xs x 0:=fun _ _ h=>absurd h (by omega)
theorem noI_succ {xs:List Int} {x:Int} {k:Nat} (hk:k<xs.length) (h:noI xs x k) (e:¬ x=xs[k]):noI xs x (k+1):=fun j hj h'=>by
  by_cases c:j=k
  · subst c;exact fun h=>e h.symm
  exact h j hj (by omega)
def idxI (xs:List Int) (x:Int):Int:=if x∈xs then ((xs.findIdx (· == x):Nat):Int) else -1
theorem idx_yes {xs:List Int} {x:Int} {k:Nat} (hk:k<xs.length) (h:noI xs x k) (e:x=xs[k]):((k:Nat):Int)=idxI xs x:=by
  have hm:x∈xs:=by rw [e];exact List.getElem_mem hk
  have:xs.findIdx (· == x)=k:=(List.findIdx_eq hk).2 ⟨by simp [← e],fun j hj=>by simpa using h j (by omega) hj⟩
  unfold idxI;rw [if_pos hm,this]
theorem has_no {xs:List Int} {x:Int} {k:Nat} (hk:¬ k<xs.length) (h:noI xs x k):decide (x∈xs)=false:=by
  rw [decide_eq_false_iff_not];intro hm
  obtain ⟨j,hj,e⟩:=List.getElem_of_mem hm
  exact h j hj (by omega) e
theorem idx_no {xs:List Int} {x:Int} {k:Nat} (hk:¬ k<xs.length) (h:noI xs x k):(-1:Int)=idxI xs x:=by
  have:=has_no hk h
  unfold idxI;rw [if_neg (by simpa using this)]
theorem idx_has (xs:List Int) (x:Int):decide (0≤idxI xs x)=decide (x∈xs):=by
  unfold idxI
  by_cases h:x∈xs
  · rw [if_pos h];simp [h]
  rw [if_neg h];simp [h]
def cntE (n:Nat) (c:Rw):Int:=if setE n c.1=0 then (if ((c.1.length:Nat):Int)=0 then 1 else if inB 1 3 c.2=true then 0 else 1) else setE n c.1
namespace Jd
def lkF (top:Int) (sh:List Int) (n i:Nat):Int:=if top=4 then (trun sh sh.length).fi i else (rowL top n i).1
def lkS (top:Int) (sh:List Int) (n i:Nat):Int:=if top=4 then (trun sh sh.length).se i else (rowL top n i).2.1
section
variable {top x y:Int} {xs:List Int} {F S:Nat→Int} {k:Nat}
end
def cP (xs l:List Int):Nat:=xs.countP fun x=>decide (x∈l)
def upB (xs:List Int) (bad:List Rw) (k:Nat):Prop:=∀ i (h:i<bad.length),i<k→bad[i].2≤((cP xs bad[i].1:Nat):Int)
theorem upB_zero (xs:List Int) (bad:List Rw):upB xs bad 0:=fun _ _ h=>absurd h (by omega)
theorem upB_succ {xs:List Int} {bad:List Rw} {k:Nat} (hk:k<bad.length) (h:upB xs bad k) (e:¬ ((cP xs bad[k].1:Nat):Int)<bad[k].2):upB xs bad (k+1):=fun i hi h'=>by
  by_cases c:i=k
  · subst c;omega
  exact h i hi (by omega)
def lkC (top:Int) (sh:List Int) (n:Nat) (j:Nat):Int:=if j % 3=0 then lkF top sh n (j / 3) else if j % 3=1 then lkS top sh n (j / 3) else if top=4 then (trun sh sh.length).pa (j / 3) else (rowL top n (j / 3)).2.2
def lkA (top:Int) (sh:List Int) (n:Nat):AV := .sl 3 n ((List.range (n*3)).map fun j=>iv (lkC top sh n j))
theorem lkC_F {top:Int} {sh:List Int} {n i:Nat}:lkC top sh n (i*3)=lkF top sh n i:=by unfold lkC;rw [if_pos (by omega)];congr 1;omega
theorem lkC_S {top:Int} {sh:List Int} {n i:Nat}:lkC top sh n (i*3+1)=lkS top sh n i:=by unfold lkC;rw [if_neg (by omega),if_pos (by omega)];congr 1;omega
theorem lkA_tree {sh:List Int}:Ns.lkT sh=lkA 4 sh sh.length:=by
  unfold Ns.lkT lkA
  congr 1
theorem lkZ_row {top:Int} {sh:List Int} {n:Nat} (ht:¬ top=4):Ns.lkZ top n n=(List.range (n*3)).map fun j=>iv (lkC top sh n j):=by
  unfold Ns.lkZ
  rw [Nat.sub_self,List.replicate_zero,List.flatten_nil,List.append_nil]
  have key:∀ k,(List.range k).flatMap (fun i:Nat=>Ns.lk3 top n i)=(List.range (k*3)).map fun j=>iv (lkC top sh n j):=by
    intro k
    induction k with
    | zero=>rfl
    | succ k ih =>
      rw [List.range_succ,List.flatMap_append,ih,show (k+1)*3=k*3+1+1+1 by omega,List.range_succ,List.range_succ,List.range_succ,List.map_append,List.map_append,List.map_append]
      have e1:lkC top sh n (k*3)=(rowL top n k).1:=by rw [lkC_F];exact if_neg ht
      have e2:lkC top sh n (k*3+1)=(rowL top n k).2.1:=by rw [lkC_S];exact if_neg ht
      have e3:lkC top sh n (k*3+1+1)=(rowL top n k).2.2:=by
        unfold lkC
        rw [if_neg (by omega),if_neg (by omega),if_neg ht]
        congr 3;omega
      simp only [List.map_cons,List.map_nil,e1,e2,e3,List.flatMap_cons,List.flatMap_nil,List.append_nil,Ns.lk3,List.append_assoc,List.cons_append,List.nil_append]
  exact key n
def LkOk (top:Int) (sh:List Int) (n:Nat):Prop:=∀ i,i<n→lkF top sh n i<n∧lkS top sh n i<n
theorem lk_tree {sh:List Int} (h:shp sh=true):LkOk 4 sh sh.length:=fun i hi=>by
  have T:=(tree_ok sh h).1
  unfold lkF lkS
  rw [if_pos rfl,if_pos rfl]
  have h1:=T.fst i hi
  have h2:=T.snd i hi
  constructor
  · rcases h1 with e | ⟨j,hj,e,_⟩<;>omega
  rcases h2 with e | ⟨j,hj,e,_⟩<;>omega
theorem lk_row {top:Int} {sh:List Int} {n:Nat} (h:top=2∨top=3):LkOk top sh n:=fun i hi=>by
  unfold lkF lkS
  rw [if_neg (by omega),if_neg (by omega)]
  unfold rowL
  dsimp only
  constructor<;>(repeat' split)<;>omega
theorem top_in {p:Fm} (h:valE p=0):1≤p.top∧p.top≤4:=by
  unfold valE at h
  split at h
  · cases h
  split at h
  · cases h
  rename_i _ h2
  have:inB 1 4 p.top=true:=by
    cases e:inB 1 4 p.top with
    | true=>rfl
    | false=>exact absurd (.inl e) h2
  unfold inB at this
  simp at this
  omega
end Jd
end Go.Proofs.Ytengacodacejiaa
namespace Go.Proofs.Ytengacodacejiaa
namespace Tr
theorem lack_pos (f:Nat→Int) (p:Nat):1≤lack f p:=by unfold lack;split<;>omega
end Tr
end Go.Proofs.Ytengacodacejiaa
namespace Go.Proofs.Ytengacodacejiaa
open Go.RowKit Go.Deep
variable {J:World→Prop}
namespace En
def gbV (r:Ru) (n t f:Int) (k:Nat):Int:=evN (r.guards.getD k default).bd.c (r.guards.getD k default).bd.n (r.guards.getD k default).bd.t (r.guards.getD k default).bd.f n t f
def bdAt (p:Fm) (n t f:Int) (i k:Nat):Int:=if i<p.rules.length∧k<(p.rules.getD i default).guards.length then gbV (p.rules.getD i default) n t f k else 0
def bdP (p:Fm) (n t f:Int) (R K q:Nat):Int:=if q / 2<R∨(q / 2=R∧q % 2<K) then bdAt p n t f (q / 2) (q % 2) else 0
def shS (top:Int) (c:Nat):List (List Int):=if top=4 then Sh.shX ((c:Nat):Int) else if top=2∨top=3 then [[]] else []
def cLkS (top:Int) (c:Nat) (sh:List Int):List AV:=[Jd.lkA top sh c]
def lkS (top:Int) (c:Nat):AV:=slA 1 (cLkS top c) (shS top c)
def sysB (p:Fm) (n t f:Int) (R K:Nat) (sh li:AV):List AV:=midF (cFm p++[iv n,iv t,iv f,iv (Ns.cntE p n f),iv (n-f)]) 16 (fun q=>iv (bdP p n t f R K q)) [sh,li]
def sysP (p:Fm) (n t f:Int):List AV:=sysB p n t f p.rules.length 0 (slA 1 cLi (Ns.shT p.top (Ns.cntE p n f))) (lkS p.top (Ns.cntE p n f).toNat)
theorem sysB_len {p:Fm} {n t f:Int} {R K:Nat} {sh li:AV}:(sysB p n t f R K sh li).length=33:=by
  unfold sysB
  rw [midF_len];rfl
theorem sysB_step {p:Fm} {n t f:Int} {R K:Nat} {sh li:AV} {x:Int} (hR:R<p.rules.length) (h8:p.rules.length≤8) (hK:K<p.rules[R].guards.length) (h2:p.rules[R].guards.length≤2)
    (hx:x=evN p.rules[R].guards[K].bd.c p.rules[R].guards[K].bd.n p.rules[R].guards[K].bd.t p.rules[R].guards[K].bd.f n t f):setAll (sysB p n t f R K sh li) (15+R*2+K*1) [iv x]=sysB p n t f R (K+1) sh li:=by
  have d1:(2*R+K) / 2=R:=by omega
  have d2:(2*R+K) % 2=K:=by omega
  have e1:p.rules.getD R default=p.rules[R]:=by rw [List.getD_eq_getElem?_getD,List.getElem?_eq_getElem hR];rfl
  have e2:p.rules[R].guards.getD K default=p.rules[R].guards[K]:=by rw [List.getD_eq_getElem?_getD,List.getElem?_eq_getElem hK];rfl
  refine midF_set (i:=2*R+K) (by omega) (by show 15+(2*R+K)=_;omega) ?_ fun j hj hne => ?_
  · congr 2
    unfold bdP
    rw [d1,d2,if_pos (.inr ⟨rfl,by omega⟩)]
    unfold bdAt
    rw [e1,if_pos ⟨hR,hK⟩,hx]
    unfold gbV
    rw [e2]
  refine congrArg iv ?_
  unfold bdP
  by_cases c:j / 2<R∨(j / 2=R∧j % 2<K)
  · rw [if_pos c,if_pos (by omega)]
  rw [if_neg c,if_neg (by omega)]
theorem sysB_row {p:Fm} {n t f:Int} {R K:Nat} {sh li:AV} (hR:R<p.rules.length) (hK:¬ K<p.rules[R].guards.length):sysB p n t f (R+1) 0 sh li=sysB p n t f R K sh li:=by
  have e1:p.rules.getD R default=p.rules[R]:=by rw [List.getD_eq_getElem?_getD,List.getElem?_eq_getElem hR];rfl
  refine midF_congr fun j hj=>congrArg iv ?_
  unfold bdP
  by_cases c:j / 2<R∨(j / 2=R∧j % 2<K)
  · rw [if_pos c,if_pos (by omega)]
  rw [if_neg c]
  by_cases d:j / 2=R
  · rw [if_pos (by omega),d]
    unfold bdAt
    rw [e1,if_neg (by omega)]
  rw [if_neg (by omega)]
theorem sysP_bd {p:Fm} {n t f:Int} {R K:Nat} {sh li:AV} (hR:R<p.rules.length) (h8:p.rules.length≤8) (hK:K<p.rules[R].guards.length) (h2:p.rules[R].guards.length≤2) :
    (sysB p n t f p.rules.length 0 sh li)[15+R*2+K*1]? = some (iv (gbV p.rules[R] n t f K)):=by
  have e1:p.rules.getD R default=p.rules[R]:=by rw [List.getD_eq_getElem?_getD,List.getElem?_eq_getElem hR];rfl
  have d1:(2*R+K) / 2=R:=by omega
  have d2:(2*R+K) % 2=K:=by omega
  refine (midF_get (i:=2*R+K) (by omega) (by show 15+(2*R+K)=_;omega)).trans ?_
  congr 2
  unfold bdP
  rw [d1,d2,if_pos (.inl hR)]
  unfold bdAt
  rw [e1,if_pos ⟨hR,hK⟩]
theorem plain_lkA (top:Int) (sh:List Int) (c:Nat):Plain (Jd.lkA top sh c) := .sl (Z6 fun X hX=>by obtain ⟨j,_,rfl⟩:=List.mem_map.1 hX;exact .v _)
theorem plain_lkS (top:Int) (c:Nat):Plain (lkS top c):=plain_sl (fun sh X hX=>by
  unfold cLkS at hX
  rw [List.mem_singleton.1 hX];exact plain_lkA _ _ _) _
theorem plain_sysB (p:Fm) (n t f:Int) (R K:Nat) {sh li:AV} (h1:Plain sh) (h2:Plain li):∀ X∈sysB p n t f R K sh li,Plain X:=by
  intro X hX
  unfold sysB midF at hX
  rcases List.mem_append.1 hX with h | h
  · rcases List.mem_append.1 h with h | h
    · exact YN p X h
    simp only [List.mem_cons,List.not_mem_nil,or_false] at h
    rcases h with rfl | rfl | rfl | rfl | rfl<;>exact .v _
  rcases List.mem_append.1 h with h | h
  · obtain ⟨j,_,rfl⟩:=List.mem_map.1 h;exact .v _
  simp only [List.mem_cons,List.not_mem_nil,or_false] at h
  rcases h with rfl | rfl
  · exact h1
  exact h2
theorem plain_sysP (p:Fm) (n t f:Int):∀ X∈sysP p n t f,Plain X:=plain_sysB p n t f _ _ (plain_sl plain_li _) (plain_lkS _ _)
theorem shX_is {c:Nat}:∀ xs∈Sh.shX ((c:Nat):Int),xs.length=c∧shp xs=true:=by
  unfold Sh.shX
  split
  · intro xs h;cases h
  split
  · intro xs h;cases h
  rename_i h1 h2
  rw [Int.toNat_natCast]
  obtain rfl | rfl | rfl | rfl:c=1∨c=3∨c=5∨c=7:=by omega
  all_goals decide +kernel
theorem lkS_tree {c:Nat}:slA 1 Ns.cLk (Sh.shX ((c:Nat):Int))=lkS 4 c:=by
  unfold lkS shS
  rw [if_pos rfl]
  unfold slA
  congr 1
  rw [List.flatMap_def,List.flatMap_def]
  refine congrArg List.flatten (List.map_congr_left fun sh hsh => ?_)
  unfold Ns.cLk cLkS
  rw [Jd.lkA_tree,(shX_is sh hsh).1]
theorem lkS_row {top:Int} {c:Nat} (h:top=2∨top=3):AV.sl 1 1 [.sl 3 c (Ns.lkZ top c c)]=lkS top c:=by
  unfold lkS shS
  rw [if_neg (by omega),if_pos h,Jd.lkZ_row (sh:=[]) (by omega)]
  rfl
theorem lkS_no {top:Int} {c:Nat} (h:¬ top=2) (h':¬ top=3) (h4:¬ top=4):AV.sl 1 0 []=lkS top c:=by
  unfold lkS shS
  rw [if_neg h4,if_neg (by omega)]
  rfl
end En
set_option maxHeartbeats 12800000
namespace Ns
theorem cnt_lo {p:Fm} {n f:Int} (h:1≤n∧n≤1048576∧0≤f∧f≤n):0≤cntE p n f:=by unfold cntE;split<;>omega
theorem cnt_hi {p:Fm} {n f:Int} (h:1≤n∧n≤1048576∧0≤f∧f≤n) (h8:¬ 8<n):cntE p n f≤8:=by unfold cntE;split<;>omega
theorem plain_sys (p:Fm) (n t f:Int):∀ X∈sysC p n t f,Plain X:=by
  intro X hX
  unfold sysC at hX
  rcases List.mem_append.1 hX with h | h
  · exact YN p X h
  simp only [List.mem_cons,List.not_mem_nil,or_false] at h
  rcases h with rfl | rfl | rfl | rfl | rfl | rfl | rfl | rfl | rfl | rfl | rfl | rfl | rfl | rfl | rfl | rfl | rfl | rfl | rfl | rfl | rfl | rfl | rfl<;>first | exact .v _ | exact .any | exact .any _ | exact plain_sl plain_li _
theorem plain_mask {m:List Bool} {c0:List AV} (h:∀ xs,(maskC m xs c0).all AV.isV=true):∀ xs,∀ X∈maskC m xs c0,Plain X:=fun xs X hX=>by
  have:=List.all_eq_true.1 (h xs) X hX
  cases X<;>first | exact .v _ | cases this
theorem pw1 {k o:Nat}:∀ X∈[AV.box k o],PlainW X:=fun X hX=>by
  rw [List.mem_singleton] at hX;rw [hX];exact .box _ _
end Ns
set_option maxRecDepth 100000 in
theorem newSystem_err {p:Fm} (HP:FmOk p) {n t f:Int} (hs:¬ Ns.sysE p n t f=0):CtrA Try.prog J 40 [.agg (cFm p),.agg (cSz n t f)] (.tup [.v (.pointer none),iv (Ns.sysE p n t f)]):=by
 refine ctrA_of_tri Try.func40 rfl (by intro X hX;simp only [List.mem_cons,List.not_mem_nil,or_false] at hX;rcases hX with rfl | rfl;exact Zt (YN p);exact Zt (KH n t f)) (n:=80) rfl (by simp) (fun w0 => ?_)
 refine kW 80 [] [(0,.agg (cFm p)),(1,.agg (cSz n t f))] (Zb (Za (ZQ rfl (YC (X := .agg (cFm p)) (k:=1) (.tmp 0) rfl rfl) ⟨I0,T0⟩ T0 rfl (ZQ rfl (YC (X := .agg (cSz n t f)) (k:=2) (.tmp 1) rfl rfl) ⟨I0,T0⟩ T0 rfl (pM (Ym (.const (.pointer none)) (.v (.pointer none)) rfl) (pM (aC (.int .i64 0)) (Ze (Zc (Zb (Zb (Za (oB (lS (cFm p) 10 2 U27) I0 rfl (oC (sc #[.tmp 12] [] (qValidate_c HP) [.agg (cFm p)] rfl rfl rfl) I0 I0 (pM (aT 13 (iv (valE p))) (Ze (Zc (Zb ?_)))))))))))))))))
 by_cases hs1:valE p=0
 obtain ⟨hr8,hg2⟩:=Ns.val_lims hs1
 refine Za (pM (mT 6 (iv (valE p))) (oC (Zs rfl (dT' hs1)) I0 I0 (Ze (Zc (Zo rfl (Zn (Zc (Zb (Zb ?_)))))))))
 by_cases hs2:(admB p n t f)=true
 have hai:=Ns.adm_in hs2
 refine Za (oB (lS (cFm p) 10 2 U27) I0 rfl (oB (lS (cSz n t f) 3 3 U29) I0 rfl (oD (sc #[.tmp 17,.tmp 18] [] (ZS (Ns.adm_c HP hs1) hs2) [.agg (cFm p),.agg (cSz n t f)] rfl rfl rfl) I0 I0 I0 (oA (Zq rfl rfl) I0 (Ze (Zc (Zo rfl (Zn (Zc (Zb (Zb (Za (oA (fb 0 3 U29 1) I0 (oB (lb (iv n) 21 U3) I0 rfl (oC (ZK rfl (dT (Ns.sys_big hs1 hs2 hs))) I0 I0 (Ze (Zc (Zm rfl (Zb (Za (pM (Ym (.const (.pointer none)) (.v (.pointer none)) rfl) (pM (aC (.int .i64 4)) (Ze ?_)))))))))))))))))))))))
 refine Zc (Zk (Zh ?_))
 refine tri_endA2 [(1,.box 27 (cFm p)),(2,.box 29 (cSz n t f))] Try.results40 (.tmp rfl) (.tmp rfl) (by kernel_rfl) rfl rfl rfl ?_ ?_ ?_
 · exact .v _
 · exact .v _
 · rw [Ns.sys_e3 hs1 hs2 (Ns.sys_big hs1 hs2 hs)];rfl
 have hs2f:(admB p n t f)=false:=by simpa using hs2
 refine Za (oB (lS (cFm p) 10 2 U27) I0 rfl (oB (lS (cSz n t f) 3 3 U29) I0 rfl (oD (sc #[.tmp 17,.tmp 18] [] (ZS (Ns.adm_c HP hs1) hs2f) [.agg (cFm p),.agg (cSz n t f)] rfl rfl rfl) I0 I0 I0 (oA (Zq rfl rfl) I0 (Ze (Zc (Zm rfl (Zb (Za (pM (Ym (.const (.pointer none)) (.v (.pointer none)) rfl) (pM (aC (.int .i64 8)) (Ze (Zc (Zk (Zh ?_)))))))))))))))
 refine tri_endA2 [(1,.box 27 (cFm p)),(2,.box 29 (cSz n t f))] Try.results40 (.tmp rfl) (.tmp rfl) (by kernel_rfl) rfl rfl rfl ?_ ?_ ?_
 · exact .v _
 · exact .v _
 · rw [Ns.sys_e2 hs1 hs2f];rfl
 refine Za (pM (mT 6 (iv (valE p))) (oC (Zs rfl (dF' hs1)) I0 I0 (Ze (Zc (Zm rfl (Zb (Za (pM (mT 6 (iv (valE p))) (pM (Ym (.const (.pointer none)) (.v (.pointer none)) rfl) (pM (aT 16 (iv (valE p))) (Ze (Zc (Zk (Zh ?_))))))))))))))
 refine tri_endA2 [(1,.box 27 (cFm p)),(2,.box 29 (cSz n t f))] Try.results40 (.tmp rfl) (.tmp rfl) (by kernel_rfl) rfl rfl rfl ?_ ?_ ?_
 · exact .v _
 · exact .v _
 rw [Ns.sys_e1 hs1];rfl
set_option maxRecDepth 100000 in
theorem En.place_x {top:Int} {c:Nat} (hc:c≤8) (xs:Nat→Value):CtrW Try.prog J 62 [.box 1000000 0] 1000000 (.box 111 [.v (xs 0),iv top,.v (xs 2),.v (xs 3),.v (xs 4),.v (xs 5),.v (xs 6),.v (xs 7),.v (xs 8),.v (xs 9),.v (xs 10),.v (xs 11),.v (xs 12),iv c,.v (xs 14),.v (xs 15),.v (xs 16),.v (xs 17),.v (xs 18),.v (xs 19),.v (xs 20),.v (xs 21),.v (xs 22),.v (xs 23),.v (xs 24),.v (xs 25),.v (xs 26),.v (xs 27),.v (xs 28),.v (xs 29),.v (xs 30),.v (.slice none 0 0),.v (.slice none 0 0)]) (.box 111 [.v (xs 0),iv top,.v (xs 2),.v (xs 3),.v (xs 4),.v (xs 5),.v (xs 6),.v (xs 7),.v (xs 8),.v (xs 9),.v (xs 10),.v (xs 11),.v (xs 12),iv c,.v (xs 14),.v (xs 15),.v (xs 16),.v (xs 17),.v (xs 18),.v (xs 19),.v (xs 20),.v (xs 21),.v (xs 22),.v (xs 23),.v (xs 24),.v (xs 25),.v (xs 26),.v (xs 27),.v (xs 28),.v (xs 29),.v (xs 30),.fr (slA 1 cLi (Ns.shT top ((c:Nat):Int))),.fr ((En.lkS top c))]) (.v (.tuple #[])):=by
 have hsh:=Sh_pos (c:=c)
 have hsl:=Sh.shX_len ((c:Nat):Int)
 refine ctrW_of_tri (by decide) Try.func62 rfl (n:=64) rfl (by simp) (fun w0 => ?_)
 refine kW 64 [(1000000,.box 111 [.v (xs 0),iv top,.v (xs 2),.v (xs 3),.v (xs 4),.v (xs 5),.v (xs 6),.v (xs 7),.v (xs 8),.v (xs 9),.v (xs 10),.v (xs 11),.v (xs 12),iv c,.v (xs 14),.v (xs 15),.v (xs 16),.v (xs 17),.v (xs 18),.v (xs 19),.v (xs 20),.v (xs 21),.v (xs 22),.v (xs 23),.v (xs 24),.v (xs 25),.v (xs 26),.v (xs 27),.v (xs 28),.v (xs 29),.v (xs 30),.v (.slice none 0 0),.v (.slice none 0 0)])] [(0,.box 1000000 0)] (Zb (Za (pM (mT 0 (.box 1000000 0)) (oA (Yl (off:=0) (.tmp 4) rfl) I0 (oA (fb 0 5 U111 10) I0 (oA (fb 1 6 U27 1) I0 (oB (lb (iv top) 7 U3) I0 rfl (Ze (Zc (ZE (Zb (Zb ?_))))))))))))
 by_cases hs1:top=2
 refine Za (oC (Zp rfl (dT hs1)) I0 I0 (pM (aT 10 bT) (Ze (Zc (Zm rfl (Zn (Zc (Zm rfl ?_))))))))
 refine Zu (dM (mT 0 (.box 1000000 0)) (dM (mT 0 (.box 1000000 0)) (dA (Yl (off:=0) (.tmp 13) rfl) I0 (dA (fb 0 14 U111 10) I0 (dA (fb 1 15 U27 1) I0 (dB (lb (iv top) 16 U3) I0 rfl (dM (mT 0 (.box 1000000 0)) (dA (Yl (off:=0) (.tmp 18) rfl) I0 (dA (fb 13 19 U111 1) I0 (dB (lb (iv c) 20 U3) I0 rfl (dR (sc #[.tmp 17,.const (.slice none 0 0),.tmp 21] [] (linksOf_row (.inl hs1) hc) [iv top,.v (.slice none 0 0),iv c] rfl rfl rfl) ⟨I0,I0,I0,I0,T0⟩ T0 T0 (dR (sp_build (z:=1) (k:=1) (fr:=true) (cs:=[.sl 3 c (Ns.lkZ top c c)]) [.tmp 22] [.fr (.sl 3 c (Ns.lkZ top c c))] rfl U109 (by kernel_rfl) (by decide) (by decide) rfl rfl rfl (by kernel_rfl) (by decide) (fun _=>by simp [AV.cellsOf,AV.isNew,cLn,cTh]) (by kernel_rfl)) ⟨I0,T0⟩ T0 rfl (dA (Yl (off:=0) (.tmp 12) rfl) I0 (dA (fb 32 24 U111 1) I0 (dR (sB 1 25 (.tmp 23) (.own 1)) ⟨I0,I0,T0⟩ ⟨rfl,T0⟩ rfl (dE ?_)))))))))))))))) (by kernel_rfl)
 show ETri J w0 _ _ _
 refine kW 64 [(1,.row true 99 1 1 ([.sl 3 c (Ns.lkZ top c c)])),(1000000,.box 111 [.v (xs 0),iv top,.v (xs 2),.v (xs 3),.v (xs 4),.v (xs 5),.v (xs 6),.v (xs 7),.v (xs 8),.v (xs 9),.v (xs 10),.v (xs 11),.v (xs 12),iv c,.v (xs 14),.v (xs 15),.v (xs 16),.v (xs 17),.v (xs 18),.v (xs 19),.v (xs 20),.v (xs 21),.v (xs 22),.v (xs 23),.v (xs 24),.v (xs 25),.v (xs 26),.v (xs 27),.v (xs 28),.v (xs 29),.v (xs 30),.v (.slice none 0 0),.own 1])] [] (ZX ?_)
 refine Km ?_
 rw [Ns.shT_no (n:=((c:Nat):Int)) (by omega),← En.lkS_row (c:=c) (top:=top) (by omega)]
 refine kW 64 [(1000000,.box 111 [.v (xs 0),iv top,.v (xs 2),.v (xs 3),.v (xs 4),.v (xs 5),.v (xs 6),.v (xs 7),.v (xs 8),.v (xs 9),.v (xs 10),.v (xs 11),.v (xs 12),iv c,.v (xs 14),.v (xs 15),.v (xs 16),.v (xs 17),.v (xs 18),.v (xs 19),.v (xs 20),.v (xs 21),.v (xs 22),.v (xs 23),.v (xs 24),.v (xs 25),.v (xs 26),.v (xs 27),.v (xs 28),.v (xs 29),.v (xs 30),.v (.slice none 0 0),.fr ((.sl 1 1 [.sl 3 c (Ns.lkZ top c c)]))])] [] ?_
 refine tri_wk (wk_anyN 1000000 1 [0,0,0,0,0,0,0,0,0,0,0,0,0,0,0,0,0,0,0,0,0,0,0,0,0,0,0,0,0,0,0,2,0] rfl (ds:=[.v (xs 0),iv top,.v (xs 2),.v (xs 3),.v (xs 4),.v (xs 5),.v (xs 6),.v (xs 7),.v (xs 8),.v (xs 9),.v (xs 10),.v (xs 11),.v (xs 12),iv c,.v (xs 14),.v (xs 15),.v (xs 16),.v (xs 17),.v (xs 18),.v (xs 19),.v (xs 20),.v (xs 21),.v (xs 22),.v (xs 23),.v (xs 24),.v (xs 25),.v (xs 26),.v (xs 27),.v (xs 28),.v (xs 29),.v (xs 30),.fr (.sl 1 0 []),.fr ((.sl 1 1 [.sl 3 c (Ns.lkZ top c c)]))]) (by kernel_rfl) (by kernel_rfl)) ?_
 exact tri_back0 Try.results62  (by decide) (by kernel_rfl)
 refine Za (oC (Zp rfl (dF hs1)) I0 I0 (pM (aT 10 bF) (Ze (Zc (Zo rfl ?_)))))
 by_cases hs2:top=3
 refine Za (oC (Zp rfl (dT hs2)) I0 I0 (pM (aT 11 bT) (Ze (Zc (Zm rfl ?_)))))
 refine Zu (dM (mT 0 (.box 1000000 0)) (dM (mT 0 (.box 1000000 0)) (dA (Yl (off:=0) (.tmp 13) rfl) I0 (dA (fb 0 14 U111 10) I0 (dA (fb 1 15 U27 1) I0 (dB (lb (iv top) 16 U3) I0 rfl (dM (mT 0 (.box 1000000 0)) (dA (Yl (off:=0) (.tmp 18) rfl) I0 (dA (fb 13 19 U111 1) I0 (dB (lb (iv c) 20 U3) I0 rfl (dR (sc #[.tmp 17,.const (.slice none 0 0),.tmp 21] [] (linksOf_row (.inr hs2) hc) [iv top,.v (.slice none 0 0),iv c] rfl rfl rfl) ⟨I0,I0,I0,I0,T0⟩ T0 T0 (dR (sp_build (z:=1) (k:=1) (fr:=true) (cs:=[.sl 3 c (Ns.lkZ top c c)]) [.tmp 22] [.fr (.sl 3 c (Ns.lkZ top c c))] rfl U109 (by kernel_rfl) (by decide) (by decide) rfl rfl rfl (by kernel_rfl) (by decide) (fun _=>by simp [AV.cellsOf,AV.isNew,cLn,cTh]) (by kernel_rfl)) ⟨I0,T0⟩ T0 rfl (dA (Yl (off:=0) (.tmp 12) rfl) I0 (dA (fb 32 24 U111 1) I0 (dR (sB 1 25 (.tmp 23) (.own 1)) ⟨I0,I0,T0⟩ ⟨rfl,T0⟩ rfl (dE ?_)))))))))))))))) (by kernel_rfl)
 show ETri J w0 _ _ _
 refine kW 64 [(1,.row true 99 1 1 ([.sl 3 c (Ns.lkZ top c c)])),(1000000,.box 111 [.v (xs 0),iv top,.v (xs 2),.v (xs 3),.v (xs 4),.v (xs 5),.v (xs 6),.v (xs 7),.v (xs 8),.v (xs 9),.v (xs 10),.v (xs 11),.v (xs 12),iv c,.v (xs 14),.v (xs 15),.v (xs 16),.v (xs 17),.v (xs 18),.v (xs 19),.v (xs 20),.v (xs 21),.v (xs 22),.v (xs 23),.v (xs 24),.v (xs 25),.v (xs 26),.v (xs 27),.v (xs 28),.v (xs 29),.v (xs 30),.v (.slice none 0 0),.own 1])] [] (ZX ?_)
 refine Km ?_
 rw [Ns.shT_no (n:=((c:Nat):Int)) (by omega),← En.lkS_row (c:=c) (top:=top) (by omega)]
 refine kW 64 [(1000000,.box 111 [.v (xs 0),iv top,.v (xs 2),.v (xs 3),.v (xs 4),.v (xs 5),.v (xs 6),.v (xs 7),.v (xs 8),.v (xs 9),.v (xs 10),.v (xs 11),.v (xs 12),iv c,.v (xs 14),.v (xs 15),.v (xs 16),.v (xs 17),.v (xs 18),.v (xs 19),.v (xs 20),.v (xs 21),.v (xs 22),.v (xs 23),.v (xs 24),.v (xs 25),.v (xs 26),.v (xs 27),.v (xs 28),.v (xs 29),.v (xs 30),.v (.slice none 0 0),.fr ((.sl 1 1 [.sl 3 c (Ns.lkZ top c c)]))])] [] ?_
 refine tri_wk (wk_anyN 1000000 1 [0,0,0,0,0,0,0,0,0,0,0,0,0,0,0,0,0,0,0,0,0,0,0,0,0,0,0,0,0,0,0,2,0] rfl (ds:=[.v (xs 0),iv top,.v (xs 2),.v (xs 3),.v (xs 4),.v (xs 5),.v (xs 6),.v (xs 7),.v (xs 8),.v (xs 9),.v (xs 10),.v (xs 11),.v (xs 12),iv c,.v (xs 14),.v (xs 15),.v (xs 16),.v (xs 17),.v (xs 18),.v (xs 19),.v (xs 20),.v (xs 21),.v (xs 22),.v (xs 23),.v (xs 24),.v (xs 25),.v (xs 26),.v (xs 27),.v (xs 28),.v (xs 29),.v (xs 30),.fr (.sl 1 0 []),.fr ((.sl 1 1 [.sl 3 c (Ns.lkZ top c c)]))]) (by kernel_rfl) (by kernel_rfl)) ?_
 exact tri_back0 Try.results62  (by decide) (by kernel_rfl)
 refine Za (oC (Zp rfl (dF hs2)) I0 I0 (pM (aT 11 bF) (Ze (Zc (Zo rfl (Zb ?_))))))
 by_cases hs3:top=4
 refine Za (oC (Zp rfl (dT hs3)) I0 I0 (pM (aT 27 bT) (Ze (Zc (Zm rfl (Zb (Za (pM (mT 0 (.box 1000000 0)) (pM (mT 0 (.box 1000000 0)) (oA (Yl (off:=0) (.tmp 30) rfl) I0 (oA (fb 13 31 U111 1) I0 (oB (lb (iv c) 32 U3) I0 rfl (oC (sc #[.tmp 33] [] (Sh.Shapes_n _) [iv c] rfl rfl rfl) I0 I0 (pM (mT 34 (.tup [.fr (slA 1 cLi (Sh.shX ((c:Nat):Int))),iv (Sh.shZ ((c:Nat):Int))])) (oA (ZT (X := .fr (slA 1 cLi (Sh.shX ((c:Nat):Int)))) (.tmp 28) rfl rfl) I0 (oA (ZT (X:=iv (Sh.shZ ((c:Nat):Int))) (.tmp 28) rfl rfl) I0 (oA (Yl (off:=0) (.tmp 29) rfl) I0 (oA (fb 31 37 U111 1) I0 (ZQ rfl (sB 1 38 (.tmp 35) (.fr (slA 1 cLi (Sh.shX ((c:Nat):Int))))) ⟨I0,I0,T0⟩ ⟨rfl,T0⟩ rfl (Ze (Zc (Zb (Za ?_)))))))))))))))))))))))
 refine pM (mT 0 (.box 1000000 0)) (oA (Yl (off:=0) (.tmp 39) rfl) I0 (oA (fb 31 40 U111 1) I0 (oB (lb (.fr (slA 1 cLi (Sh.shX ((c:Nat):Int)))) 41 U69) I0 rfl (ZQ rfl (nS 42 U69) ⟨.inr (.inl rfl),T0⟩ T0 T0 (pM (Ki (.const (.int .i64 0)) (iv 0) rfl) (kN 64 [(1000000,.box 111 [.v (xs 0),iv top,.v (xs 2),.v (xs 3),.v (xs 4),.v (xs 5),.v (xs 6),.v (xs 7),.v (xs 8),.v (xs 9),.v (xs 10),.v (xs 11),.v (xs 12),iv c,.v (xs 14),.v (xs 15),.v (xs 16),.v (xs 17),.v (xs 18),.v (xs 19),.v (xs 20),.v (xs 21),.v (xs 22),.v (xs 23),.v (xs 24),.v (xs 25),.v (xs 26),.v (xs 27),.v (xs 28),.v (xs 29),.v (xs 30),.fr (slA 1 cLi (Sh.shX ((c:Nat):Int))),.v (.slice none 0 0)])] [(0,.box 1000000 0),(42,.fr (slA 1 cLi (Sh.shX ((c:Nat):Int)))),(43,iv ((Sh.shX ((c:Nat):Int)).length:Nat)),(44,iv 0)] (Zc (ZE ?_))))))))
 refine tri_wk (wk_adoptB 1000000 32 1 true 99 1 rfl rfl rfl rfl) ?_
 refine Yp (σ:={j:Nat // j≤(Sh.shX ((c:Nat):Int)).length}) (fun s=>(ofL [(1,.row true 99 1 (((Sh.shX ((c:Nat):Int)).take s.1).length) (((Sh.shX ((c:Nat):Int)).take s.1).flatMap Ns.cLk)),(1000000,.box 111 [.v (xs 0),iv top,.v (xs 2),.v (xs 3),.v (xs 4),.v (xs 5),.v (xs 6),.v (xs 7),.v (xs 8),.v (xs 9),.v (xs 10),.v (xs 11),.v (xs 12),iv c,.v (xs 14),.v (xs 15),.v (xs 16),.v (xs 17),.v (xs 18),.v (xs 19),.v (xs 20),.v (xs 21),.v (xs 22),.v (xs 23),.v (xs 24),.v (xs 25),.v (xs 26),.v (xs 27),.v (xs 28),.v (xs 29),.v (xs 30),.fr (slA 1 cLi (Sh.shX ((c:Nat):Int))),.own 1])],ofT 64 [(0,.box 1000000 0),(42,.fr (slA 1 cLi (Sh.shX ((c:Nat):Int)))),(43,iv ((Sh.shX ((c:Nat):Int)).length:Nat)),(44,iv s.1)])) (fun s=>(Sh.shX ((c:Nat):Int)).length-s.1) ⟨0,Nat.zero_le _⟩ (Zj _ _ rfl (by kernel_rfl) (by kernel_rfl)) (fun s => ?_)
 obtain ⟨j,hj0⟩:=s
 show ETri J w0 (ofL [(1,.row true 99 1 (((Sh.shX ((c:Nat):Int)).take j).length) (((Sh.shX ((c:Nat):Int)).take j).flatMap Ns.cLk)),(1000000,.box 111 [.v (xs 0),iv top,.v (xs 2),.v (xs 3),.v (xs 4),.v (xs 5),.v (xs 6),.v (xs 7),.v (xs 8),.v (xs 9),.v (xs 10),.v (xs 11),.v (xs 12),iv c,.v (xs 14),.v (xs 15),.v (xs 16),.v (xs 17),.v (xs 18),.v (xs 19),.v (xs 20),.v (xs 21),.v (xs 22),.v (xs 23),.v (xs 24),.v (xs 25),.v (xs 26),.v (xs 27),.v (xs 28),.v (xs 29),.v (xs 30),.fr (slA 1 cLi (Sh.shX ((c:Nat):Int))),.own 1])]) (ofT 64 [(0,.box 1000000 0),(42,.fr (slA 1 cLi (Sh.shX ((c:Nat):Int)))),(43,iv ((Sh.shX ((c:Nat):Int)).length:Nat)),(44,iv j)]) _
 have l1:((Sh.shX ((c:Nat):Int)).take j).length≤j:=List.length_take_le _ _
 refine Zb ?_
 by_cases hs4:((j:Nat):Int)<(((Sh.shX ((c:Nat):Int)).length:Nat):Int)
 have hj1:j<(Sh.shX ((c:Nat):Int)).length:=by omega
 have hx0:0<(Sh.shX ((c:Nat):Int))[j].length:=hsh _ (List.getElem_mem hj1)
 have hx1:(Sh.shX ((c:Nat):Int))[j].length≤100:=Nat.le_trans (Sh.shX_mem _ _ (List.getElem_mem hj1)).1 (by decide)
 refine Za (oC (Z5 rfl (dT hs4)) I0 I0 (Ze (Zc (Zb (Zm rfl (Zn (Zc (Zb (ZE (Zb (Za (ZQ rfl (xS (j*1) 42 44 U69) ⟨.inr (.inl rfl),I0,T0⟩ T0 T0 (oA (lE (Zd ((Sh.shX ((c:Nat):Int))[j])) 46 U24 ((ZA lenLi (Sh.shX ((c:Nat):Int)) j 0 (by omega) (by decide)).trans rfl)) I0 (pM (aT 47 (Zd ((Sh.shX ((c:Nat):Int))[j]))) (Ze (Zc ?_))))))))))))))))
 refine Zu (dM (mT 0 (.box 1000000 0)) (dM (mT 0 (.box 1000000 0)) (dA (Yl (off:=0) (.tmp 49) rfl) I0 (dA (fb 32 50 U111 1) I0 (dB (lb (.own 1) 51 U109) I0 rfl (dM (mT 3 (Zd ((Sh.shX ((c:Nat):Int))[j]))) (dM (mT 0 (.box 1000000 0)) (dA (Yl (off:=0) (.tmp 54) rfl) I0 (dA (fb 13 55 U111 1) I0 (dB (lb (iv c) 56 U3) I0 rfl (dR (sc #[.const (.int .i64 4),.tmp 53,.tmp 57] [] (linksOf_tree (Sh.shX_mem _ _ (List.getElem_mem (by omega))).2 hx0 hx1) [iv 4,Zd ((Sh.shX ((c:Nat):Int))[j]),iv c] rfl rfl rfl) ⟨I0,I0,I0,I0,T0⟩ T0 T0 (dR (sp_build (z:=1) (k:=2) (fr:=false) (cs:=[.fr (Ns.lkT ((Sh.shX ((c:Nat):Int))[j]))]) [.tmp 58] [.fr (Ns.lkT ((Sh.shX ((c:Nat):Int))[j]))] rfl U109 (by kernel_rfl) (by decide) (by decide) rfl rfl rfl (by kernel_rfl) (by decide) (fun h=>Bool.noConfusion h) (by kernel_rfl)) ⟨I0,T0⟩ T0 rfl (dR (sp_appendOwn (n:=((Sh.shX ((c:Nat):Int)).take j).length) (cs:=(((Sh.shX ((c:Nat):Int)).take j).flatMap Ns.cLk)) (fr:=true) (m:=1) (ds:=[.fr (Ns.lkT ((Sh.shX ((c:Nat):Int))[j]))]) (⟨U109,by kernel_rfl,by decide⟩:Elt Try.prog 109 99 1 24) (.tmp 52) (.tmp 59) rfl (fun _=>Ns.newLk (Sh.shX ((c:Nat):Int))[j]) (by unfold maxLen;omega) (by omega) (Ns.cellLk (Sh.shX ((c:Nat):Int))[j]) (es:=(((Sh.shX ((c:Nat):Int)).take (j+1)).flatMap Ns.cLk)) (Ns.snocLk (by omega))) ⟨I0,I0,T0⟩ ⟨rfl,rfl,T0⟩ rfl (dA (Yl (off:=0) (.tmp 48) rfl) I0 (dA (fb 32 61 U111 1) I0 (dR (sB 1 62 (.tmp 60) (.own 1)) ⟨I0,I0,T0⟩ ⟨rfl,T0⟩ rfl (dE ?_))))))))))))))))) (by kernel_rfl)
 show ETri J w0 _ _ _
 refine kW 64 [(1,.row true 99 1 (((Sh.shX ((c:Nat):Int)).take j).length+1) (((Sh.shX ((c:Nat):Int)).take (j+1)).flatMap Ns.cLk)),(1000000,.box 111 [.v (xs 0),iv top,.v (xs 2),.v (xs 3),.v (xs 4),.v (xs 5),.v (xs 6),.v (xs 7),.v (xs 8),.v (xs 9),.v (xs 10),.v (xs 11),.v (xs 12),iv c,.v (xs 14),.v (xs 15),.v (xs 16),.v (xs 17),.v (xs 18),.v (xs 19),.v (xs 20),.v (xs 21),.v (xs 22),.v (xs 23),.v (xs 24),.v (xs 25),.v (xs 26),.v (xs 27),.v (xs 28),.v (xs 29),.v (xs 30),.fr (slA 1 cLi (Sh.shX ((c:Nat):Int))),.own 1])] [(0,.box 1000000 0),(3,Zd ((Sh.shX ((c:Nat):Int))[j])),(42,.fr (slA 1 cLi (Sh.shX ((c:Nat):Int)))),(43,iv ((Sh.shX ((c:Nat):Int)).length:Nat)),(44,iv j),(45,bT)] (ZX (Zc (Za (oC (Yj (c:=((j+1:Nat):Int)) rfl (w64 (by omega) (by omega) (by omega))) I0 I0 (pM (mT 63 (iv (j+1:Nat))) (kN 64 [(1,.row true 99 1 (((Sh.shX ((c:Nat):Int)).take j).length+1) (((Sh.shX ((c:Nat):Int)).take (j+1)).flatMap Ns.cLk)),(1000000,.box 111 [.v (xs 0),iv top,.v (xs 2),.v (xs 3),.v (xs 4),.v (xs 5),.v (xs 6),.v (xs 7),.v (xs 8),.v (xs 9),.v (xs 10),.v (xs 11),.v (xs 12),iv c,.v (xs 14),.v (xs 15),.v (xs 16),.v (xs 17),.v (xs 18),.v (xs 19),.v (xs 20),.v (xs 21),.v (xs 22),.v (xs 23),.v (xs 24),.v (xs 25),.v (xs 26),.v (xs 27),.v (xs 28),.v (xs 29),.v (xs 30),.fr (slA 1 cLi (Sh.shX ((c:Nat):Int))),.own 1])] [(0,.box 1000000 0),(3,Zd ((Sh.shX ((c:Nat):Int))[j])),(42,.fr (slA 1 cLi (Sh.shX ((c:Nat):Int)))),(43,iv ((Sh.shX ((c:Nat):Int)).length:Nat)),(44,iv (j+1:Nat)),(45,bT)] (Zc ?_)))))))
 refine ZZ ⟨j+1,by omega⟩ (show (Sh.shX ((c:Nat):Int)).length-(j+1)<(Sh.shX ((c:Nat):Int)).length-j by omega) ?_
 show Wk _ _ (ofL [(1,.row true 99 1 (((Sh.shX ((c:Nat):Int)).take (j+1)).length) (((Sh.shX ((c:Nat):Int)).take (j+1)).flatMap Ns.cLk)),(1000000,.box 111 [.v (xs 0),iv top,.v (xs 2),.v (xs 3),.v (xs 4),.v (xs 5),.v (xs 6),.v (xs 7),.v (xs 8),.v (xs 9),.v (xs 10),.v (xs 11),.v (xs 12),iv c,.v (xs 14),.v (xs 15),.v (xs 16),.v (xs 17),.v (xs 18),.v (xs 19),.v (xs 20),.v (xs 21),.v (xs 22),.v (xs 23),.v (xs 24),.v (xs 25),.v (xs 26),.v (xs 27),.v (xs 28),.v (xs 29),.v (xs 30),.fr (slA 1 cLi (Sh.shX ((c:Nat):Int))),.own 1])]) (ofT 64 [(0,.box 1000000 0),(42,.fr (slA 1 cLi (Sh.shX ((c:Nat):Int)))),(43,iv ((Sh.shX ((c:Nat):Int)).length:Nat)),(44,iv ((j+1):Nat))])
 rw [show ((Sh.shX ((c:Nat):Int)).take (j+1)).length=((Sh.shX ((c:Nat):Int)).take j).length+1 by rw [List.length_take,List.length_take];omega]
 exact Zj _ _ rfl (by kernel_rfl) (by kernel_rfl)
 refine Za (oC (Z5 rfl (dF hs4)) I0 I0 (kN 64 [(1,.row true 99 1 (((Sh.shX ((c:Nat):Int)).take j).length) (((Sh.shX ((c:Nat):Int)).take j).flatMap Ns.cLk)),(1000000,.box 111 [.v (xs 0),iv top,.v (xs 2),.v (xs 3),.v (xs 4),.v (xs 5),.v (xs 6),.v (xs 7),.v (xs 8),.v (xs 9),.v (xs 10),.v (xs 11),.v (xs 12),iv c,.v (xs 14),.v (xs 15),.v (xs 16),.v (xs 17),.v (xs 18),.v (xs 19),.v (xs 20),.v (xs 21),.v (xs 22),.v (xs 23),.v (xs 24),.v (xs 25),.v (xs 26),.v (xs 27),.v (xs 28),.v (xs 29),.v (xs 30),.fr (slA 1 cLi (Sh.shX ((c:Nat):Int))),.own 1])] [(0,.box 1000000 0),(42,.fr (slA 1 cLi (Sh.shX ((c:Nat):Int)))),(43,iv ((Sh.shX ((c:Nat):Int)).length:Nat)),(44,iv j),(45,bF)] (Zc (Zb (Zo rfl (Yn (Zy (Zy (t_hit (ZX ?_))))))))))
 refine Km ?_
 have hj2:j=(Sh.shX ((c:Nat):Int)).length:=by omega
 have ht:(Sh.shX ((c:Nat):Int)).take j=(Sh.shX ((c:Nat):Int)):=by rw [hj2,List.take_length]
 rw [ht]
 rw [Ns.shT_tree (n:=((c:Nat):Int)) hs3,hs3,← En.lkS_tree]
 refine kW 64 [(1000000,.box 111 [.v (xs 0),iv 4,.v (xs 2),.v (xs 3),.v (xs 4),.v (xs 5),.v (xs 6),.v (xs 7),.v (xs 8),.v (xs 9),.v (xs 10),.v (xs 11),.v (xs 12),iv c,.v (xs 14),.v (xs 15),.v (xs 16),.v (xs 17),.v (xs 18),.v (xs 19),.v (xs 20),.v (xs 21),.v (xs 22),.v (xs 23),.v (xs 24),.v (xs 25),.v (xs 26),.v (xs 27),.v (xs 28),.v (xs 29),.v (xs 30),.fr (slA 1 cLi (Sh.shX ((c:Nat):Int))),.fr ((.sl 1 (Sh.shX ((c:Nat):Int)).length ((Sh.shX ((c:Nat):Int)).flatMap Ns.cLk)))])] [] ?_
 exact tri_back0 Try.results62  (by decide) (by kernel_rfl)
 refine Za (oC (Zp rfl (dF hs3)) I0 I0 (pM (aT 27 bF) (kN 64 [(1000000,.box 111 [.v (xs 0),iv top,.v (xs 2),.v (xs 3),.v (xs 4),.v (xs 5),.v (xs 6),.v (xs 7),.v (xs 8),.v (xs 9),.v (xs 10),.v (xs 11),.v (xs 12),iv c,.v (xs 14),.v (xs 15),.v (xs 16),.v (xs 17),.v (xs 18),.v (xs 19),.v (xs 20),.v (xs 21),.v (xs 22),.v (xs 23),.v (xs 24),.v (xs 25),.v (xs 26),.v (xs 27),.v (xs 28),.v (xs 29),.v (xs 30),.v (.slice none 0 0),.v (.slice none 0 0)])] [(0,.box 1000000 0),(26,bF)] (Zc (Zo rfl (Zn (ZX ?_)))))))
 refine Km ?_
 rw [Ns.shT_no (n:=((c:Nat):Int)) (by omega),← En.lkS_no (c:=c) hs1 hs2 hs3]
 refine tri_wk (wk_anyN 1000000 1 [0,0,0,0,0,0,0,0,0,0,0,0,0,0,0,0,0,0,0,0,0,0,0,0,0,0,0,0,0,0,0,2,2] rfl (ds:=[.v (xs 0),iv top,.v (xs 2),.v (xs 3),.v (xs 4),.v (xs 5),.v (xs 6),.v (xs 7),.v (xs 8),.v (xs 9),.v (xs 10),.v (xs 11),.v (xs 12),iv c,.v (xs 14),.v (xs 15),.v (xs 16),.v (xs 17),.v (xs 18),.v (xs 19),.v (xs 20),.v (xs 21),.v (xs 22),.v (xs 23),.v (xs 24),.v (xs 25),.v (xs 26),.v (xs 27),.v (xs 28),.v (xs 29),.v (xs 30),.fr (.sl 1 0 []),.fr (.sl 1 0 [])]) (by kernel_rfl) (by kernel_rfl)) ?_
 exact tri_back0 Try.results62  (by decide) (by kernel_rfl)
namespace En
theorem place_cx {top c:Int} (h0:0≤c) (h8:c≤8) (xs:Nat→Value):CtrW Try.prog J 62 [.box 1000000 0] 1000000 (.box 111 [.v (xs 0),iv top,.v (xs 2),.v (xs 3),.v (xs 4),.v (xs 5),.v (xs 6),.v (xs 7),.v (xs 8),.v (xs 9),.v (xs 10),.v (xs 11),.v (xs 12),iv c,.v (xs 14),.v (xs 15),.v (xs 16),.v (xs 17),.v (xs 18),.v (xs 19),.v (xs 20),.v (xs 21),.v (xs 22),.v (xs 23),.v (xs 24),.v (xs 25),.v (xs 26),.v (xs 27),.v (xs 28),.v (xs 29),.v (xs 30),.v (.slice none 0 0),.v (.slice none 0 0)]) (.box 111 [.v (xs 0),iv top,.v (xs 2),.v (xs 3),.v (xs 4),.v (xs 5),.v (xs 6),.v (xs 7),.v (xs 8),.v (xs 9),.v (xs 10),.v (xs 11),.v (xs 12),iv c,.v (xs 14),.v (xs 15),.v (xs 16),.v (xs 17),.v (xs 18),.v (xs 19),.v (xs 20),.v (xs 21),.v (xs 22),.v (xs 23),.v (xs 24),.v (xs 25),.v (xs 26),.v (xs 27),.v (xs 28),.v (xs 29),.v (xs 30),.fr (slA 1 cLi (Ns.shT top c)),.fr ((lkS top c.toNat))]) (.v (.tuple #[])):=by
  obtain ⟨m,rfl⟩:=Int.eq_ofNat_of_zero_le h0
  exact place_x (by omega) xs
theorem place_mx {p:Fm} {n t f:Int} (b:Nat→AV) (h0:0≤Ns.cntE p n f) (h8:Ns.cntE p n f≤8):∀ xs':Nat→Value,CtrW Try.prog J 62 [.box 1000000 0] 1000000 (.box 111 (maskC [true,false,true,true,true,true,true,true,true,true,true,true,true,false,true,true,true,true,true,true,true,true,true,true,true,true,true,true,true,true,true,false,false] xs' [sv p.nm,iv p.top,Zw p.states,Zw p.msgs,Zw p.vals,iv p.fault,slA 4 cLn p.res,Zd p.init,Zd p.leader,slA 18 cRu p.rules,iv n,iv t,iv f,iv (Ns.cntE p n f),iv (n-f),b 0,b 1,b 2,b 3,b 4,b 5,b 6,b 7,b 8,b 9,b 10,b 11,b 12,b 13,b 14,b 15,.v (.slice none 0 0),.v (.slice none 0 0)])) (.box 111 (maskC [true,false,true,true,true,true,true,true,true,true,true,true,true,false,true,true,true,true,true,true,true,true,true,true,true,true,true,true,true,true,true,false,false] xs' [sv p.nm,iv p.top,Zw p.states,Zw p.msgs,Zw p.vals,iv p.fault,slA 4 cLn p.res,Zd p.init,Zd p.leader,slA 18 cRu p.rules,iv n,iv t,iv f,iv (Ns.cntE p n f),iv (n-f),b 0,b 1,b 2,b 3,b 4,b 5,b 6,b 7,b 8,b 9,b 10,b 11,b 12,b 13,b 14,b 15,.fr (slA 1 cLi (Ns.shT p.top (Ns.cntE p n f))),.fr (En.lkS p.top (Ns.cntE p n f).toNat)])) (.v (.tuple #[])):=fun xs=>place_cx h0 h8 xs
end En
set_option maxRecDepth 100000 in
theorem newSystem_P {p:Fm} (HP:FmOk p) {n t f:Int} (hs:Ns.sysE p n t f=0):CtrA Try.prog J 40 [.agg (cFm p),.agg (cSz n t f)] (.tup [.el (En.sysP p n t f) 0,iv 0]):=by
 obtain ⟨hv,ha,h8⟩:=Ns.sys_ok hs
 obtain ⟨hr8,hg2⟩:=Ns.val_lims hv
 have hai:=Ns.adm_in ha
 have hc0:=Ns.cnt_lo (p:=p) hai
 have hc8:=Ns.cnt_hi (p:=p) hai h8
 refine ctrA_of_tri Try.func40 rfl (by intro X hX;simp only [List.mem_cons,List.not_mem_nil,or_false] at hX;rcases hX with rfl | rfl;exact Zt (YN p);exact Zt (KH n t f)) (n:=80) rfl (by simp) (fun w0 => ?_)
 refine kW 80 [] [(0,.agg (cFm p)),(1,.agg (cSz n t f))] (Zb (Za (ZQ rfl (YC (X := .agg (cFm p)) (k:=1) (.tmp 0) rfl rfl) ⟨I0,T0⟩ T0 rfl (ZQ rfl (YC (X := .agg (cSz n t f)) (k:=2) (.tmp 1) rfl rfl) ⟨I0,T0⟩ T0 rfl (pM (Ym (.const (.pointer none)) (.v (.pointer none)) rfl) (pM (aC (.int .i64 0)) (Ze (Zc (Zb (Zb (Za (oB (lS (cFm p) 10 2 U27) I0 rfl (oC (sc #[.tmp 12] [] (qValidate_c HP) [.agg (cFm p)] rfl rfl rfl) I0 I0 (pM (aT 13 (iv (valE p))) (Ze (Zc (Zb (Za (pM (mT 6 (iv (valE p))) (oC (Zs rfl (dT' hv)) I0 I0 (Ze (Zc (Zo rfl ?_)))))))))))))))))))))))
 refine Zn (Zc (Zb (Zb (Za (oB (lS (cFm p) 10 2 U27) I0 rfl (oB (lS (cSz n t f) 3 3 U29) I0 rfl (oD (sc #[.tmp 17,.tmp 18] [] (ZS (Ns.adm_c HP hv) ha) [.agg (cFm p),.agg (cSz n t f)] rfl rfl rfl) I0 I0 I0 (oA (Zq rfl rfl) I0 (Ze (Zc (Zo rfl (Zn (Zc (Zb (Zb (Za (oA (fb 0 3 U29 1) I0 (oB (lb (iv n) 21 U3) I0 rfl (oC (ZK rfl (dF h8)) I0 I0 (Ze (Zc (Zo rfl (Zn ?_)))))))))))))))))))))))
 refine Zc (Zb (Za (oB (lS (cFm p) 10 2 U27) I0 rfl (oB (lS (cSz n t f) 3 3 U29) I0 rfl (oA (fb 0 3 U29 1) I0 (oB (lb (iv n) 26 U3) I0 rfl (oA (fb 0 3 U29 1) I0 (oB (lb (iv n) 28 U3) I0 rfl (oA (fb 2 3 U29 1) I0 (oB (lb (iv f) 30 U3) I0 rfl (oC (Yt (c:=n-f) rfl (w64 (by omega) (by omega) (by omega))) I0 I0 (ZQ rfl (sp_bldG [0,1,2,3] [.tmp 24,.tmp 25,.tmp 27,.tmp 32] [.agg (cFm p),.agg (cSz n t f),iv n,iv (n-f)] [.inr 0,.inr 1,.inr 2,.inr 3,.inr 4,.inr 5,.inr 6,.inr 7,.inr 8,.inr 9,.inr 10,.inr 11,.inr 12,.inr 13,.inr 14,.inl (.int .i64 0),.inl (.int .i64 0),.inl (.int .i64 0),.inl (.int .i64 0),.inl (.int .i64 0),.inl (.int .i64 0),.inl (.int .i64 0),.inl (.int .i64 0),.inl (.int .i64 0),.inl (.int .i64 0),.inl (.int .i64 0),.inl (.int .i64 0),.inl (.int .i64 0),.inl (.int .i64 0),.inl (.int .i64 0),.inl (.int .i64 0),.inl (.slice none 0 0),.inl (.slice none 0 0)] rfl rfl rfl rfl rfl (fun _=>by kernel_rfl) rfl (ds:=[sv p.nm,iv p.top,Zw p.states,Zw p.msgs,Zw p.vals,iv p.fault,slA 4 cLn p.res,Zd p.init,Zd p.leader,slA 18 cRu p.rules,iv n,iv t,iv f,iv n,iv (n-f),iv 0,iv 0,iv 0,iv 0,iv 0,iv 0,iv 0,iv 0,iv 0,iv 0,iv 0,iv 0,iv 0,iv 0,iv 0,iv 0,.v (.slice none 0 0),.v (.slice none 0 0)]) rfl) ⟨I0,I0,I0,I0,T0⟩ T0 T0 (ZQ rfl (YC (X := .agg [sv p.nm,iv p.top,Zw p.states,Zw p.msgs,Zw p.vals,iv p.fault,slA 4 cLn p.res,Zd p.init,Zd p.leader,slA 18 cRu p.rules,iv n,iv t,iv f,iv n,iv (n-f),iv 0,iv 0,iv 0,iv 0,iv 0,iv 0,iv 0,iv 0,iv 0,iv 0,iv 0,iv 0,iv 0,iv 0,iv 0,iv 0,.v (.slice none 0 0),.v (.slice none 0 0)]) (k:=3) (.tmp 33) rfl rfl) ⟨I0,T0⟩ T0 rfl (pM (aT 34 (.box 3 0)) (Ze (Zc (Zb (Zb (Za (oA (fb 5 2 U27 1) I0 (oB (lb (iv p.fault) 35 U3) I0 rfl (oC (Zp rfl rfl) I0 I0 (kN 80 [(1,.box 27 (cFm p)),(2,.box 29 (cSz n t f)),(3,.box 111 [sv p.nm,iv p.top,Zw p.states,Zw p.msgs,Zw p.vals,iv p.fault,slA 4 cLn p.res,Zd p.init,Zd p.leader,slA 18 cRu p.rules,iv n,iv t,iv f,iv n,iv (n-f),iv 0,iv 0,iv 0,iv 0,iv 0,iv 0,iv 0,iv 0,iv 0,iv 0,iv 0,iv 0,iv 0,iv 0,iv 0,iv 0,.v (.slice none 0 0),.v (.slice none 0 0)])] [(2,.box 1 0),(3,.box 2 0),(4,.v (.pointer none)),(5,iv 0),(7,.box 3 0),(37,bv (decide (p.fault=3)))] ?_)))))))))))))))))))))))
 refine Zc ?_
 refine Y6 (True) (ofL [(1,.box 27 (cFm p)),(2,.box 29 (cSz n t f)),(3,.box 111 [sv p.nm,iv p.top,Zw p.states,Zw p.msgs,Zw p.vals,iv p.fault,slA 4 cLn p.res,Zd p.init,Zd p.leader,slA 18 cRu p.rules,iv n,iv t,iv f,iv (Ns.cntE p n f),iv (n-f),iv 0,iv 0,iv 0,iv 0,iv 0,iv 0,iv 0,iv 0,iv 0,iv 0,iv 0,iv 0,iv 0,iv 0,iv 0,iv 0,.v (.slice none 0 0),.v (.slice none 0 0)])]) (ofT 80 [(2,.box 1 0),(3,.box 2 0),(4,.v (.pointer none)),(5,iv 0),(7,.box 3 0)]) ?_ (fun _ => ?_)
 by_cases hs1:p.fault=3
 rw [dT hs1]
 refine kW 80 [(1,.box 27 (cFm p)),(2,.box 29 (cSz n t f)),(3,.box 111 [sv p.nm,iv p.top,Zw p.states,Zw p.msgs,Zw p.vals,iv p.fault,slA 4 cLn p.res,Zd p.init,Zd p.leader,slA 18 cRu p.rules,iv n,iv t,iv f,iv n,iv (n-f),iv 0,iv 0,iv 0,iv 0,iv 0,iv 0,iv 0,iv 0,iv 0,iv 0,iv 0,iv 0,iv 0,iv 0,iv 0,iv 0,.v (.slice none 0 0),.v (.slice none 0 0)])] [(2,.box 1 0),(3,.box 2 0),(4,.v (.pointer none)),(5,iv 0),(7,.box 3 0),(37,bT)] (Zm rfl (Za (pM (mT 7 (.box 3 0)) (pM (mT 7 (.box 3 0)) (oA (Yl (off:=0) (.tmp 39) rfl) I0 (oA (fb 14 40 U111 1) I0 (oB (lb (iv (n-f)) 41 U3) I0 rfl (oA (Yl (off:=0) (.tmp 38) rfl) I0 (oA (fb 13 43 U111 1) I0 (ZQ rfl (sB 1 44 (.tmp 42) (iv (n-f))) ⟨I0,I0,T0⟩ ⟨rfl,T0⟩ rfl (kN 80 [(1,.box 27 (cFm p)),(2,.box 29 (cSz n t f)),(3,.box 111 [sv p.nm,iv p.top,Zw p.states,Zw p.msgs,Zw p.vals,iv p.fault,slA 4 cLn p.res,Zd p.init,Zd p.leader,slA 18 cRu p.rules,iv n,iv t,iv f,iv (n-f),iv (n-f),iv 0,iv 0,iv 0,iv 0,iv 0,iv 0,iv 0,iv 0,iv 0,iv 0,iv 0,iv 0,iv 0,iv 0,iv 0,iv 0,.v (.slice none 0 0),.v (.slice none 0 0)])] [(2,.box 1 0),(3,.box 2 0),(4,.v (.pointer none)),(5,iv 0),(7,.box 3 0)] ?_)))))))))))
 rw [show Ns.cntE p n f=n-f from if_pos hs1]
 exact Zr T0 (Zj _ _ rfl (by kernel_rfl) (by kernel_rfl))
 rw [dF hs1]
 refine kW 80 [(1,.box 27 (cFm p)),(2,.box 29 (cSz n t f)),(3,.box 111 [sv p.nm,iv p.top,Zw p.states,Zw p.msgs,Zw p.vals,iv p.fault,slA 4 cLn p.res,Zd p.init,Zd p.leader,slA 18 cRu p.rules,iv n,iv t,iv f,iv n,iv (n-f),iv 0,iv 0,iv 0,iv 0,iv 0,iv 0,iv 0,iv 0,iv 0,iv 0,iv 0,iv 0,iv 0,iv 0,iv 0,iv 0,.v (.slice none 0 0),.v (.slice none 0 0)])] [(2,.box 1 0),(3,.box 2 0),(4,.v (.pointer none)),(5,iv 0),(7,.box 3 0),(37,bF)] (Zo rfl (Zn ?_))
 rw [show Ns.cntE p n f=n from if_neg hs1]
 exact Zr T0 (Zj _ _ rfl (by kernel_rfl) (by kernel_rfl))
 refine Zc (Zb (Zb (Za (oA (fb 9 2 U27 1) I0 (oB (lb (slA 18 cRu p.rules) 45 U25) I0 rfl (oA (nS 46 U25) I0 (pM (Ki (.const (.int .i64 0)) (iv 0) rfl) (kN 80 [(2,.box 29 (cSz n t f)),(3,.box 111 [sv p.nm,iv p.top,Zw p.states,Zw p.msgs,Zw p.vals,iv p.fault,slA 4 cLn p.res,Zd p.init,Zd p.leader,slA 18 cRu p.rules,iv n,iv t,iv f,iv (Ns.cntE p n f),iv (n-f),iv 0,iv 0,iv 0,iv 0,iv 0,iv 0,iv 0,iv 0,iv 0,iv 0,iv 0,iv 0,iv 0,iv 0,iv 0,iv 0,.v (.slice none 0 0),.v (.slice none 0 0)])] [(3,.box 2 0),(4,.v (.pointer none)),(5,iv 0),(7,.box 3 0),(46,slA 18 cRu p.rules),(47,iv p.rules.length),(48,iv 0)] (Zc (ZE ?_))))))))))
 refine Yp (σ:={j:Nat // j≤p.rules.length}) (fun s=>(ofL [(2,.box 29 (cSz n t f)),(3,.box 111 (En.sysB p n t f s.1 0 (.v (.slice none 0 0)) (.v (.slice none 0 0))))],ofT 80 [(3,.box 2 0),(4,.v (.pointer none)),(5,iv 0),(7,.box 3 0),(46,slA 18 cRu p.rules),(47,iv p.rules.length),(48,iv s.1)])) (fun s=>p.rules.length-s.1) ⟨0,Nat.zero_le _⟩ (Zj _ _ rfl (by kernel_rfl) (by kernel_rfl)) (fun s => ?_)
 obtain ⟨j,hj0⟩:=s
 show ETri J w0 (ofL [(2,.box 29 (cSz n t f)),(3,.box 111 (En.sysB p n t f j 0 (.v (.slice none 0 0)) (.v (.slice none 0 0))))]) (ofT 80 [(3,.box 2 0),(4,.v (.pointer none)),(5,iv 0),(7,.box 3 0),(46,slA 18 cRu p.rules),(47,iv p.rules.length),(48,iv j)]) _
 refine Zb ?_
 by_cases hs2:((j:Nat):Int)<((p.rules.length:Nat):Int)
 have hj1:j<p.rules.length:=by omega
 have hgj:=hg2 _ (List.getElem_mem hj1)
 refine Za (oC (Z5 rfl (dT hs2)) I0 I0 (Ze (Zc (Zb (Zm rfl (Zn (Zc (Zb (ZE (Zb (Za (pM (mT 48 (iv j)) (oC (xS (j*18) 46 48 U25) I0 I0 (oA (ZF (z:=18) (.tmp 51) rfl U65 rfl (by kernel_rfl) (Kh lenRu p.rules j (by omega)) rfl) I0 (ZQ rfl (Z0 (z := .agg #[.string (⟨#[]⟩),.int .i64 0,.int .i64 0,.int .i64 0,.int .i64 0,.int .i64 0,.slice none 0 0,.slice none 0 0,.slice none 0 0,.slice none 0 0,.int .i64 0,.int .i64 0,.slice none 0 0,.int .i64 0,.slice none 0 0,.slice none 0 0,.slice none 0 0,.int .i64 0]) (k:=4) rfl (by kernel_rfl)) T0 T0 rfl (pM (aT 50 (iv j)) (ZQ rfl (sB 18 9 (.tmp 52) (.agg (cRu p.rules[j]))) ⟨I0,I0,T0⟩ ⟨rfl,T0⟩ rfl (Ze (Zc (Zb (Za (oA (fb 7 9 U65 1) I0 (oB (lb (slA 6 cTh p.rules[j].guards) 53 U63) I0 rfl ?_)))))))))))))))))))))))
 refine oA (nS 54 U63) I0 (pM (Ki (.const (.int .i64 0)) (iv 0) rfl) (kN 80 [(2,.box 29 (cSz n t f)),(3,.box 111 (En.sysB p n t f j 0 (.v (.slice none 0 0)) (.v (.slice none 0 0)))),(4,.box 65 (cRu p.rules[j]))] [(3,.box 2 0),(4,.v (.pointer none)),(5,iv 0),(7,.box 3 0),(8,iv j),(9,.box 4 0),(46,slA 18 cRu p.rules),(47,iv p.rules.length),(48,iv j),(49,bT),(54,slA 6 cTh p.rules[j].guards),(55,iv (p.rules[j].guards.length:Nat)),(56,iv 0)] (Zc (ZE ?_))))
 refine Yp (σ:={k:Nat // k≤p.rules[j].guards.length}) (fun s=>(ofL [(2,.box 29 (cSz n t f)),(3,.box 111 (En.sysB p n t f j s.1 (.v (.slice none 0 0)) (.v (.slice none 0 0)))),(4,.box 65 (cRu p.rules[j]))],ofT 80 [(3,.box 2 0),(4,.v (.pointer none)),(5,iv 0),(7,.box 3 0),(8,iv j),(9,.box 4 0),(46,slA 18 cRu p.rules),(47,iv p.rules.length),(48,iv j),(49,bT),(54,slA 6 cTh p.rules[j].guards),(55,iv (p.rules[j].guards.length:Nat)),(56,iv s.1)])) (fun s=>p.rules[j].guards.length-s.1) ⟨0,Nat.zero_le _⟩ (Zj _ _ rfl (by kernel_rfl) (by kernel_rfl)) (fun s => ?_)
 obtain ⟨k,hk0⟩:=s
 show ETri J w0 (ofL [(2,.box 29 (cSz n t f)),(3,.box 111 (En.sysB p n t f j k (.v (.slice none 0 0)) (.v (.slice none 0 0)))),(4,.box 65 (cRu p.rules[j]))]) (ofT 80 [(3,.box 2 0),(4,.v (.pointer none)),(5,iv 0),(7,.box 3 0),(8,iv j),(9,.box 4 0),(46,slA 18 cRu p.rules),(47,iv p.rules.length),(48,iv j),(49,bT),(54,slA 6 cTh p.rules[j].guards),(55,iv (p.rules[j].guards.length:Nat)),(56,iv k)]) _
 refine Zb ?_
 by_cases hs3:((k:Nat):Int)<((p.rules[j].guards.length:Nat):Int)
 have hk1:k<p.rules[j].guards.length:=by omega
 refine Za (oC (Z5 rfl (dT hs3)) I0 I0 (Ze (Zc (Zb (Zm rfl (Zn (Zc (Zb (ZE (Zb (Za (pM (mT 56 (iv k)) (oC (xS (k*6) 54 56 U63) I0 I0 (oA (ZF (z:=6) (.tmp 59) rfl U128 rfl (by kernel_rfl) (Kh lenTh p.rules[j].guards k (by omega)) rfl) I0 (ZQ rfl (Z0 (z := .agg #[.int .i64 0,.int .i64 0,.int .i64 0,.int .i64 0,.int .i64 0,.int .i64 0]) (k:=5) rfl (by kernel_rfl)) T0 T0 rfl (pM (aT 58 (iv k)) (ZQ rfl (sB 6 11 (.tmp 60) (.agg (cTh p.rules[j].guards[k]))) ⟨I0,I0,T0⟩ ⟨rfl,T0⟩ rfl (Ze (Zc ?_)))))))))))))))))))
 refine Zu (dM (mT 7 (.box 3 0)) (dM (mT 8 (iv j)) (dM (mT 10 (iv k)) (dA (fb 2 11 U128 4) I0 (dB (lS ([iv p.rules[j].guards[k].bd.c,iv p.rules[j].guards[k].bd.n,iv p.rules[j].guards[k].bd.t,iv p.rules[j].guards[k].bd.f]) 4 65 U122) I0 rfl (dB (lS (cSz n t f) 3 3 U29) I0 rfl (dD (sc #[.tmp 66,.tmp 67] [] (Ns.Evaluate_c (l:=p.rules[j].guards[k].bd)) [.agg [iv p.rules[j].guards[k].bd.c,iv p.rules[j].guards[k].bd.n,iv p.rules[j].guards[k].bd.t,iv p.rules[j].guards[k].bd.f],.agg (cSz n t f)] rfl rfl rfl) I0 I0 I0 (dM (mT 68 (.tup [iv (evN p.rules[j].guards[k].bd.c p.rules[j].guards[k].bd.n p.rules[j].guards[k].bd.t p.rules[j].guards[k].bd.f n t f),iv (evE p.rules[j].guards[k].bd.c p.rules[j].guards[k].bd.n p.rules[j].guards[k].bd.t p.rules[j].guards[k].bd.f n t f)])) (dA (ZT (X:=iv (evN p.rules[j].guards[k].bd.c p.rules[j].guards[k].bd.n p.rules[j].guards[k].bd.t p.rules[j].guards[k].bd.f n t f)) (.tmp 61) rfl rfl) I0 (dA (ZT (X:=iv (evE p.rules[j].guards[k].bd.c p.rules[j].guards[k].bd.n p.rules[j].guards[k].bd.t p.rules[j].guards[k].bd.f n t f)) (.tmp 61) rfl rfl) I0 (dA (Yl (off:=0) (.tmp 62) rfl) I0 (dA (fb 15 71 U111 16) I0 (dC (YT (off':=15+j*2) (.tmp 72) (.tmp 63) rfl U108 (by kernel_rfl) (by omega) (by omega) rfl) I0 I0 (dC (YT (off':=15+j*2+k*1) (.tmp 73) (.tmp 64) rfl U107 (by kernel_rfl) (by omega) (by omega) rfl) I0 I0 (dR (ZD (T0:=111) (X:=iv (evN p.rules[j].guards[k].bd.c p.rules[j].guards[k].bd.n p.rules[j].guards[k].bd.t p.rules[j].guards[k].bd.f n t f)) (off:=15+j*2+k*1) (cs:=En.sysB p n t f j k (.v (.slice none 0 0)) (.v (.slice none 0 0))) (ds:=En.sysB p n t f j (k+1) (.v (.slice none 0 0)) (.v (.slice none 0 0))) (z:=1) (.tmp 74) (.tmp 69) rfl (by kernel_rfl) (by kernel_rfl) (by kernel_rfl) (by rw [En.sysB_len];omega) (En.sysB_step hj1 hr8 hk1 (by omega) rfl)) ⟨I0,I0,T0⟩ ⟨rfl,T0⟩ rfl (dE ?_)))))))))))))))) (by kernel_rfl)
 show ETri J w0 _ _ _
 refine kW 80 [(2,.box 29 (cSz n t f)),(3,.box 111 (En.sysB p n t f j (k+1) (.v (.slice none 0 0)) (.v (.slice none 0 0)))),(4,.box 65 (cRu p.rules[j])),(5,.box 128 (cTh p.rules[j].guards[k]))] [(3,.box 2 0),(4,.v (.pointer none)),(5,iv 0),(7,.box 3 0),(8,iv j),(9,.box 4 0),(10,iv k),(11,.box 5 0),(46,slA 18 cRu p.rules),(47,iv p.rules.length),(48,iv j),(49,bT),(54,slA 6 cTh p.rules[j].guards),(55,iv (p.rules[j].guards.length:Nat)),(56,iv k),(57,bT)] (ZX (Zc (Za (oC (Yj (c:=((k+1:Nat):Int)) rfl (w64 (by omega) (by omega) (by omega))) I0 I0 (pM (mT 75 (iv (k+1:Nat))) (kN 80 [(2,.box 29 (cSz n t f)),(3,.box 111 (En.sysB p n t f j (k+1) (.v (.slice none 0 0)) (.v (.slice none 0 0)))),(4,.box 65 (cRu p.rules[j])),(5,.box 128 (cTh p.rules[j].guards[k]))] [(3,.box 2 0),(4,.v (.pointer none)),(5,iv 0),(7,.box 3 0),(8,iv j),(9,.box 4 0),(10,iv k),(11,.box 5 0),(46,slA 18 cRu p.rules),(47,iv p.rules.length),(48,iv j),(49,bT),(54,slA 6 cTh p.rules[j].guards),(55,iv (p.rules[j].guards.length:Nat)),(56,iv (k+1:Nat)),(57,bT)] (Zc ?_)))))))
 refine ZZ ⟨k+1,by omega⟩ (show p.rules[j].guards.length-(k+1)<p.rules[j].guards.length-k by omega) ?_
 exact Zj _ _ rfl (by kernel_rfl) (by kernel_rfl)
 refine Za (oC (Z5 rfl (dF hs3)) I0 I0 (Ze (Zc (Zb (Zo rfl (Yn (Zy (Zy (t_hit (ZX (Zc (Za (oC (Yj (c:=((j+1:Nat):Int)) rfl (w64 (by omega) (by omega) (by omega))) I0 I0 (pM (mT 76 (iv (j+1:Nat))) (kN 80 [(2,.box 29 (cSz n t f)),(3,.box 111 (En.sysB p n t f j k (.v (.slice none 0 0)) (.v (.slice none 0 0)))),(4,.box 65 (cRu p.rules[j]))] [(3,.box 2 0),(4,.v (.pointer none)),(5,iv 0),(7,.box 3 0),(8,iv j),(9,.box 4 0),(46,slA 18 cRu p.rules),(47,iv p.rules.length),(48,iv (j+1:Nat)),(49,bT),(54,slA 6 cTh p.rules[j].guards),(55,iv (p.rules[j].guards.length:Nat)),(56,iv k),(57,bF)] (Zc ?_))))))))))))))))
 refine ZZ ⟨j+1,by omega⟩ (show p.rules.length-(j+1)<p.rules.length-j by omega) ?_
 show Wk _ _ (ofL [(2,.box 29 (cSz n t f)),(3,.box 111 (En.sysB p n t f (j+1) 0 (.v (.slice none 0 0)) (.v (.slice none 0 0))))]) (ofT 80 [(3,.box 2 0),(4,.v (.pointer none)),(5,iv 0),(7,.box 3 0),(46,slA 18 cRu p.rules),(47,iv p.rules.length),(48,iv ((j+1):Nat))])
 rw [En.sysB_row hj1 (by omega:¬ k<p.rules[j].guards.length)]
 exact Zj _ _ rfl (by kernel_rfl) (by kernel_rfl)
 refine Za (oC (Z5 rfl (dF hs2)) I0 I0 (kN 80 [(2,.box 29 (cSz n t f)),(3,.box 111 (En.sysB p n t f j 0 (.v (.slice none 0 0)) (.v (.slice none 0 0))))] [(3,.box 2 0),(4,.v (.pointer none)),(5,iv 0),(7,.box 3 0),(46,slA 18 cRu p.rules),(47,iv p.rules.length),(48,iv j),(49,bF)] (Zc (Zb (Zo rfl (Yn (Zy (Zy (t_hit (Zc (Zb (kW 80 [(3,.box 111 (En.sysB p n t f j 0 (.v (.slice none 0 0)) (.v (.slice none 0 0))))] [(4,.v (.pointer none)),(5,iv 0),(7,.box 3 0)] ?_))))))))))))
 rw [show j=p.rules.length by omega]
 refine Za (pM (mT 7 (.box 3 0)) (ZQ rfl (sp_callWB (T:=111) (cs:=En.sysB p n t f p.rules.length 0 (.v (.slice none 0 0)) (.v (.slice none 0 0))) (ds:=En.sysB p n t f p.rules.length 0 (.fr (slA 1 cLi (Ns.shT p.top (Ns.cntE p n f)))) (.fr ((En.lkS p.top (Ns.cntE p n f).toNat)))) (c := .func 62) (xs := #[.tmp 77]) (k:=3) 1000000 [true,false,true,true,true,true,true,true,true,true,true,true,true,false,true,true,true,true,true,true,true,true,true,true,true,true,true,true,true,true,true,false,false] [] (fun xs_=>(En.place_mx (p:=p) (n:=n) (t:=t) (f:=f) (fun q=>iv (En.bdP p n t f p.rules.length 0 q)) hc0 hc8 xs_)) rfl (by kernel_rfl) rfl (Xs:=[.box 3 0]) rfl rfl (Ns.pw1) rfl rfl rfl (Ns.plain_mask (fun _=>by kernel_rfl)) rfl rfl rfl) ⟨I0,I0,T0⟩ ⟨rfl,T0⟩ rfl (Ze (Zc (Zb (Za (pM (mT 7 (.box 3 0)) (pM (aT 79 (.box 3 0)) (pM (aC (.int .i64 0)) (Ze (Zc (Zk ?_))))))))))))
 refine tri_endA2 [(3,.box 111 (En.sysB p n t f p.rules.length 0 (.fr (slA 1 cLi (Ns.shT p.top (Ns.cntE p n f)))) (.fr ((En.lkS p.top (Ns.cntE p n f).toNat)))))] Try.results40 (.tmp rfl) (.tmp rfl) (by kernel_rfl) rfl rfl rfl ?_ ?_ ?_
 · exact (show Plain (.el (En.sysP p n t f) 0) from .el (Z6 (En.plain_sysP p n t f)))
 · exact .v _
 kernel_rfl
set_option maxRecDepth 100000
set_option maxHeartbeats 6400000
theorem outB_c {x m:Int}:Ctr Try.prog J 66 [iv x,.el ([iv m]) 0] (bv (Rd.outB m x)):=by
 refine ZJ Try.func66 rfl (by intro X hX;simp only [List.mem_cons,List.not_mem_nil,or_false] at hX;rcases hX with rfl | rfl;exact .v _;exact .el (Z6 (by intro X hX;rw [List.mem_singleton.1 hX];exact .v _))) (n:=11) rfl (by simp) (fun w0 => ?_)
 refine kW 11 [] [(0,iv x),(1,.el ([iv m]) 0)] (Zb (Za (pM (aC (.bool false)) (Ze (Zc (Zb ?_))))))
 by_cases hs1:x<0
 refine Za (pM (mT 0 (iv x)) (oC (Z5 rfl (dT hs1)) I0 I0 (pM (mT 5 bT) (qK (qK (qK (pP (pk true bT (.v (.tuple #[])) rfl) (pM (aT 10 bT) (Ze (Zc (Zk ?_)))))))))))
 refine Zl Try.results66 (.tmp rfl) ?_
 exact congrArg (fun x:Bool=>AV.v (.bool x)) ((Rd.outB_lo hs1).symm)
 refine Za (pM (mT 0 (iv x)) (oC (Z5 rfl (dF hs1)) I0 I0 (pM (mT 5 bF) (qM (mT 0 (iv x)) (gA (lE (iv m) 1 U3) I0 (gC (YL rfl rfl) I0 I0 (pP (pk false bT (bv (decide (m≤x))) rfl) (pM (aT 10 (bv (decide (m≤x)))) (Ze (Zc (Zk ?_)))))))))))
 refine Zl Try.results66 (.tmp rfl) ?_
 exact congrArg (fun x:Bool=>AV.v (.bool x)) ((Rd.outB_hi hs1).symm)
theorem ixOut_c (xs:List Int) {m:Int} (lx:xs.length≤9223372036854775807):Ctr Try.prog J 91 [Zd xs,.clo 66 [.el ([iv m]) 0]] (iv (Rd.ixP xs (Rd.outB m))):=by
 refine ZJ Try.func91 rfl (by intro X hX;simp only [List.mem_cons,List.not_mem_nil,or_false] at hX;rcases hX with rfl | rfl;exact Yc _;exact .clo (fun j hj=>match j,hj with | 0,_ => .el (Z6 (by intro X hX;rw [List.mem_singleton.1 hX];exact .v _)))) (n:=19) rfl (by simp) (fun w0 => ?_)
 refine kW 19 [] [(0,Zd xs),(1,.clo 66 [.el ([iv m]) 0])] (Zb (Za (pM (aC (.int .i64 0)) (Ze (Zc (Zb (Zb (Za (pM (mT 0 (Zd xs)) (oA (nS 6 U24) I0 (pM (Ki (.const (.int .i64 0)) (iv 0) rfl) (kN 19 [] [(0,Zd xs),(1,.clo 66 [.el ([iv m]) 0]),(4,iv 0),(7,iv xs.length),(8,iv 0)] (Zc (ZE ?_))))))))))))))
 refine Yp (σ:={k:Nat // k≤xs.length∧Rd.noP xs (Rd.outB m) k}) (fun s=>(ofL [],ofT 19 [(0,Zd xs),(1,.clo 66 [.el ([iv m]) 0]),(7,iv xs.length),(8,iv s.1)])) (fun s=>xs.length-s.1) ⟨0,Nat.zero_le _,Rd.noP_zero _ _⟩ (Zj [] _ rfl (by kernel_rfl) (by kernel_rfl)) (fun s => ?_)
 obtain ⟨k,hk0,hs0⟩:=s
 show ETri J w0 (ofL []) (ofT 19 [(0,Zd xs),(1,.clo 66 [.el ([iv m]) 0]),(7,iv xs.length),(8,iv k)]) _
 refine Zb ?_
 by_cases hs1:((k:Nat):Int)<((xs.length:Nat):Int)
 refine Za (oC (Z5 rfl (dT hs1)) I0 I0 (Ze (Zc (Zb (Zm rfl (Zn (Zc (Zb (ZE (Zb (Za (pM (mT 8 (iv k)) (pM (aT 10 (iv k)) (Ze (Zc (Zb ?_))))))))))))))))
 by_cases hs2:(Rd.outB m xs[k])=true
 refine Za (pM (mT 1 (.clo 66 [.el ([iv m]) 0])) (pM (mT 0 (Zd xs)) (pM (mT 5 (iv k)) (oC (xS (k*1) 12 13 U24) I0 I0 (oA (lE (iv xs[k]) 14 U3 (Kk xs (by omega))) I0 (oC (sp_callClo (c := .tmp 11) (xs := #[.tmp 15]) (Cs:=[.el ([iv m]) 0]) [] (ZS outB_c hs2) rfl (by kernel_rfl) rfl (Xs:=[iv xs[k]]) rfl rfl rfl rfl rfl) I0 I0 (Ze (Zc (Zm rfl (Zb (Za (pM (mT 5 (iv k)) (pM (aT 17 (iv k)) (Ze (Zc (Zk (Zv (Zh (Zh (Zv (Zh ?_)))))))))))))))))))))
 refine Zl Try.results91 (.tmp rfl) ?_
 exact congrArg (fun x:Int=>AV.v (.int .i64 x)) ((Rd.ixP_at (by omega) hs0 hs2).symm)
 have hs2f:(Rd.outB m xs[k])=false:=by simpa using hs2
 refine Za (pM (mT 1 (.clo 66 [.el ([iv m]) 0])) (pM (mT 0 (Zd xs)) (pM (mT 5 (iv k)) (oC (xS (k*1) 12 13 U24) I0 I0 (oA (lE (iv xs[k]) 14 U3 (Kk xs (by omega))) I0 (oC (sp_callClo (c := .tmp 11) (xs := #[.tmp 15]) (Cs:=[.el ([iv m]) 0]) [] (ZS outB_c hs2f) rfl (by kernel_rfl) rfl (Xs:=[iv xs[k]]) rfl rfl rfl rfl rfl) I0 I0 (Ze (Zc (Zo rfl (Zn (ZX (Zc (Za (oC (Yj (c:=((k+1:Nat):Int)) rfl (w64 (by omega) (by omega) (by omega))) I0 I0 (pM (mT 18 (iv (k+1:Nat))) (kN 19 [] [(0,Zd xs),(1,.clo 66 [.el ([iv m]) 0]),(5,iv k),(7,iv xs.length),(8,iv (k+1:Nat)),(9,bT),(16,bF)] (Zc ?_)))))))))))))))))
 refine ZZ ⟨k+1,by omega,Rd.noP_succ (by omega) hs0 hs2f⟩ (show xs.length-(k+1)<xs.length-k by omega) ?_
 exact Zj [] _ rfl (by kernel_rfl) (by kernel_rfl)
 refine Za (oC (Z5 rfl (dF hs1)) I0 I0 (Ze (Zc (Zb (Zo rfl (Yn (Zy (Zy (t_hit (Zc (Zb (Za (pM (aC (.int .i64 (-1))) (Ze (Zc (Zk ?_))))))))))))))))
 refine Zl Try.results91 (.tmp rfl) ?_
 exact congrArg (fun x:Int=>AV.v (.int .i64 x)) ((Rd.ixP_none (k:=k) (by omega) hs0).symm)
theorem hasOut_c (xs:List Int) {m:Int} (lx:xs.length≤9223372036854775807):Ctr Try.prog J 65 [Zd xs,.clo 66 [.el ([iv m]) 0]] (bv (xs.any (Rd.outB m))):=by
 refine ZJ Try.func65 rfl (by intro X hX;simp only [List.mem_cons,List.not_mem_nil,or_false] at hX;rcases hX with rfl | rfl;exact Yc _;exact .clo (fun j hj=>match j,hj with | 0,_ => .el (Z6 (by intro X hX;rw [List.mem_singleton.1 hX];exact .v _)))) (n:=9) rfl (by simp) (fun w0 => ?_)
 refine kW 9 [] [(0,Zd xs),(1,.clo 66 [.el ([iv m]) 0])] (Zb (Za (pM (aC (.bool false)) (Ze (Zc (Zb (Za (pM (mT 0 (Zd xs)) (pM (mT 1 (.clo 66 [.el ([iv m]) 0])) (oD (sc #[.tmp 5,.tmp 6] [] (ixOut_c xs lx) [Zd xs,.clo 66 [.el ([iv m]) 0]] rfl rfl rfl) I0 I0 I0 (oC (YL rfl rfl) I0 I0 (pM (aT 8 (bv (decide (0≤(Rd.ixP xs (Rd.outB m)))))) (Ze (Zc (Zk ?_)))))))))))))))
 refine Zl Try.results65 (.tmp rfl) ?_
 exact congrArg (fun x:Bool=>AV.v (.bool x)) (Rd.anyP_ix xs (Rd.outB m))
theorem Ke (xs:List Int) {m:Int} (lx:xs.length≤9223372036854775807):Ctr Try.prog J 45 [Zd xs,iv m] (bv (Rd.belB xs m)):=by
 refine ZJ Try.func45 rfl (by intro X hX;simp only [List.mem_cons,List.not_mem_nil,or_false] at hX;rcases hX with rfl | rfl;exact Yc _;exact .v _) (n:=9) rfl (by simp) (fun w0 => ?_)
 refine kW 9 [] [(0,Zd xs),(1,iv m)] (Zb (Za (ZQ rfl (YC (X:=iv m) (k:=1) (.tmp 1) rfl rfl) ⟨I0,T0⟩ T0 rfl (pM (aC (.bool false)) (Ze (Zc (Zb (Za (pM (mT 0 (Zd xs)) (oA (sp_makeFunc (xs := #[.tmp 3]) (Xs:=[.box 1 0]) rfl rfl) I0 (ZQ rfl (sc #[.tmp 5,.tmp 6] [(1,.box 3 [iv m])] (hasOut_c xs lx) [Zd xs,.clo 66 [.box 1 0]] rfl rfl rfl) ⟨I0,I0,I0,T0⟩ ⟨rfl,T0⟩ T0 (oA (Zq rfl rfl) I0 (pM (aT 8 (bv (!(xs.any (Rd.outB m))))) (Ze (Zc (Zk ?_))))))))))))))))
 refine Zl Try.results45 (.tmp rfl) ?_
 exact rfl
theorem isShape1_c {x sh:List Int} (HX:InOk x) (HS:InOk sh):Ctr Try.prog J 89 [Zd x,.el ([Zd sh]) 0] (bv (decide (sh=x))):=by
 refine ZJ Try.func89 rfl (by intro X hX;simp only [List.mem_cons,List.not_mem_nil,or_false] at hX;rcases hX with rfl | rfl;exact Yc _;exact .el (Z6 (by intro X hX;rw [List.mem_singleton.1 hX];exact Yc _))) (n:=7) rfl (by simp) (fun w0 => ?_)
 refine kW 7 [] [(0,Zd x),(1,.el ([Zd sh]) 0)] (Zb (Za (pM (aC (.bool false)) (Ze (Zc (Zb (Za (oA (lE (Zd sh) 1 U24) I0 (pM (mT 0 (Zd x)) (oD (sc #[.tmp 4,.tmp 5] [] (eqIntsG sh x HS HX) [Zd sh,Zd x] rfl rfl rfl) I0 I0 I0 (pM (aT 6 (bv (decide (sh=x)))) (Ze (Zc (Zk ?_))))))))))))))
 refine Zl Try.results89 (.tmp rfl) ?_
 exact rfl
theorem ixShape_c {S:List (List Int)} (hS:∀ x∈S,InOk x) (lS:S.length≤5) {sh:List Int} (HS:InOk sh):Ctr Try.prog J 88 [slA 1 cLi S,.clo 89 [.el ([Zd sh]) 0]] (iv (Rd.ixP S fun x=>decide (sh=x))):=by
 refine ZJ Try.func88 rfl (by intro X hX;simp only [List.mem_cons,List.not_mem_nil,or_false] at hX;rcases hX with rfl | rfl;exact plain_sl plain_li _;exact .clo (fun j hj=>match j,hj with | 0,_ => .el (Z6 (by intro X hX;rw [List.mem_singleton.1 hX];exact Yc _)))) (n:=19) rfl (by simp) (fun w0 => ?_)
 refine kW 19 [] [(0,slA 1 cLi S),(1,.clo 89 [.el ([Zd sh]) 0])] (Zb (Za (pM (aC (.int .i64 0)) (Ze (Zc (Zb (Zb (Za (pM (mT 0 (slA 1 cLi S)) (oA (nS 6 U69) I0 (pM (Ki (.const (.int .i64 0)) (iv 0) rfl) (kN 19 [] [(0,slA 1 cLi S),(1,.clo 89 [.el ([Zd sh]) 0]),(4,iv 0),(7,iv S.length),(8,iv 0)] (Zc (ZE ?_))))))))))))))
 refine Yp (σ:={k:Nat // k≤S.length∧Rd.noP S (fun x=>decide (sh=x)) k}) (fun s=>(ofL [],ofT 19 [(0,slA 1 cLi S),(1,.clo 89 [.el ([Zd sh]) 0]),(7,iv S.length),(8,iv s.1)])) (fun s=>S.length-s.1) ⟨0,Nat.zero_le _,Rd.noP_zero _ _⟩ (Zj [] _ rfl (by kernel_rfl) (by kernel_rfl)) (fun s => ?_)
 obtain ⟨k,hk0,hs0⟩:=s
 show ETri J w0 (ofL []) (ofT 19 [(0,slA 1 cLi S),(1,.clo 89 [.el ([Zd sh]) 0]),(7,iv S.length),(8,iv k)]) _
 refine Zb ?_
 by_cases hs1:((k:Nat):Int)<((S.length:Nat):Int)
 refine Za (oC (Z5 rfl (dT hs1)) I0 I0 (Ze (Zc (Zb (Zm rfl (Zn (Zc (Zb (ZE (Zb (Za (pM (mT 8 (iv k)) (pM (aT 10 (iv k)) (Ze (Zc (Zb ?_))))))))))))))))
 by_cases hs2:(decide (sh=S[k]))=true
 refine Za (pM (mT 1 (.clo 89 [.el ([Zd sh]) 0])) (pM (mT 0 (slA 1 cLi S)) (pM (mT 5 (iv k)) (oC (xS (k*1) 12 13 U69) I0 I0 (oA (lE (Zd S[k]) 14 U24 ((ZA lenLi S k 0 (by omega) (by decide)).trans rfl)) I0 (oC (sp_callClo (c := .tmp 11) (xs := #[.tmp 15]) (Cs:=[.el ([Zd sh]) 0]) [] (ZS (isShape1_c (hS S[k] (List.getElem_mem (by omega))) HS) hs2) rfl (by kernel_rfl) rfl (Xs:=[Zd S[k]]) rfl rfl rfl rfl rfl) I0 I0 (Ze (Zc (Zm rfl (Zb (Za (pM (mT 5 (iv k)) (pM (aT 17 (iv k)) (Ze (Zc (Zk (Zv (Zh (Zh (Zv (Zh ?_)))))))))))))))))))))
 refine Zl Try.results88 (.tmp rfl) ?_
 exact congrArg (fun x:Int=>AV.v (.int .i64 x)) ((Rd.ixP_at (by omega) hs0 hs2).symm)
 have hs2f:(decide (sh=S[k]))=false:=by simpa using hs2
 refine Za (pM (mT 1 (.clo 89 [.el ([Zd sh]) 0])) (pM (mT 0 (slA 1 cLi S)) (pM (mT 5 (iv k)) (oC (xS (k*1) 12 13 U69) I0 I0 (oA (lE (Zd S[k]) 14 U24 ((ZA lenLi S k 0 (by omega) (by decide)).trans rfl)) I0 (oC (sp_callClo (c := .tmp 11) (xs := #[.tmp 15]) (Cs:=[.el ([Zd sh]) 0]) [] (ZS (isShape1_c (hS S[k] (List.getElem_mem (by omega))) HS) hs2f) rfl (by kernel_rfl) rfl (Xs:=[Zd S[k]]) rfl rfl rfl rfl rfl) I0 I0 (Ze (Zc (Zo rfl (Zn (ZX (Zc (Za (oC (Yj (c:=((k+1:Nat):Int)) rfl (w64 (by omega) (by omega) (by omega))) I0 I0 (pM (mT 18 (iv (k+1:Nat))) (kN 19 [] [(0,slA 1 cLi S),(1,.clo 89 [.el ([Zd sh]) 0]),(5,iv k),(7,iv S.length),(8,iv (k+1:Nat)),(9,bT),(16,bF)] (Zc ?_)))))))))))))))))
 refine ZZ ⟨k+1,by omega,Rd.noP_succ (by omega) hs0 hs2f⟩ (show S.length-(k+1)<S.length-k by omega) ?_
 exact Zj [] _ rfl (by kernel_rfl) (by kernel_rfl)
 refine Za (oC (Z5 rfl (dF hs1)) I0 I0 (Ze (Zc (Zb (Zo rfl (Yn (Zy (Zy (t_hit (Zc (Zb (Za (pM (aC (.int .i64 (-1))) (Ze (Zc (Zk ?_))))))))))))))))
 refine Zl Try.results88 (.tmp rfl) ?_
 exact congrArg (fun x:Int=>AV.v (.int .i64 x)) ((Rd.ixP_none (k:=k) (by omega) hs0).symm)
theorem Rd.shT_ok (top n:Int):∀ x∈Ns.shT top n,InOk x:=by
  unfold Ns.shT
  split
  · exact fun x hx=>(Sh.shX_mem n x hx).2
  intro x hx;cases hx
theorem Rd.shT_len (top n:Int):(Ns.shT top n).length≤5:=by
  unfold Ns.shT
  split
  · exact Sh.shX_len n
  simp
theorem readShape_c {p:Fm} {n t f:Int} {sh:List Int} (HS:InOk sh) (lsh:sh.length≤100):Ctr Try.prog J 63 [.el (Ns.sysC p n t f) 0,Zd sh] (.tup [iv (Rd.shI p.top (Ns.shT p.top (Ns.cntE p n f)) sh),bv (Rd.shB p.top (Ns.shT p.top (Ns.cntE p n f)) sh)]):=by
 refine ZJ Try.func63 rfl (by intro X hX;simp only [List.mem_cons,List.not_mem_nil,or_false] at hX;rcases hX with rfl | rfl;exact (show Plain (.el (Ns.sysC p n t f) 0) from .el (Z6 (Ns.plain_sys p n t f)));exact Yc _) (n:=26) rfl (by simp) (fun w0 => ?_)
 refine kW 26 [] [(0,.el (Ns.sysC p n t f) 0),(1,Zd sh)] (Zb (Za (ZQ rfl (YC (X:=Zd sh) (k:=1) (.tmp 1) rfl rfl) ⟨I0,T0⟩ T0 rfl (pM (aC (.int .i64 0)) (pM (aC (.bool false)) (Ze (Zc (Zb (Zb ?_)))))))))
 by_cases hs1:p.top=4
 refine Za (pM (mT 0 (.el (Ns.sysC p n t f) 0)) (oA (Zx (off:=0) (.tmp 7) rfl) I0 (oA (fe 0 8 U111 10) I0 (oA (fe 1 9 U27 1) I0 (oA (lE (iv p.top) 10 U3) I0 (oC (Zs rfl (dT' hs1)) I0 I0 (Ze (Zc (Zo rfl (Zn (Zc (Zb (Za (pM (mT 0 (.el (Ns.sysC p n t f) 0)) (oA (Zx (off:=0) (.tmp 16) rfl) I0 (oA (fe 31 17 U111 1) I0 (oA (lE (slA 1 cLi (Ns.shT p.top (Ns.cntE p n f))) 18 U69) I0 (oA (sp_makeFunc (xs := #[.tmp 3]) (Xs:=[.box 1 0]) rfl rfl) I0 (ZQ rfl (sc #[.tmp 19,.tmp 20] [(1,.box 24 [Zd sh])] (ixShape_c (Rd.shT_ok _ _) (Rd.shT_len _ _) HS) [slA 1 cLi (Ns.shT p.top (Ns.cntE p n f)),.clo 89 [.box 1 0]] rfl rfl rfl) ⟨I0,I0,I0,T0⟩ ⟨rfl,T0⟩ T0 (pM (aT 21 (iv (Rd.ixP (Ns.shT p.top (Ns.cntE p n f)) fun x=>decide (sh=x)))) (Ze (Zc (Zb ?_)))))))))))))))))))))))
 refine Za (pM (mT 6 (iv (Rd.ixP (Ns.shT p.top (Ns.cntE p n f)) fun x=>decide (sh=x)))) (oC (sp_max (.tmp 22) (.const (.int .i64 0)) rfl) I0 I0 (pM (mT 6 (iv (Rd.ixP (Ns.shT p.top (Ns.cntE p n f)) fun x=>decide (sh=x)))) (oC (YL rfl rfl) I0 I0 (pM (aT 23 (iv (max (Rd.ixP (Ns.shT p.top (Ns.cntE p n f)) fun x=>decide (sh=x)) 0))) (pM (aT 25 (bv (decide (0≤(Rd.ixP (Ns.shT p.top (Ns.cntE p n f)) fun x=>decide (sh=x)))))) (Ze (Zc (Zk ?_)))))))))
 refine Yr Try.results63 (.tmp rfl) (.tmp rfl) ?_
 rw [Rd.shI_tree hs1,Rd.shB_tree hs1]
 exact rfl
 refine Za (pM (mT 0 (.el (Ns.sysC p n t f) 0)) (oA (Zx (off:=0) (.tmp 7) rfl) I0 (oA (fe 0 8 U111 10) I0 (oA (fe 1 9 U27 1) I0 (oA (lE (iv p.top) 10 U3) I0 (oC (Zs rfl (dF' hs1)) I0 I0 (Ze (Zc (Zm rfl (Zb ?_))))))))))
 refine Zu (dB (lb (Zd sh) 3 U24) I0 rfl (dA (nS 13 U24) I0 (dC (Zp rfl rfl) I0 I0 (dM (aC (.int .i64 0)) (dM (aT 15 (bv (decide (((sh.length:Nat):Int)=0)))) (dE ?_)))))) (by kernel_rfl)
 show ETri J w0 _ _ _
 refine Zc (Zk (Zh ?_))
 refine Yr Try.results63 (.tmp rfl) (.tmp rfl) ?_
 rw [Rd.shI_no hs1,Rd.shB_no hs1]
 exact rfl
end Go.Proofs.Ytengacodacejiaa
