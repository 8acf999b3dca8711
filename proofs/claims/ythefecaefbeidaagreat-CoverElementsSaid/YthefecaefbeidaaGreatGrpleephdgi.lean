import Derived.Test.YthefecaefbeidaaGreatGrpldgmcmbn
import Derived.Test.YthefecaefbeidaaGreatGrplpjfmklp
import Derived.Test.YthefecaefbeidaaGreatGrpcdkhhigo
import Derived.Test.YthefecaefbeidaaGreatGrpgojjocei
import Derived.Test.YthefecaefbeidaaGreatGrpacmcpece
import Derived.Test.YthefecaefbeidaaGreatGrpjikmclcc
import Derived.Test.YthefecaefbeidaaGreatGrpcfimmnpe
set_option linter.all false
namespace Go.Proofs.YthefecaefbeidaaGreat
open Go.RowKit Go.Deep
variable {J:World→Prop}
variable {x:Int}
theorem cls_out {w':World} {F ok:Nat→Prop} {a b c d e:Bool} :Pu F w' ok (.tup [.agg [bv a,bv b,bv c,bv d,bv e],iv x]) (.tuple #[.agg #[.bool a,.bool b,.bool c,.bool d,.bool e],.int .i64 x]):=by
 refine .tup rfl fun j hj => ?_
 match j,hj with
 | 1,_=>exact .v _
 | 0,_ =>
   refine .agg rfl fun j hj => ?_
   match j,hj with
   | 0,_=>exact .v _
   | 1,_=>exact .v _
   | 2,_=>exact .v _
   | 3,_=>exact .v _
   | 4,_=>exact .v _
def clA (q:Fm):List AV:=[bv (decide (valE q=0)&&clTh q),bv (decide (valE q=0)&&clCo q),bv (decide (valE q=0)&&clWo q),bv (decide (valE q=0)&&clTr q),bv (decide (valE q=0)&&clMo q)]
variable {q:Fm}
theorem ZcV (hq:FmOk q):Ctr Tryz.prog J 114 [.agg (cFm q)] (.tup [.agg (clA q),iv (valE q)]):=ctr1 fun w v _ h =>
 (ZcE (fam_of hq lo0 h)).mono fun e w' ⟨he,hb⟩=>by
  refine ⟨_,he,?_,hb⟩
  unfold clA
  by_cases h0:valE q=0
  ·rw [if_pos h0,decide_eq_true h0];simp only [Bool.true_and];exact cls_out
  rw [if_neg h0,decide_eq_false h0];simp only [Bool.false_and];exact cls_out
def plI (q:Fm):Bool:=((decide (q.top=1)&&decide (q.fz=0))&&decide ((q.msgs.length:Int)=0))&&decide ((q.res.length:Int)=0)
theorem plI_eq (q:Fm):plI q=plainQ q:=by
 rw [Bool.eq_iff_iff];unfold plI plainQ;simp only [Bool.and_eq_true,decide_eq_true_eq];omega
def thI0 (q:Fm):Bool:=decide (q.top=1)&&decide ((q.vals.length:Int)=0)
def moI (q:Fm):Bool:=plI q&&decide ((q.sz.length:Int)≤4)
def woI (q:Fm):Bool:=decide (q.top=2)||decide (q.top=3)
def trI (q:Fm):Bool:=decide (q.top=4)
def noIc (r:Ru):Bool:=((!decide (r.kind=1)||decide (r.to≤r.frm))||decide ((0:Int)<(r.ex.length:Int)))||decide ((0:Int)<(r.fa.length:Int))
theorem noI_eq (r:Ru):noIc r=noThrB r:=by
 rw [Bool.eq_iff_iff];unfold noIc noThrB;simp only [Bool.or_eq_true,Bool.not_eq_true',decide_eq_true_eq,decide_eq_false_iff_not];omega
def cT (q:Fm) (k:Nat):Bool:=thI0 q && !(q.rz.take k).any noThrB
def cC (q:Fm) (k:Nat):Bool:=plI q && !(q.rz.take k).any demB
theorem cT_zero (q:Fm):cT q 0=thI0 q:=by unfold cT;simp
theorem cC_zero (q:Fm):cC q 0=plI q:=by unfold cC;simp
variable {k:Nat}
theorem W2 {α:Type} {p:α→Bool} {xs:List α} (h:k<xs.length):(xs.take (k+1)).any p=((xs.take k).any p||p xs[k]):=by
 rw [List.take_succ_eq_append_getElem h,List.any_append];simp
theorem cT_t (h:k<q.rz.length) (e:noIc q.rz[k]=true):cT q (k+1)=false:=by
 unfold cT;rw [W2 h,← noI_eq,e];simp
theorem cT_f (h:k<q.rz.length) (e:noIc q.rz[k]=false):cT q (k+1)=cT q k:=by
 unfold cT;rw [W2 h,← noI_eq,e];simp
theorem dem_iff {r:Ru}:demB r=decide ((0:Int)<(r.fa.length:Int)):=by unfold demB;rw [Bool.eq_iff_iff];simp only [decide_eq_true_eq];omega
theorem cC_t (h:k<q.rz.length) (e:(0:Int)<((q.rz[k].fa.length:Nat):Int)):cC q (k+1)=false:=by
 unfold cC;rw [W2 h,dem_iff,decide_eq_true e];simp
theorem cC_f (h:k<q.rz.length) (e:¬ (0:Int)<((q.rz[k].fa.length:Nat):Int)):cC q (k+1)=cC q k:=by
 unfold cC;rw [W2 h,dem_iff,decide_eq_false e];simp
theorem cls_end (h:valE q=0) (hk:k=q.rz.length):AV.tup [.agg [bv (cT q k),bv (cC q k),bv (woI q),bv (trI q),bv (moI q)],iv 0] = .tup [.agg (clA q),iv (valE q)]:=by
 subst hk
 unfold clA
 rw [h]
 have e1:cT q q.rz.length=clTh q:=by
  unfold cT clTh thI0;rw [List.take_length,Bool.eq_iff_iff];simp only [Bool.and_eq_true,decide_eq_true_eq,Bool.not_eq_true']
  constructor
  ·rintro ⟨⟨a,b⟩,c⟩;exact ⟨a,by omega,c⟩
  rintro ⟨a,b,c⟩;exact ⟨⟨a,by omega⟩,c⟩
 have e2:cC q q.rz.length=clCo q:=by unfold cC clCo;rw [List.take_length,plI_eq]
 have e3:moI q=clMo q:=by
  unfold moI clMo;rw [plI_eq,Bool.eq_iff_iff];simp only [Bool.and_eq_true,decide_eq_true_eq]
  constructor
  ·rintro ⟨a,b⟩;exact ⟨a,by omega⟩
  rintro ⟨a,b⟩;exact ⟨a,by omega⟩
 rw [e1,e2,e3]
 rfl
theorem cls_err (h:¬ valE q=0):AV.tup [.agg [bF,bF,bF,bF,bF],iv (valE q)] = .tup [.agg (clA q),iv (valE q)]:=by
 unfold clA;rw [decide_eq_false h];rfl
structure Em where
 v:Int
 c:List Int
def cEm (e:Em):List AV:=[iv e.v,Zc e.c]
theorem lenEm (e:Em):(cEm e).length=2:=rfl
structure EmOk (e:Em):Prop where
 v:I64 e.v
 c:InOk e.c
 l:e.c.length≤17592186044416
theorem ZV (e:Em):∀ X∈cEm e,Plain X:=by
 intro X hX
 simp only [cEm,List.mem_cons,List.not_mem_nil,or_false] at hX
 rcases hX with rfl | rfl
 ·exact .v _
 exact ZU _
namespace Cv
def outC (x:Int):Bool:=decide (x<0)||decide (1048576<x)
theorem outC_lo (h:x<0):outC x=true:=by simp [outC,h]
theorem outC_hi (h:¬ x<0):outC x=decide (1048576<x):=by simp [outC,h]
theorem outC_f (h:outC x=false):0≤x∧x≤1048576:=by
 unfold outC at h
 rw [Bool.or_eq_false_iff,decide_eq_false_iff_not,decide_eq_false_iff_not] at h
 omega
variable {xs:List Int}
theorem Wa (hk:k<xs.length):xs.take (k+1)=xs.take k++[xs[k]]:=by
 rw [List.take_add_one,List.getElem?_eq_getElem hk];rfl
def noP (p:Int→Bool) (xs:List Int) (k:Nat):Bool := !(xs.take k).any p
theorem noP_zero (p:Int→Bool) (xs:List Int):noP p xs 0=true:=rfl
theorem noP_succ {p:Int→Bool} (hk:k<xs.length) (h:noP p xs k=true) (hp:p xs[k]=false):noP p xs (k+1)=true:=by
 unfold noP at *
 rw [Wa hk,List.any_append]
 simp only [Bool.not_eq_true'] at h ⊢
 simp [h,hp]
theorem any_at {p:Int→Bool} (hk:k<xs.length) (hp:p xs[k]=true):xs.any p=true:=List.any_eq_true.2 ⟨_,List.getElem_mem hk,hp⟩
theorem any_none {p:Int→Bool} (hk:¬ k<xs.length) (h:noP p xs k=true):xs.any p=false:=by
 unfold noP at h
 rw [List.take_of_length_le (by omega)] at h
 simpa using h
theorem no_of_any {p:Int→Bool} (k:Nat) (h:xs.any p=false):noP p xs k=true:=by
 unfold noP
 rw [Bool.not_eq_true']
 rw [List.any_eq_false] at h ⊢
 exact fun x hx=>h x (List.mem_of_mem_take hx)
def ixC (p:Int→Bool):List Int→Nat→Int
 | [],_ => -1
 | x::l,k=>if p x=true then (k:Int) else ixC p l (k+1)
theorem ixC_nn {p:Int→Bool}:∀ (l:List Int) (k:Nat),decide (0≤ixC p l k)=l.any p
 | [],k=>rfl
 | x::l,k=>by
   simp only [ixC,List.any_cons]
   split
   ·rename_i h;rw [h];simp
   rename_i h;rw [ixC_nn l (k+1)];simp at h;simp [h]
theorem Zc3 {p:Int→Bool}:∀ (l m:List Int) (k:Nat),l.any p=false→ixC p (l++m) k=ixC p m (k+l.length)
 | [],m,k,_=>rfl
 | x::l,m,k,h=>by
   simp only [List.any_cons,Bool.or_eq_false_iff] at h
   simp only [List.cons_append,ixC,h.1,Bool.false_eq_true,if_false]
   rw [Zc3 l m (k+1) h.2]
   congr 1
   simp;omega
theorem ixC_at {p:Int→Bool} (hk:k<xs.length) (h:noP p xs k=true) (hp:p xs[k]=true):ixC p xs 0=k:=by
 unfold noP at h
 have e:=Zc3 (xs.take k) (xs.drop k) 0 (by simpa using h)
 rw [List.take_append_drop,List.drop_eq_getElem_cons hk] at e
 rw [e,ixC,if_pos hp]
 simp;omega
theorem ixC_none {p:Int→Bool} (hk:¬ k<xs.length) (h:noP p xs k=true):ixC p xs 0 = -1:=by
 unfold noP at h
 rw [List.take_of_length_le (by omega)] at h
 have e:=Zc3 xs [] 0 (by simpa using h)
 rw [List.append_nil] at e
 rw [e];rfl
def okC (xs:List Int):Bool := !xs.any outC
theorem okC_t (h:okC xs=true):xs.any outC=false:=by unfold okC at h;simpa using h
theorem okC_f (h:okC xs=false):xs.any outC=true:=by unfold okC at h;simpa using h
def sumK:List Int→Int
 | []=>0
 | x::l=>x+sumK l
def sumT (xs:List Int) (k:Nat):Int:=sumK (xs.take k)
theorem sumK_app (l m:List Int):sumK (l++m)=sumK l+sumK m:=by
 induction l with
 | nil=>simp [sumK]
 | cons x l ih=>simp only [List.cons_append,sumK,ih];omega
theorem sumT_zero (xs:List Int):sumT xs 0=0:=rfl
theorem sumT_succ (hk:k<xs.length):sumT xs (k+1)=sumT xs k+xs[k]:=by
 unfold sumT
 rw [Wa hk,sumK_app]
 simp [sumK]
theorem sumK_le:∀ {l:List Int},l.any outC=false→0≤sumK l∧sumK l≤1048576*l.length
 | [],_=>⟨Int.le_refl _,by simp [sumK]⟩
 | x::l,h=>by
   simp only [List.any_cons,Bool.or_eq_false_iff] at h
   have:=outC_f h.1
   have:=sumK_le h.2
   simp only [sumK,List.length_cons]
   omega
theorem sumT_le (h:noP outC xs k=true) (l:xs.length≤8):0≤sumT xs k∧sumT xs k≤8388608:=by
 unfold noP at h
 have h1:(xs.take k).any outC=false:=by simpa using h
 have:=sumK_le h1
 have h2:(xs.take k).length≤8:=by simp;omega
 unfold sumT
 omega
theorem tot_b {e:Em} (h:okC e.c=true) (hl:e.c.length≤6) (hk:k<e.c.length):0≤sumT e.c k∧sumT e.c k≤8388608∧0≤e.c[k]∧e.c[k]≤1048576:=by
 have h0:=okC_t h
 have h1:=sumT_le (no_of_any k h0) (by omega)
 have h2:=outC_f (Bool.not_eq_true _ ▸ List.any_eq_false.1 h0 _ (List.getElem_mem hk):outC e.c[k]=false)
 omega
def totE (e:Em):Int:=if 6<e.c.length then 0 else if e.c.any outC=true then 0 else sumK e.c
theorem tot_long {e:Em} (h:6<e.c.length):totE e=0:=if_pos h
theorem tot_o {e:Em} (h:¬ 6<e.c.length) (ho:okC e.c=false):totE e=0:=by unfold totE;rw [if_neg h,if_pos (okC_f ho)]
theorem tot_k {e:Em} (h:¬ 6<e.c.length) (ho:okC e.c=true) (hk:¬ k<e.c.length):totE e=sumT e.c k:=by
 unfold totE
 rw [if_neg h,if_neg (by rw [okC_t ho];simp)]
 unfold sumT
 rw [List.take_of_length_le (by omega)]
def leK (xs ys:List Int) (k:Nat):Prop:=∀ j (hx:j<xs.length) (hy:j<ys.length),j<k→xs[j]≤ys[j]
theorem leK_zero (xs ys:List Int):leK xs ys 0:=fun _ _ _ h=>absurd h (by omega)
variable {ys:List Int}
theorem leK_succ (h:leK xs ys k) (hx:k<xs.length) (hy:k<ys.length) (hk:¬ ys[k]<xs[k]):leK xs ys (k+1):=fun j h1 h2 hj=>by
 by_cases e:j=k
 ·subst e;omega
 exact h j h1 h2 (by omega)
def leB (a b:Em):Bool:=decide (a.v=b.v)&&(decide (a.c.length=b.c.length)&&(a.c.zip b.c).all fun p=>decide (p.1≤p.2))
theorem leB_v {a b:Em} (h:¬ a.v=b.v):leB a b=false:=by simp [leB,h]
theorem leB_l {a b:Em} (h:¬ a.c.length=b.c.length):leB a b=false:=by simp [leB,h]
theorem leB_no {a b:Em} (ha:k<a.c.length) (hb:k<b.c.length) (h:b.c[k]<a.c[k]):leB a b=false:=by
 unfold leB
 rw [Bool.and_eq_false_iff,Bool.and_eq_false_iff]
 refine .inr (.inr (List.all_eq_false.2 ⟨(a.c[k],b.c[k]),?_,by simp;omega⟩))
 rw [List.mem_iff_getElem]
 exact ⟨k,by simp;omega,by simp⟩
theorem leB_yes {a b:Em} (hv:a.v=b.v) (hl:a.c.length=b.c.length) (hk:¬ k<a.c.length) (h:leK a.c b.c k):leB a b=true:=by
 unfold leB
 rw [Bool.and_eq_true,Bool.and_eq_true]
 refine ⟨decide_eq_true hv,decide_eq_true hl,List.all_eq_true.2 fun p hp => ?_⟩
 obtain ⟨j,hj,e⟩:=List.getElem_of_mem hp
 simp only [List.length_zip] at hj
 rw [List.getElem_zip] at e
 subst e
 exact decide_eq_true (h j (by omega) (by omega) (by omega))
def cmpI (x y:Int):Int:=if x<y then -1 else if y<x then 1 else 0
def cmpL:List Int→List Int→Int
 | [],[]=>0
 | [],_::_ => -1
 | _::_,[]=>1
 | x::l,y::m=>if x<y then -1 else if y<x then 1 else cmpL l m
def eqK (xs ys:List Int) (k:Nat):Prop:=k≤ys.length∧xs.take k=ys.take k
theorem eqK_zero (xs ys:List Int):eqK xs ys 0:=⟨Nat.zero_le _,rfl⟩
theorem eqK_succ (h:eqK xs ys k) (hx:k<xs.length) (hy:k<ys.length) (e:xs[k]=ys[k]):eqK xs ys (k+1):=by
 refine ⟨hy,?_⟩
 rw [Wa hx,Wa hy,h.2,e]
theorem cmpL_app (p:List Int) (xs ys:List Int):cmpL (p++xs) (p++ys)=cmpL xs ys:=by
 induction p with
 | nil=>rfl
 | cons x p ih=>simp [cmpL,ih]
theorem KC (h:eqK xs ys k):cmpL xs ys=cmpL (xs.drop k) (ys.drop k):=by
 have e:=cmpL_app (xs.take k) (xs.drop k) (ys.drop k)
 rw [List.take_append_drop,h.2,List.take_append_drop] at e
 exact e
theorem cmpL_lt (h:eqK xs ys k) (hx:k<xs.length) (hy:k<ys.length) (e:xs[k]<ys[k]):cmpL xs ys = -1:=by
 rw [KC h,List.drop_eq_getElem_cons hx,List.drop_eq_getElem_cons hy,cmpL,if_pos e]
theorem cmpL_gt (h:eqK xs ys k) (hx:k<xs.length) (hy:k<ys.length) (e:ys[k]<xs[k]):cmpL xs ys=1:=by
 rw [KC h,List.drop_eq_getElem_cons hx,List.drop_eq_getElem_cons hy,cmpL,if_neg (by omega),if_pos e]
theorem cmpL_long (h:eqK xs ys k) (hx:k<xs.length) (hy:¬ k<ys.length):cmpL xs ys=1:=by
 rw [KC h,List.drop_eq_getElem_cons hx,List.drop_of_length_le (l:=ys) (by omega)]
 rfl
theorem cmpL_short (h:eqK xs ys k) (hx:¬ k<xs.length) (hy:k<ys.length):cmpL xs ys = -1:=by
 rw [KC h,List.drop_eq_getElem_cons hy,List.drop_of_length_le (l:=xs) (by omega)]
 rfl
theorem cmpL_end (h:eqK xs ys k) (hx:¬ k<xs.length) (hy:¬ k<ys.length):cmpL xs ys=0:=by
 rw [KC h,List.drop_of_length_le (by omega),List.drop_of_length_le (by omega)]
 rfl
def cmpE (a b:Em):Int:=if cmpI a.v b.v=0 then cmpL a.c b.c else cmpI a.v b.v
theorem cmpE_lt {a b:Em} (h:a.v<b.v):cmpE a b = -1:=by unfold cmpE cmpI;rw [if_pos h];rfl
theorem cmpE_gt {a b:Em} (h:¬ a.v<b.v) (h2:b.v<a.v):cmpE a b=1:=by unfold cmpE cmpI;rw [if_neg h,if_pos h2];rfl
theorem cmpE_eq {a b:Em} (h:¬ a.v<b.v) (h2:¬ b.v<a.v):cmpE a b=cmpL a.c b.c:=by unfold cmpE cmpI;rw [if_neg h,if_neg h2];rfl
def cErr (q:Fm):Int:=if valE q=0 then (if (clCo q||clMo q)=true then 0 else 7) else valE q
theorem outC_ok (h1:¬ x<0) (h2:¬ 1048576<x):outC x=false:=by simp [outC,h1,h2]
theorem okC_no (hk:¬ k<xs.length) (h:noP outC xs k=true):okC xs=true:=by
 unfold okC;rw [any_none hk h];rfl
theorem okC_at (hk:k<xs.length) (h:xs[k]<0∨1048576<xs[k]):okC xs=false:=by
 unfold okC
 rw [any_at hk (show outC xs[k]=true by unfold outC;rcases h with h | h<;>simp [h])]
 rfl
theorem tot_r {e:Em} (h:noP outC e.c k=true) (hl:e.c.length≤6):0≤sumT e.c k∧sumT e.c k≤8388608:=sumT_le h (by omega)
def acB (q:Fm):Bool:=(decide (valE q=0)&&clCo q)||(decide (valE q=0)&&clMo q)
theorem cErr_v (h:¬ valE q=0):cErr q=valE q:=if_neg h
theorem cErr_no (h:valE q=0) (ha:acB q=false):cErr q=7:=by
 unfold acB at ha
 simp only [h,decide_true,Bool.true_and] at ha
 unfold cErr
 rw [if_pos h,if_neg (by rw [ha];simp)]
theorem cErr_ok (h:valE q=0) (ha:acB q=true):cErr q=0:=by
 unfold acB at ha
 simp only [h,decide_true,Bool.true_and] at ha
 unfold cErr
 rw [if_pos h,if_pos ha]
def fitB (q:Fm) (e:Em):Bool:=decide (e.c.length=q.sz.length)&&(okC e.c&&(decide (0≤e.v)&&decide (e.v<max (q.vals.length:Int) 1)))
theorem fit_f {e:Em} (h:¬ (e.c.length=q.sz.length∧okC e.c=true∧0≤e.v∧e.v<max (q.vals.length:Int) 1)):fitB q e=false:=by
 cases hb:fitB q e with
 | false=>rfl
 | true =>
   unfold fitB at hb
   simp only [Bool.and_eq_true,decide_eq_true_eq] at hb
   exact absurd hb h
theorem fit_t {e:Em} (h1:e.c.length=q.sz.length) (h2:okC e.c=true) (h3:0≤e.v) (h4:e.v<max (q.vals.length:Int) 1):fitB q e=true:=by
 unfold fitB
 simp only [Bool.and_eq_true,decide_eq_true_eq]
 exact ⟨h1,h2,h3,h4⟩
def elE (q:Fm) (e:Em):Int:=if fitB q e=true then 0 else 1
theorem elE_t {e:Em} (h:fitB q e=true):elE q e=0:=if_pos h
theorem elE_f {e:Em} (h:fitB q e=false):elE q e=1:=if_neg (by rw [h];simp)
def veE (q:Fm) (e:Em):Int:=if cErr q=0 then elE q e else cErr q
theorem veE_c {e:Em} (h:¬ cErr q=0):veE q e=cErr q:=if_neg h
theorem veE_e {e:Em} (h:cErr q=0):veE q e=elE q e:=if_pos h
def wideE (l:List Em):Bool:=decide (60<l.length)||l.any fun e=>decide (8<e.c.length)
end Cv
set_option maxRecDepth 100000 in
set_option maxHeartbeats 6400000 in
theorem Leq_c {a b:Em} (HA:EmOk a) (HB:EmOk b):Ctr Tryz.prog J 11 [.agg (cEm a),.agg (cEm b)] (bv (Cv.leB a b)):=by
 have la:=HA.l
 have lb:=HB.l
 refine Zn Tryz.func11 rfl (pN (Zm (ZV a)) (pN (Zm (ZV b)) pZ)) (n:=37) rfl (by simp) (fun w0 => ?_)
 refine kW 37 [] [(0,.agg (cEm a)),(1,.agg (cEm b))] (jB (oX 1 (.agg (cEm a)) (oX 2 (.agg (cEm b)) (oS bF (jD (Zk ?_))))))
 by_cases hs1:a.v=b.v
 by_cases hs2:(a.c.length:Int)=(b.c.length:Int)
 refine Za (oW (oW (oW (oW (on (dT' hs1) (oS bF (oW (oW (oW (oW (oW (oW (on (dT' hs2) (oS bF (jF (jM (Za (oF (Zc a.c) ?_))))))))))))))))))
 refine oS (iv a.c.length) (oS (iv 0) (kN 37 [(2,.box 29 (cEm b))] [(3,bx 2),(4,bF),(22,Zc a.c),(23,iv a.c.length),(24,iv 0)] (Zi (Zl ?_))))
 refine ZL (σ:={k:Nat // k≤a.c.length∧Cv.leK a.c b.c k}) (fun s=>(ofL [(2,.box 29 (cEm b))],ofT 37 [(3,bx 2),(22,Zc a.c),(23,iv a.c.length),(24,iv s.1)])) (fun s=>a.c.length-s.1) ⟨0,Nat.zero_le _,Cv.leK_zero _ _⟩ (Zs _ _) (fun s => ?_)
 obtain ⟨k,hk0,hs0⟩:=s
 show ETri J w0 (ofL [(2,.box 29 (cEm b))]) (ofT 37 [(3,bx 2),(22,Zc a.c),(23,iv a.c.length),(24,iv k)]) _
 refine Zk ?_
 by_cases hs3:(k:Int)<(a.c.length:Int)
 refine Za (ol (dT hs3) (jD (Yy rfl (Zq (jC (Zl (jB (oW (oC (xS (k*1) 22 24 U24) I0 I0 (oL (iv a.c[k]) (Zy a.c (by omega)) (oS (iv k) (oS (iv a.c[k]) (jD ?_)))))))))))))
 by_cases hs4:b.c[k]<a.c[k]
 refine Za (oW (oF (Zc b.c) (oS (iv k) (oC (xS (k*1) 31 32 U24) I0 I0 (oL (iv b.c[k]) (Zy b.c (by omega)) (og (dT hs4) (jG (oS bF (jE (Zg (Zb (Zb (Zg (Zb ?_))))))))))))))
 refine Zd Tryz.results11 (.tmp rfl) ?_
 exact cB ((Cv.leB_no (by omega) (by omega) hs4).symm)
 refine Za (oW (oF (Zc b.c) (oS (iv k) (oC (xS (k*1) 31 32 U24) I0 I0 (oL (iv b.c[k]) (Zy b.c (by omega)) (og (dF hs4) (jI (Zq (ZG (Zi (Za (oV ((k+1:Nat):Int) (oS (iv (k+1:Nat)) (kN 37 [(2,.box 29 (cEm b))] [(3,bx 2),(5,iv k),(6,iv a.c[k]),(22,Zc a.c),(23,iv a.c.length),(24,iv (k+1:Nat)),(25,bT),(35,bF)] (Zi ?_)))))))))))))))
 refine ZD ⟨k+1,by omega,Cv.leK_succ hs0 (by omega) (by omega) hs4⟩ (show a.c.length-(k+1)<a.c.length-k by omega) ?_
 exact Zs _ _
 refine Za (ol (dF hs3) (jD (ZK rfl (jO (jC (Za (oS bT (jE ?_))))))))
 refine Zd Tryz.results11 (.tmp rfl) ?_
 exact cB ((Cv.leB_yes hs1 (by omega) (k:=k) (by omega) hs0).symm)
 refine Za (oW (oW (oW (oW (on (dT' hs1) (oS bF (oW (oW (oW (oW (oW (oW (on (dF' hs2) (oS bT (jG (oS bF (jE ?_)))))))))))))))))
 refine Zb ?_
 refine Zd Tryz.results11 (.tmp rfl) ?_
 exact cB ((Cv.leB_l (by omega)).symm)
 refine Za (oW (oW (oW (oW (on (dF' hs1) (oS bT (qK (qK (qK (qK (qK (qK (qK (oS bT (jG (oS bF (jE ?_)))))))))))))))))
 refine Zb ?_
 refine Zd Tryz.results11 (.tmp rfl) ?_
 exact cB ((Cv.leB_v hs1).symm)
set_option maxRecDepth 100000
set_option maxHeartbeats 6400000
variable {y:Int}
theorem cvI_lt (h:x<y):Cv.cmpI x y = -1:=if_pos h
theorem cvI_gt (h:¬ x<y) (h2:y<x):Cv.cmpI x y=1:=by unfold Cv.cmpI;rw [if_neg h,if_pos h2]
theorem cvI_eq (h:¬ x<y) (h2:¬ y<x):Cv.cmpI x y=0:=by unfold Cv.cmpI;rw [if_neg h,if_neg h2]
theorem cvI_zero :Cv.cmpI x y=0↔x=y:=by unfold Cv.cmpI;split;constructor<;>omega;split<;>constructor<;>omega
theorem isNaN_c (x:Int):Ctr Tryz.prog J 97 [iv x] bF:=by
 refine Zn Tryz.func97 rfl (pN (.v _) pZ) (n:=6) rfl (by simp) (fun w0 => ?_)
 refine kW 6 [] [(0,iv x)] (jB (oS bF (kN 6 [] [(0,iv x),(2,bF)] (jC (Za (oS (iv x) (oS (iv x) (oC (sp_neq rfl (dT' rfl)) I0 I0 (oS bF (jE ?_))))))))))
 refine Zd Tryz.results97 (.tmp rfl) ?_
 exact rfl
theorem cvI_c (x y:Int):Ctr Tryz.prog J 50 [iv x,iv y] (iv (Cv.cmpI x y)):=by
 refine Zn Tryz.func50 rfl (pN (.v _) (pN (.v _) pZ)) (n:=20) rfl (by simp) (fun w0 => ?_)
 refine kW 20 [] [(0,iv x),(1,iv y)] (jB (oS (iv 0) (kN 20 [] [(0,iv x),(1,iv y),(4,iv 0)] (jC (Za (oW (oK (isNaN_c _) [iv x] rfl rfl (oS bF (jD (Za (oW (oK (isNaN_c _) [iv y] rfl rfl (oS bF (jD (jB (oS bF ?_))))))))))))))))
 refine jF (jM (Za (oS bF (jF (jM ?_)))))
 by_cases hs1:x<y
 refine Za (oW (oW (ol (dT hs1) (jG (oS (iv (-1)) (jE (Zb ?_)))))))
 refine Zd Tryz.results50 (.tmp rfl) ?_
 exact congrArg (fun x:Int=>AV.v (.int .i64 x)) ((cvI_lt hs1).symm)
 refine Za (oW (oW (ol (dF hs1) (jF (jM ?_)))))
 by_cases hs2:y<x
 refine Za (oW (oW (og (dT hs2) (kN 20 [] [(4,iv 0),(19,bT)] (Zi (jK (oS (iv 1) (jE (Zb ?_)))))))))
 refine Zd Tryz.results50 (.tmp rfl) ?_
 exact congrArg (fun x:Int=>AV.v (.int .i64 x)) ((cvI_gt hs1 hs2).symm)
 refine Za (oW (oW (og (dF hs2) (kN 20 [] [(4,iv 0),(19,bF)] (jJ (jB (oS (iv 0) (jE ?_))))))))
 refine Zd Tryz.results50 (.tmp rfl) ?_
 exact congrArg (fun x:Int=>AV.v (.int .i64 x)) ((cvI_eq hs1 hs2).symm)
theorem orSlI_c (l:List Int) (hl:l.length≤9223372036854775807):Ctr Tryz.prog J 49 [Zc l] (iv (orL l)):=by
 refine Zn Tryz.func49 rfl (pN (ZU _) pZ) (n:=18) rfl (by simp) (fun w0 => ?_)
 refine kW 18 [] [(0,Zc l)] (jB (oS (iv 0) (kN 18 [] [(0,Zc l),(2,iv 0)] (jC (Za (oS (iv 0) (kN 18 [] [(0,Zc l),(2,iv 0),(3,iv 0)] (jC (jB (oS (Zc l) (oS (iv l.length) (oS (iv 0) (kN 18 [] [(2,iv 0),(3,iv 0),(6,Zc l),(7,iv l.length),(8,iv 0)] (Zi (Zl ?_)))))))))))))))
 refine ZL (σ:={k:Nat // k≤l.length∧orL l=orL (l.drop k)}) (fun s=>(ofL [],ofT 18 [(3,iv 0),(6,Zc l),(7,iv l.length),(8,iv s.1)])) (fun s=>l.length-s.1) ⟨0,Nat.zero_le _,rfl⟩ (Zs [] _) (fun s => ?_)
 obtain ⟨k,hk0,hs0⟩:=s
 show ETri J w0 (ofL []) (ofT 18 [(3,iv 0),(6,Zc l),(7,iv l.length),(8,iv k)]) _
 refine Zk ?_
 by_cases hs1:(k:Int)<(l.length:Int)
 refine Za (ol (dT hs1) (jD (Yy rfl (Zq (jC (Zl (jB (oC (xS (k*1) 6 8 U24) I0 I0 (oL (iv l[k]) (Zy l (by omega)) (oS (iv l[k]) (jD ?_)))))))))))
 by_cases hs2:l[k]=0
 refine Za (oW (oW (on (dT' hs2) (jI (Zq (ZG (Zi (Za (oV ((k+1:Nat):Int) (oS (iv (k+1:Nat)) (kN 18 [] [(3,iv 0),(5,iv l[k]),(6,Zc l),(7,iv l.length),(8,iv (k+1:Nat)),(9,bT),(14,bF)] (Zi ?_))))))))))))
 refine ZD ⟨k+1,by omega,hs0.trans ((WW (by omega)).trans (if_pos hs2))⟩ (show l.length-(k+1)<l.length-k by omega) ?_
 exact Zs [] _
 refine Za (oW (oW (on (dF' hs2) (jG (oF (iv l[k]) (jE (Zg (Zb (Zb (Zg (Zb ?_)))))))))))
 refine Zd Tryz.results49 (.tmp rfl) ?_
 exact congrArg (fun x:Int=>AV.v (.int .i64 x)) (hs0.trans ((WW (by omega)).trans (if_neg hs2))).symm
 refine Za (ol (dF hs1) (jD (ZK rfl (jO (jC (Za (oF (iv 0) (jE ?_))))))))
 refine Zd Tryz.results49 (.tmp rfl) ?_
 obtain rfl:k=l.length:=by omega
 exact congrArg (fun x:Int=>AV.v (.int .i64 x)) (show 0=orL l from by rw [hs0,List.drop_length];rfl)
variable {xs ys:List Int}
theorem sc_ne (h:Cv.eqK xs ys k) (hx:k<xs.length) (hy:k<ys.length) (e:¬ Cv.cmpI xs[k] ys[k]=0):Cv.cmpL xs ys=Cv.cmpI xs[k] ys[k]:=by
 unfold Cv.cmpI at e ⊢
 split
 ·rename_i h1;exact Cv.cmpL_lt h hx hy h1
 rename_i h1
 rw [if_neg h1] at e
 split
 ·rename_i h2;exact Cv.cmpL_gt h hx hy h2
 rename_i h2;rw [if_neg h2] at e;exact absurd rfl e
theorem scC_c (xs ys:List Int) (lx:xs.length≤9223372036854775807) (ly:ys.length≤9223372036854775807):Ctr Tryz.prog J 51 [Zc xs,Zc ys] (iv (Cv.cmpL xs ys)):=by
 refine Zn Tryz.func51 rfl (pN (ZU _) (pN (ZU _) pZ)) (n:=36) rfl (by simp) (fun w0 => ?_)
 refine kW 36 [] [(0,Zc xs),(1,Zc ys)] (jB (oS (iv 0) (jD (jB (oS (Zc xs) (oS (iv xs.length) (oS (iv 0) (kN 36 [] [(0,Zc xs),(1,Zc ys),(4,iv 0),(9,Zc xs),(10,iv xs.length),(11,iv 0)] (Zi (Zl ?_))))))))))
 refine ZL (σ:={k:Nat // k≤xs.length∧Cv.eqK xs ys k}) (fun s=>(ofL [],ofT 36 [(0,Zc xs),(1,Zc ys),(9,Zc xs),(10,iv xs.length),(11,iv s.1)])) (fun s=>xs.length-s.1) ⟨0,Nat.zero_le _,Cv.eqK_zero _ _⟩ (Zs [] _) (fun s => ?_)
 obtain ⟨k,hk0,hs0⟩:=s
 show ETri J w0 (ofL []) (ofT 36 [(0,Zc xs),(1,Zc ys),(9,Zc xs),(10,iv xs.length),(11,iv k)]) _
 refine Zk ?_
 by_cases hs1:(k:Int)<(xs.length:Int)
 refine Za (ol (dT hs1) (jD (Yy rfl (Zq (jC (Zl (jB (oW (oC (xS (k*1) 9 11 U24) I0 I0 (oL (iv xs[k]) (Zy xs (by omega)) (oS (iv k) (oS (iv xs[k]) (jD (Zk ?_))))))))))))))
 by_cases hs2:(ys.length:Int)≤(k:Int)
 refine Za (oW (oW (oW (oh (dT hs2) (jG (oS (iv 1) (jE (Zb (Zg (Zb (Zb (Zg (Zb ?_)))))))))))))
 refine Zd Tryz.results51 (.tmp rfl) ?_
 exact congrArg (fun x:Int=>AV.v (.int .i64 x)) ((Cv.cmpL_long hs0 (by omega) (by omega)).symm)
 refine Za (oW (oW (oW (oh (dF hs2) (jF (jB (oS (Zc ys) (oS (iv k) (oC (xS (k*1) 20 21 U24) I0 I0 (oL (iv ys[k]) (Zy ys (by omega)) (oS (iv ys[k]) (jD (Za (oW (oW (oK (cvI_c xs[k] ys[k]) [iv xs[k],iv ys[k]] rfl rfl ?_))))))))))))))))
 refine oS (iv (Cv.cmpI xs[k] ys[k])) (jD ?_)
 by_cases hs3:(Cv.cmpI xs[k] ys[k])=0
 refine Za (oW (on (dT' hs3) (jI (Zq (ZG (Zi (Za (oV ((k+1:Nat):Int) (oS (iv (k+1:Nat)) (kN 36 [] [(0,Zc xs),(1,Zc ys),(5,iv k),(6,iv xs[k]),(7,iv ys[k]),(8,iv (Cv.cmpI xs[k] ys[k])),(9,Zc xs),(10,iv xs.length),(11,iv (k+1:Nat)),(12,bT),(19,bF),(28,bF)] (Zi ?_)))))))))))
 refine ZD ⟨k+1,by omega,Cv.eqK_succ hs0 (by omega) (by omega) (cvI_zero.1 hs3)⟩ (show xs.length-(k+1)<xs.length-k by omega) ?_
 exact Zs [] _
 refine Za (oW (on (dF' hs3) (jG (oF (iv (Cv.cmpI xs[k] ys[k])) (jE (Zg (Zb (Zb (Zg (Zb ?_))))))))))
 refine Zd Tryz.results51 (.tmp rfl) ?_
 exact congrArg (fun x:Int=>AV.v (.int .i64 x)) ((sc_ne hs0 (by omega) (by omega) hs3).symm)
 refine Za (ol (dF hs1) (jD (ZK rfl (jO (jC (Zk ?_))))))
 by_cases hs4:(xs.length:Int)<(ys.length:Int)
 refine Za (oW (oW (oW (oW (ol (dT hs4) (kN 36 [] [(35,bT)] (Zi (jK (oS (iv (-1)) (jE (Zb ?_)))))))))))
 refine Zd Tryz.results51 (.tmp rfl) ?_
 exact congrArg (fun x:Int=>AV.v (.int .i64 x)) ((Cv.cmpL_short hs0 (by omega) (by omega)).symm)
 refine Za (oW (oW (oW (oW (ol (dF hs4) (kN 36 [] [(35,bF)] (jJ (jB (oS (iv 0) (jE ?_))))))))))
 refine Zd Tryz.results51 (.tmp rfl) ?_
 exact congrArg (fun x:Int=>AV.v (.int .i64 x)) ((Cv.cmpL_end hs0 (by omega) (by omega)).symm)
theorem cv_or (a b:Em):Cv.cmpE a b=orL [Cv.cmpI a.v b.v,Cv.cmpL a.c b.c]:=by
 unfold Cv.cmpE
 by_cases h:Cv.cmpI a.v b.v=0
 ·rw [if_pos h]
  show _=if Cv.cmpI a.v b.v=0 then (if Cv.cmpL a.c b.c=0 then 0 else Cv.cmpL a.c b.c) else Cv.cmpI a.v b.v
  rw [if_pos h]
  split<;>omega
 rw [if_neg h]
 show _=if Cv.cmpI a.v b.v=0 then (if Cv.cmpL a.c b.c=0 then 0 else Cv.cmpL a.c b.c) else Cv.cmpI a.v b.v
 rw [if_neg h]
theorem Compare_c {a b:Em} (HA:EmOk a) (HB:EmOk b):Ctr Tryz.prog J 13 [.agg (cEm a),.agg (cEm b)] (iv (Cv.cmpE a b)):=by
 refine Zn Tryz.func13 rfl (pN (Zm (ZV a)) (pN (Zm (ZV b)) pZ)) (n:=17) rfl (by simp) (fun w0 => ?_)
 refine kW 17 [] [(0,.agg (cEm a)),(1,.agg (cEm b))] (jB (oX 1 (.agg (cEm a)) (oX 2 (.agg (cEm b)) (oS (iv 0) (jD ?_)))))
 refine tD (dW (dW (dW (dW (dk (cvI_c a.v b.v) [iv a.v,iv b.v] rfl rfl (dW (dW (dW (dW (dk (scC_c a.c b.c (Nat.le_trans HA.l (by decide)) (Nat.le_trans HB.l (by decide))) [Zc a.c,Zc b.c] rfl rfl (dR (Wc (z:=1) (k:=3) (fr:=true) (cs:=[iv (Cv.cmpI a.v b.v),iv (Cv.cmpL a.c b.c)]) [.tmp 9,.tmp 14] [iv (Cv.cmpI a.v b.v),iv (Cv.cmpL a.c b.c)] rfl U24 (by kernel_rfl) (by decide) (by decide) rfl rfl rfl (by kernel_rfl) (by decide) (fun _=>by simp [AV.cellsOf,AV.isNew,cLn,cTh]) (by kernel_rfl)) ⟨I0,I0,T0⟩ T0 rfl (dR (sc #[.tmp 15] [(3,.row true 3 1 2 ([iv (Cv.cmpI a.v b.v),iv (Cv.cmpL a.c b.c)]))] (orSlI_c [Cv.cmpI a.v b.v,Cv.cmpL a.c b.c] (by simp)) [.own 3] rfl rfl rfl) ⟨I0,I0,T0⟩ ⟨rfl,T0⟩ T0 (dS (iv (orL [Cv.cmpI a.v b.v,Cv.cmpL a.c b.c])) (eD ?_))))))))))))))
 refine Zi (YG ?_)
 refine Zd Tryz.results13 (.tmp rfl) ?_
 exact congrArg (fun x:Int=>AV.v (.int .i64 x)) ((cv_or a b).symm)
theorem outC_c :Ctr Tryz.prog J 99 [iv x] (bv (Cv.outC x)):=by
 refine Zn Tryz.func99 rfl (pN (.v _) pZ) (n:=9) rfl (by simp) (fun w0 => ?_)
 refine kW 9 [] [(0,iv x)] (jB (oS bF (kN 9 [] [(0,iv x),(2,bF)] (jC ?_))))
 by_cases hs1:x<0
 refine Za (oW (ol (dT hs1) (oS bT (qK (qK (oF bT (jE ?_)))))))
 refine Zd Tryz.results99 (.tmp rfl) ?_
 exact cB ((Cv.outC_lo hs1).symm)
 refine Za (oW (ol (dF hs1) (oS bF (oS (iv x) (gC (sp_gtr rfl rfl) I0 I0 (oF (bv (decide (1048576<x))) (jE ?_)))))))
 refine Zd Tryz.results99 (.tmp rfl) ?_
 exact cB ((Cv.outC_hi hs1).symm)
theorem ixOutC_c (xs:List Int) (lx:xs.length≤9223372036854775807):Ctr Tryz.prog J 134 [Zc xs,.v (.func (.func 99) #[] #[])] (iv (Cv.ixC Cv.outC xs 0)):=by
 refine Zn Tryz.func134 rfl (pN (ZU _) (pN (.v _) pZ)) (n:=19) rfl (by simp) (fun w0 => ?_)
 refine kW 19 [] [(0,Zc xs),(1,.v (.func (.func 99) #[] #[]))] (jB (oS (iv 0) (jD (jB (oF (iv xs.length) (oS (iv 0) (kN 19 [] [(0,Zc xs),(1,.v (.func (.func 99) #[] #[])),(4,iv 0),(7,iv xs.length),(8,iv 0)] (Zi (Zl ?_)))))))))
 refine ZL (σ:={k:Nat // k≤xs.length∧Cv.noP Cv.outC xs k=true}) (fun s=>(ofL [],ofT 19 [(0,Zc xs),(1,.v (.func (.func 99) #[] #[])),(7,iv xs.length),(8,iv s.1)])) (fun s=>xs.length-s.1) ⟨0,Nat.zero_le _,Cv.noP_zero _ _⟩ (Zs [] _) (fun s => ?_)
 obtain ⟨k,hk0,hs0⟩:=s
 show ETri J w0 (ofL []) (ofT 19 [(0,Zc xs),(1,.v (.func (.func 99) #[] #[])),(7,iv xs.length),(8,iv k)]) _
 refine Zk ?_
 by_cases hs1:(k:Int)<(xs.length:Int)
 refine Za (ol (dT hs1) (jD (Yy rfl (Zq (jC (Zl (jB (oF (iv k) (jD ?_)))))))))
 by_cases hs2:(Cv.outC xs[k])=true
 refine Za (oS (.v (.func (.func 99) #[] #[])) (oS (Zc xs) (oS (iv k) (oC (xS (k*1) 12 13 U24) I0 I0 (oL (iv xs[k]) (Zy xs (by omega)) (oC (KW (c := .tmp 11) (xs := #[.tmp 15]) [] (Zj outC_c hs2) rfl (by kernel_rfl) rfl (Xs:=[iv xs[k]]) rfl rfl rfl) I0 I0 (jG (oF (iv k) (jE (Zg (Zb (Zb (Zg (Zb ?_))))))))))))))
 refine Zd Tryz.results134 (.tmp rfl) ?_
 exact congrArg (fun x:Int=>AV.v (.int .i64 x)) ((Cv.ixC_at (by omega) hs0 hs2).symm)
 have hs2f:(Cv.outC xs[k])=false:=by simpa using hs2
 refine Za (oS (.v (.func (.func 99) #[] #[])) (oS (Zc xs) (oS (iv k) (oC (xS (k*1) 12 13 U24) I0 I0 (oL (iv xs[k]) (Zy xs (by omega)) (oC (KW (c := .tmp 11) (xs := #[.tmp 15]) [] (Zj outC_c hs2f) rfl (by kernel_rfl) rfl (Xs:=[iv xs[k]]) rfl rfl rfl) I0 I0 (jI (Zq (ZG (Zi (Za (oV ((k+1:Nat):Int) (oS (iv (k+1:Nat)) (kN 19 [] [(0,Zc xs),(1,.v (.func (.func 99) #[] #[])),(5,iv k),(7,iv xs.length),(8,iv (k+1:Nat)),(9,bT),(16,bF)] (Zi ?_)))))))))))))))
 refine ZD ⟨k+1,by omega,Cv.noP_succ (by omega) hs0 hs2f⟩ (show xs.length-(k+1)<xs.length-k by omega) ?_
 exact Zs [] _
 refine Za (ol (dF hs1) (jD (ZK rfl (jO (jC (Za (oS (iv (-1)) (jE ?_))))))))
 refine Zd Tryz.results134 (.tmp rfl) ?_
 exact congrArg (fun x:Int=>AV.v (.int .i64 x)) ((Cv.ixC_none (k:=k) (by omega) hs0).symm)
theorem hasOutC_c (xs:List Int) (lx:xs.length≤9223372036854775807):Ctr Tryz.prog J 98 [Zc xs,.v (.func (.func 99) #[] #[])] (bv (xs.any Cv.outC)):=by
 refine Zn Tryz.func98 rfl (pN (ZU _) (pN (.v _) pZ)) (n:=9) rfl (by simp) (fun w0 => ?_)
 refine kW 9 [] [(0,Zc xs),(1,.v (.func (.func 99) #[] #[]))] (jB (oS bF (jD (Za (oW (oW (oK (ixOutC_c xs lx) [Zc xs,.v (.func (.func 99) #[] #[])] rfl rfl (oC (sp_geq rfl rfl) I0 I0 (oS (bv (decide (0≤(Cv.ixC Cv.outC xs 0)))) (jE ?_))))))))))
 refine Zd Tryz.results98 (.tmp rfl) ?_
 exact cB (Cv.ixC_nn xs 0)
theorem YD (xs:List Int) (lx:xs.length≤9223372036854775807):Ctr Tryz.prog J 53 [Zc xs] (bv (Cv.okC xs)):=by
 refine Zn Tryz.func53 rfl (pN (ZU _) pZ) (n:=6) rfl (by simp) (fun w0 => ?_)
 refine kW 6 [] [(0,Zc xs)] (jB (oS bF (kN 6 [] [(0,Zc xs),(2,bF)] (jC (Za (oW (oK (hasOutC_c xs lx) [Zc xs,.v (.func (.func 99) #[] #[])] rfl rfl (oF (bv (!(xs.any Cv.outC))) (jE ?_)))))))))
 refine Zd Tryz.results53 (.tmp rfl) ?_
 exact rfl
set_option maxRecDepth 100000 in
set_option maxHeartbeats 6400000 in
theorem Total_c {e:Em} (HE:EmOk e):Ctr Tryz.prog J 15 [.agg (cEm e)] (iv (Cv.totE e)):=by
 refine Zn Tryz.func15 rfl (pN (Zm (ZV e)) pZ) (n:=28) rfl (by simp) (fun w0 => ?_)
 refine kW 28 [] [(0,.agg (cEm e))] (jB (oX 1 (.agg (cEm e)) (oS (iv 0) (jD (Zk ?_)))))
 by_cases hs1:6<(e.c.length:Int)
 refine Za (oW (oW (oW (og (dT hs1) (oS bT (qK (qK (qK (qK (oS bT (jG (oS (iv 0) (jE (Zb ?_))))))))))))))
 refine Zd Tryz.results15 (.tmp rfl) ?_
 exact congrArg (fun x:Int=>AV.v (.int .i64 x)) ((Cv.tot_long (by omega)).symm)
 by_cases hs2:(Cv.okC e.c)=true
 refine Za (oW (oW (oW (og (dF hs1) (oS bF (oW (oW (oK (Zj (YD e.c (Nat.le_trans HE.l (by decide))) hs2) [Zc e.c] rfl rfl (oW (oS bF (jF (jB (oS (iv 0) (jD (jB ?_)))))))))))))))
 refine oF (Zc e.c) (oS (iv e.c.length) (oS (iv 0) (kN 28 [] [(2,iv 0),(3,iv 0),(17,Zc e.c),(18,iv e.c.length),(19,iv 0)] (Zi (Zl ?_)))))
 rw [← Cv.sumT_zero e.c]
 refine ZL (σ:={k:Nat // k≤e.c.length}) (fun s=>(ofL [],ofT 28 [(2,iv 0),(3,iv (Cv.sumT e.c s.1)),(17,Zc e.c),(18,iv e.c.length),(19,iv s.1)])) (fun s=>e.c.length-s.1) ⟨0,Nat.zero_le _⟩ (Zs [] _) (fun s => ?_)
 obtain ⟨k,hk0⟩:=s
 show ETri J w0 (ofL []) (ofT 28 [(2,iv 0),(3,iv (Cv.sumT e.c k)),(17,Zc e.c),(18,iv e.c.length),(19,iv k)]) _
 refine Zk ?_
 by_cases hs3:(k:Int)<(e.c.length:Int)
 obtain ⟨b1,b2,b3,b4⟩:=Cv.tot_b (k:=k) hs2 (by omega) (show k<e.c.length by omega)
 refine Za (ol (dT hs3) (jD (Yy rfl (Zq (jC (Zl (jB (oC (xS (k*1) 17 19 U24) I0 I0 (oL (iv e.c[k]) (Zy e.c (by omega)) (oS (iv e.c[k]) (jA (Za (oS (iv (Cv.sumT e.c k)) (oS (iv e.c[k]) (oV ((Cv.sumT e.c k)+e.c[k]) (oS (iv ((Cv.sumT e.c k)+e.c[k])) (Y1 (ZG ?_))))))))))))))))))
 refine Zi (Za (oV ((k+1:Nat):Int) (oS (iv (k+1:Nat)) (kN 28 [] [(2,iv 0),(3,iv ((Cv.sumT e.c k)+e.c[k])),(5,iv e.c[k]),(17,Zc e.c),(18,iv e.c.length),(19,iv (k+1:Nat)),(20,bT)] (Zi ?_)))))
 refine ZD ⟨k+1,by omega⟩ (show e.c.length-(k+1)<e.c.length-k by omega) ?_
 show Wk _ _ (ofL []) (ofT 28 [(2,iv 0),(3,iv (Cv.sumT e.c (k+1))),(17,Zc e.c),(18,iv e.c.length),(19,iv ((k+1):Nat))])
 rw [Cv.sumT_succ (by omega)]
 exact Zs [] _
 refine Za (ol (dF hs3) (jD (ZK rfl (jO (jC (Za (oF (iv (Cv.sumT e.c k)) (jE ?_))))))))
 refine Zd Tryz.results15 (.tmp rfl) ?_
 exact congrArg (fun x:Int=>AV.v (.int .i64 x)) ((Cv.tot_k (by omega) hs2 (k:=k) (by omega)).symm)
 have hs2f:(Cv.okC e.c)=false:=by simpa using hs2
 refine Za (oW (oW (oW (og (dF hs1) (oS bF (oW (oW (oK (Zj (YD e.c (Nat.le_trans HE.l (by decide))) hs2f) [Zc e.c] rfl rfl (oW (oS bT (jG (oS (iv 0) (jE (Zb ?_))))))))))))))
 refine Zd Tryz.results15 (.tmp rfl) ?_
 exact congrArg (fun x:Int=>AV.v (.int .i64 x)) ((Cv.tot_o (by omega) hs2f).symm)
abbrev Kp (x0:Fm):List (Nat × ABlk):=[(1,.box 27 (cFm x0)),(2,.box 116 [bF,bF,bF,bF,bF])]
abbrev Ko:List (Nat × AV):=[(1,bx 1),(2,bx 2),(3,iv 0),(7,bx 3)]
abbrev ZbH (x0:Fm) (x1:Nat) (x2:Ru):List (Nat × ABlk):=[(1,.box 27 (cFm x0)),(2,.box 116 [bF,bF,bF,bF,bF]),(3,.box 116 [bv (cT x0 x1),bv (cC x0 x1),bv (woI x0),bv (trI x0),bv (moI x0)]),(4,.box 98 (cRu x2))]
abbrev XCls_h4 (x0:Nat):List (Nat × AV):=[(1,bx 1),(2,bx 2),(3,iv 0),(7,bx 3),(8,iv x0),(9,bx 4),(68,bT),(97,bT)]
abbrev XCls_h5 (x0:Fm) (x1:Nat) (x2:Ru):List (Nat × ABlk):=[(1,.box 27 (cFm x0)),(2,.box 116 [bF,bF,bF,bF,bF]),(3,.box 116 [bF,bv (cC x0 x1),bv (woI x0),bv (trI x0),bv (moI x0)]),(4,.box 98 (cRu x2))]
abbrev XCls_h6 (x0:Fm) (x1:Ru):List (Nat × ABlk):=[(1,.box 27 (cFm x0)),(2,.box 116 [bF,bF,bF,bF,bF]),(3,.box 116 [bF,bF,bv (woI x0),bv (trI x0),bv (moI x0)]),(4,.box 98 (cRu x1))]
abbrev XCls_h7 (x0:Fm) (x1:Nat) (x2:Ru):List (Nat × ABlk):=[(1,.box 27 (cFm x0)),(2,.box 116 [bF,bF,bF,bF,bF]),(3,.box 116 [bv (cT x0 x1),bF,bv (woI x0),bv (trI x0),bv (moI x0)]),(4,.box 98 (cRu x2))]
set_option maxRecDepth 100000 in
set_option maxHeartbeats 6400000 in
theorem ZcU (HQ:FmOk q):Ctr Tryz.prog J 96 [.agg (cFm q)] (.tup [.agg (clA q),iv (valE q)]):=by
 have l4:=HQ.lrules
 refine Zn Tryz.func96 rfl (pN (Zm (Z0 q)) pZ) (n:=105) rfl (by simp) (fun w0 => ?_)
 refine kW 105 [] [(0,.agg (cFm q))] (jB (oX 1 (.agg (cFm q)) (oZ 2 Z116 (oS (iv 0) (jD (jB (oW (oK (ZcS HQ) [.agg (cFm q)] rfl rfl (oS (iv (valE q)) (jD ?_))))))))))
 by_cases hs1:valE q=0
 refine Za (oW (on (dT' hs1) (jF (jB (oF (iv q.top) (oC (ZM rfl rfl) I0 I0 (oS (bv (decide (q.top=1))) (kN 105 (Kp q) [(1,bx 1),(2,bx 2),(3,iv 0),(5,bv (decide (q.top=1)))] (jC ?_)))))))))
 refine YK (True) (ofL [(1,.box 27 (cFm q)),(2,.box 116 [bF,bF,bF,bF,bF])]) (ofT 105 [(1,bx 1),(2,bx 2),(3,iv 0),(5,bv (decide (q.top=1))),(6,bv (plI q))]) ?_ (fun _ => ?_)
 by_cases hs2:q.top=1
 rw [dT hs2]
 refine kW 105 (Kp q) [(1,bx 1),(2,bx 2),(3,iv 0),(5,bT)] ?_
 by_cases hs3:q.fz=0
 by_cases hs4:(q.msgs.length:Int)=0
 refine Za (oF bT (oW (oW (oe (dT hs3) (oF bT (oW (oW (oW (oe (dT hs4) (oF bT (oW (oF (iv q.res.length) (gC (ZM rfl rfl) I0 I0 (oF (bv (decide ((q.res.length:Int)=0))) (kN 105 [(1,.box 27 (cFm q)),(2,.box 116 [bF,bF,bF,bF,bF])] [(1,bx 1),(2,bx 2),(3,iv 0),(5,bT),(6,bv (decide ((q.res.length:Int)=0)))] ?_)))))))))))))))
 rw [show (plI q)=(decide ((q.res.length:Int)=0)) by simp only [plI,Bool.or_true,Bool.true_or,Bool.or_false,Bool.false_or,Bool.and_true,Bool.true_and,Bool.and_false,Bool.false_and,Bool.not_true,Bool.not_false,decide_eq_true hs1,decide_eq_true hs2,decide_eq_true hs3,decide_eq_true hs4]]
 exact tM T0
 refine Za (oF bT (oW (oW (oe (dT hs3) (oF bT (oW (oW (oW (oe (dF hs4) (oF bF (qK (qK (qK (qK (oF bF (kN 105 [(1,.box 27 (cFm q)),(2,.box 116 [bF,bF,bF,bF,bF])] [(1,bx 1),(2,bx 2),(3,iv 0),(5,bT),(6,bF)] ?_))))))))))))))))
 rw [show (plI q)=false by simp only [plI,Bool.or_true,Bool.true_or,Bool.or_false,Bool.false_or,Bool.and_true,Bool.true_and,Bool.and_false,Bool.false_and,Bool.not_true,Bool.not_false,decide_eq_true hs1,decide_eq_true hs2,decide_eq_true hs3,decide_eq_false hs4]]
 exact tM T0
 refine Za (oF bT (oW (oW (oe (dF hs3) (oF bF (qK (qK (qK (qK (oF bF (qK (qK (qK (qK (oF bF (kN 105 [(1,.box 27 (cFm q)),(2,.box 116 [bF,bF,bF,bF,bF])] [(1,bx 1),(2,bx 2),(3,iv 0),(5,bT),(6,bF)] ?_))))))))))))))))
 rw [show (plI q)=false by simp only [plI,Bool.or_true,Bool.true_or,Bool.or_false,Bool.false_or,Bool.and_true,Bool.true_and,Bool.and_false,Bool.false_and,Bool.not_true,Bool.not_false,decide_eq_true hs1,decide_eq_true hs2,decide_eq_false hs3]]
 exact tM T0
 rw [dF hs2]
 refine kW 105 [(1,.box 27 (cFm q)),(2,.box 116 [bF,bF,bF,bF,bF])] [(1,bx 1),(2,bx 2),(3,iv 0),(5,bF)] (Za (oF bF (qK (qK (qK (oF bF (qK (qK (qK (qK (oF bF (qK (qK (qK (qK (oF bF (kN 105 [(1,.box 27 (cFm q)),(2,.box 116 [bF,bF,bF,bF,bF])] [(1,bx 1),(2,bx 2),(3,iv 0),(5,bF),(6,bF)] ?_)))))))))))))))))
 rw [show (plI q)=false by simp only [plI,Bool.or_true,Bool.true_or,Bool.or_false,Bool.false_or,Bool.and_true,Bool.true_and,Bool.and_false,Bool.false_and,Bool.not_true,Bool.not_false,decide_eq_true hs1,decide_eq_false hs2]]
 exact tM T0
 refine jC ?_
 refine YK (True) (ofL [(1,.box 27 (cFm q)),(2,.box 116 [bF,bF,bF,bF,bF]),(3,.box 116 [bv (thI0 q),bv (plI q),bv (woI q),bv (trI q),bv (moI q)])]) (ofT 105 Ko) ?_ (fun _ => ?_)
 by_cases hs5:q.top=1
 rw [dT hs5]
 refine kW 105 (Kp q) [(1,bx 1),(2,bx 2),(3,iv 0),(5,bT),(6,bv (plI q))] ?_
 by_cases hs6:(plI q)=true
 rw [hs6]
 refine kW 105 (Kp q) [(1,bx 1),(2,bx 2),(3,iv 0),(5,bT),(6,bT)] ?_
 by_cases hs7:q.top=2
 refine Za (oF bT (oW (oF (iv q.vals.length) (gC (ZM rfl rfl) I0 I0 (oS (bv (decide ((q.vals.length:Int)=0))) (oS bT (oF bT (oW (oF (iv q.sz.length) (gC (ZbT rfl rfl) I0 I0 (oS (bv (decide ((q.sz.length:Int)≤4))) (oW (oW (oe (dT hs7) (oS bT (qK (qK (qK (oS bT (oF (iv q.top) (oC (ZM rfl rfl) I0 I0 (Zaz rfl (KQ [(.tmp 43,.bool (decide ((q.vals.length:Int)=0))),(.tmp 44,.bool true),(.tmp 51,.bool (decide ((q.sz.length:Int)≤4))),(.tmp 59,.bool true),(.tmp 62,.bool (decide (q.top=4)))] #[.bool (decide ((q.vals.length:Int)=0)),.bool true,.bool true,.bool (decide (q.top=4)),.bool (decide ((q.sz.length:Int)≤4))] rfl rfl (by kernel_rfl) rfl) ⟨I0,I0,I0,I0,I0,T0⟩ T0 T0 (oZ 3 Z116 ?_)))))))))))))))))))))))
 refine oY (kN 105 [(1,.box 27 (cFm q)),(2,.box 116 [bF,bF,bF,bF,bF]),(3,.box 116 [bv (decide ((q.vals.length:Int)=0)),bT,bT,bv (decide (q.top=4)),bv (decide ((q.sz.length:Int)≤4))])] Ko ?_)
 try rw [show (thI0 q)=(decide ((q.vals.length:Int)=0)) by simp only [thI0,Bool.or_true,Bool.true_or,Bool.or_false,Bool.false_or,Bool.and_true,Bool.true_and,Bool.and_false,Bool.false_and,Bool.not_true,Bool.not_false,decide_eq_true hs1,decide_eq_true hs5,hs6,decide_eq_true hs7]]
 try rw [show (plI q)=true by simp only [plI,Bool.or_true,Bool.true_or,Bool.or_false,Bool.false_or,Bool.and_true,Bool.true_and,Bool.and_false,Bool.false_and,Bool.not_true,Bool.not_false,decide_eq_true hs1,decide_eq_true hs5,hs6,decide_eq_true hs7]]
 try rw [show (woI q)=true by simp only [woI,Bool.or_true,Bool.true_or,Bool.or_false,Bool.false_or,Bool.and_true,Bool.true_and,Bool.and_false,Bool.false_and,Bool.not_true,Bool.not_false,decide_eq_true hs1,decide_eq_true hs5,hs6,decide_eq_true hs7]]
 try rw [show (trI q)=(decide (q.top=4)) by simp only [trI,Bool.or_true,Bool.true_or,Bool.or_false,Bool.false_or,Bool.and_true,Bool.true_and,Bool.and_false,Bool.false_and,Bool.not_true,Bool.not_false,decide_eq_true hs1,decide_eq_true hs5,hs6,decide_eq_true hs7]]
 try rw [show (moI q)=(decide ((q.sz.length:Int)≤4)) by simp only [moI,Bool.or_true,Bool.true_or,Bool.or_false,Bool.false_or,Bool.and_true,Bool.true_and,Bool.and_false,Bool.false_and,Bool.not_true,Bool.not_false,decide_eq_true hs1,decide_eq_true hs5,hs6,decide_eq_true hs7]]
 exact tM T0
 refine Za (oF bT (oW (oF (iv q.vals.length) (gC (ZM rfl rfl) I0 I0 (oS (bv (decide ((q.vals.length:Int)=0))) (oS bT (oF bT (oW (oF (iv q.sz.length) (gC (ZbT rfl rfl) I0 I0 (oS (bv (decide ((q.sz.length:Int)≤4))) (oW (oW (oe (dF hs7) (oS bF (oF (iv q.top) (gC (ZM rfl rfl) I0 I0 (oS (bv (decide (q.top=3))) (oF (iv q.top) (oC (ZM rfl rfl) I0 I0 (Zaz rfl (KQ [(.tmp 43,.bool (decide ((q.vals.length:Int)=0))),(.tmp 44,.bool true),(.tmp 51,.bool (decide ((q.sz.length:Int)≤4))),(.tmp 59,.bool (decide (q.top=3))),(.tmp 62,.bool (decide (q.top=4)))] #[.bool (decide ((q.vals.length:Int)=0)),.bool true,.bool (decide (q.top=3)),.bool (decide (q.top=4)),.bool (decide ((q.sz.length:Int)≤4))] rfl rfl (by kernel_rfl) rfl) ⟨I0,I0,I0,I0,I0,T0⟩ T0 T0 (oZ 3 Z116 (oY ?_)))))))))))))))))))))))
 refine kN 105 [(1,.box 27 (cFm q)),(2,.box 116 [bF,bF,bF,bF,bF]),(3,.box 116 [bv (decide ((q.vals.length:Int)=0)),bT,bv (decide (q.top=3)),bv (decide (q.top=4)),bv (decide ((q.sz.length:Int)≤4))])] Ko ?_
 try rw [show (thI0 q)=(decide ((q.vals.length:Int)=0)) by simp only [thI0,Bool.or_true,Bool.true_or,Bool.or_false,Bool.false_or,Bool.and_true,Bool.true_and,Bool.and_false,Bool.false_and,Bool.not_true,Bool.not_false,decide_eq_true hs1,decide_eq_true hs5,hs6,decide_eq_false hs7]]
 try rw [show (plI q)=true by simp only [plI,Bool.or_true,Bool.true_or,Bool.or_false,Bool.false_or,Bool.and_true,Bool.true_and,Bool.and_false,Bool.false_and,Bool.not_true,Bool.not_false,decide_eq_true hs1,decide_eq_true hs5,hs6,decide_eq_false hs7]]
 try rw [show (woI q)=(decide (q.top=3)) by simp only [woI,Bool.or_true,Bool.true_or,Bool.or_false,Bool.false_or,Bool.and_true,Bool.true_and,Bool.and_false,Bool.false_and,Bool.not_true,Bool.not_false,decide_eq_true hs1,decide_eq_true hs5,hs6,decide_eq_false hs7]]
 try rw [show (trI q)=(decide (q.top=4)) by simp only [trI,Bool.or_true,Bool.true_or,Bool.or_false,Bool.false_or,Bool.and_true,Bool.true_and,Bool.and_false,Bool.false_and,Bool.not_true,Bool.not_false,decide_eq_true hs1,decide_eq_true hs5,hs6,decide_eq_false hs7]]
 try rw [show (moI q)=(decide ((q.sz.length:Int)≤4)) by simp only [moI,Bool.or_true,Bool.true_or,Bool.or_false,Bool.false_or,Bool.and_true,Bool.true_and,Bool.and_false,Bool.false_and,Bool.not_true,Bool.not_false,decide_eq_true hs1,decide_eq_true hs5,hs6,decide_eq_false hs7]]
 exact tM T0
 have hs6f:(plI q)=false:=by simpa using hs6
 rw [hs6f]
 refine kW 105 (Kp q) [(1,bx 1),(2,bx 2),(3,iv 0),(5,bT),(6,bF)] ?_
 by_cases hs8:q.top=2
 refine Za (oF bT (oW (oF (iv q.vals.length) (gC (ZM rfl rfl) I0 I0 (oS (bv (decide ((q.vals.length:Int)=0))) (oS bF (oF bF (qK (qK (qK (qK (oS bF (oW (oW (oe (dT hs8) (oS bT (qK (qK (qK (oS bT (oF (iv q.top) (oC (ZM rfl rfl) I0 I0 (Zaz rfl (KQ [(.tmp 43,.bool (decide ((q.vals.length:Int)=0))),(.tmp 44,.bool false),(.tmp 51,.bool false),(.tmp 59,.bool true),(.tmp 62,.bool (decide (q.top=4)))] #[.bool (decide ((q.vals.length:Int)=0)),.bool false,.bool true,.bool (decide (q.top=4)),.bool false] rfl rfl (by kernel_rfl) rfl) ⟨I0,I0,I0,I0,I0,T0⟩ T0 T0 ?_)))))))))))))))))))))))
 refine oZ 3 Z116 (oY (kN 105 [(1,.box 27 (cFm q)),(2,.box 116 [bF,bF,bF,bF,bF]),(3,.box 116 [bv (decide ((q.vals.length:Int)=0)),bF,bT,bv (decide (q.top=4)),bF])] Ko ?_))
 try rw [show (thI0 q)=(decide ((q.vals.length:Int)=0)) by simp only [thI0,Bool.or_true,Bool.true_or,Bool.or_false,Bool.false_or,Bool.and_true,Bool.true_and,Bool.and_false,Bool.false_and,Bool.not_true,Bool.not_false,decide_eq_true hs1,decide_eq_true hs5,hs6f,decide_eq_true hs8]]
 try rw [show (plI q)=false by simp only [plI,Bool.or_true,Bool.true_or,Bool.or_false,Bool.false_or,Bool.and_true,Bool.true_and,Bool.and_false,Bool.false_and,Bool.not_true,Bool.not_false,decide_eq_true hs1,decide_eq_true hs5,hs6f,decide_eq_true hs8]]
 try rw [show (woI q)=true by simp only [woI,Bool.or_true,Bool.true_or,Bool.or_false,Bool.false_or,Bool.and_true,Bool.true_and,Bool.and_false,Bool.false_and,Bool.not_true,Bool.not_false,decide_eq_true hs1,decide_eq_true hs5,hs6f,decide_eq_true hs8]]
 try rw [show (trI q)=(decide (q.top=4)) by simp only [trI,Bool.or_true,Bool.true_or,Bool.or_false,Bool.false_or,Bool.and_true,Bool.true_and,Bool.and_false,Bool.false_and,Bool.not_true,Bool.not_false,decide_eq_true hs1,decide_eq_true hs5,hs6f,decide_eq_true hs8]]
 try rw [show (moI q)=false by simp only [moI,Bool.or_true,Bool.true_or,Bool.or_false,Bool.false_or,Bool.and_true,Bool.true_and,Bool.and_false,Bool.false_and,Bool.not_true,Bool.not_false,decide_eq_true hs1,decide_eq_true hs5,hs6f,decide_eq_true hs8]]
 exact tM T0
 refine Za (oF bT (oW (oF (iv q.vals.length) (gC (ZM rfl rfl) I0 I0 (oS (bv (decide ((q.vals.length:Int)=0))) (oS bF (oF bF (qK (qK (qK (qK (oS bF (oW (oW (oe (dF hs8) (oS bF (oF (iv q.top) (gC (ZM rfl rfl) I0 I0 (oS (bv (decide (q.top=3))) (oF (iv q.top) (oC (ZM rfl rfl) I0 I0 (Zaz rfl (KQ [(.tmp 43,.bool (decide ((q.vals.length:Int)=0))),(.tmp 44,.bool false),(.tmp 51,.bool false),(.tmp 59,.bool (decide (q.top=3))),(.tmp 62,.bool (decide (q.top=4)))] #[.bool (decide ((q.vals.length:Int)=0)),.bool false,.bool (decide (q.top=3)),.bool (decide (q.top=4)),.bool false] rfl rfl (by kernel_rfl) rfl) ⟨I0,I0,I0,I0,I0,T0⟩ T0 T0 (oZ 3 Z116 ?_)))))))))))))))))))))))
 refine oY (kN 105 [(1,.box 27 (cFm q)),(2,.box 116 [bF,bF,bF,bF,bF]),(3,.box 116 [bv (decide ((q.vals.length:Int)=0)),bF,bv (decide (q.top=3)),bv (decide (q.top=4)),bF])] Ko ?_)
 try rw [show (thI0 q)=(decide ((q.vals.length:Int)=0)) by simp only [thI0,Bool.or_true,Bool.true_or,Bool.or_false,Bool.false_or,Bool.and_true,Bool.true_and,Bool.and_false,Bool.false_and,Bool.not_true,Bool.not_false,decide_eq_true hs1,decide_eq_true hs5,hs6f,decide_eq_false hs8]]
 try rw [show (plI q)=false by simp only [plI,Bool.or_true,Bool.true_or,Bool.or_false,Bool.false_or,Bool.and_true,Bool.true_and,Bool.and_false,Bool.false_and,Bool.not_true,Bool.not_false,decide_eq_true hs1,decide_eq_true hs5,hs6f,decide_eq_false hs8]]
 try rw [show (woI q)=(decide (q.top=3)) by simp only [woI,Bool.or_true,Bool.true_or,Bool.or_false,Bool.false_or,Bool.and_true,Bool.true_and,Bool.and_false,Bool.false_and,Bool.not_true,Bool.not_false,decide_eq_true hs1,decide_eq_true hs5,hs6f,decide_eq_false hs8]]
 try rw [show (trI q)=(decide (q.top=4)) by simp only [trI,Bool.or_true,Bool.true_or,Bool.or_false,Bool.false_or,Bool.and_true,Bool.true_and,Bool.and_false,Bool.false_and,Bool.not_true,Bool.not_false,decide_eq_true hs1,decide_eq_true hs5,hs6f,decide_eq_false hs8]]
 try rw [show (moI q)=false by simp only [moI,Bool.or_true,Bool.true_or,Bool.or_false,Bool.false_or,Bool.and_true,Bool.true_and,Bool.and_false,Bool.false_and,Bool.not_true,Bool.not_false,decide_eq_true hs1,decide_eq_true hs5,hs6f,decide_eq_false hs8]]
 exact tM T0
 rw [dF hs5]
 refine kW 105 (Kp q) [(1,bx 1),(2,bx 2),(3,iv 0),(5,bF),(6,bv (plI q))] ?_
 by_cases hs9:(plI q)=true
 rw [hs9]
 refine kW 105 (Kp q) [(1,bx 1),(2,bx 2),(3,iv 0),(5,bF),(6,bT)] ?_
 by_cases hs10:q.top=2
 refine Za (oF bF (qK (qK (qK (qK (oS bF (oS bT (oF bT (oW (oF (iv q.sz.length) (gC (ZbT rfl rfl) I0 I0 (oS (bv (decide ((q.sz.length:Int)≤4))) (oW (oW (oe (dT hs10) (oS bT (qK (qK (qK (oS bT (oF (iv q.top) (oC (ZM rfl rfl) I0 I0 (Zaz rfl (KQ [(.tmp 43,.bool false),(.tmp 44,.bool true),(.tmp 51,.bool (decide ((q.sz.length:Int)≤4))),(.tmp 59,.bool true),(.tmp 62,.bool (decide (q.top=4)))] #[.bool false,.bool true,.bool true,.bool (decide (q.top=4)),.bool (decide ((q.sz.length:Int)≤4))] rfl rfl (by kernel_rfl) rfl) ⟨I0,I0,I0,I0,I0,T0⟩ T0 T0 ?_)))))))))))))))))))))))
 refine oZ 3 Z116 (oY (kN 105 [(1,.box 27 (cFm q)),(2,.box 116 [bF,bF,bF,bF,bF]),(3,.box 116 [bF,bT,bT,bv (decide (q.top=4)),bv (decide ((q.sz.length:Int)≤4))])] Ko ?_))
 try rw [show (thI0 q)=false by simp only [thI0,Bool.or_true,Bool.true_or,Bool.or_false,Bool.false_or,Bool.and_true,Bool.true_and,Bool.and_false,Bool.false_and,Bool.not_true,Bool.not_false,decide_eq_true hs1,decide_eq_false hs5,hs9,decide_eq_true hs10]]
 try rw [show (plI q)=true by simp only [plI,Bool.or_true,Bool.true_or,Bool.or_false,Bool.false_or,Bool.and_true,Bool.true_and,Bool.and_false,Bool.false_and,Bool.not_true,Bool.not_false,decide_eq_true hs1,decide_eq_false hs5,hs9,decide_eq_true hs10]]
 try rw [show (woI q)=true by simp only [woI,Bool.or_true,Bool.true_or,Bool.or_false,Bool.false_or,Bool.and_true,Bool.true_and,Bool.and_false,Bool.false_and,Bool.not_true,Bool.not_false,decide_eq_true hs1,decide_eq_false hs5,hs9,decide_eq_true hs10]]
 try rw [show (trI q)=(decide (q.top=4)) by simp only [trI,Bool.or_true,Bool.true_or,Bool.or_false,Bool.false_or,Bool.and_true,Bool.true_and,Bool.and_false,Bool.false_and,Bool.not_true,Bool.not_false,decide_eq_true hs1,decide_eq_false hs5,hs9,decide_eq_true hs10]]
 try rw [show (moI q)=(decide ((q.sz.length:Int)≤4)) by simp only [moI,Bool.or_true,Bool.true_or,Bool.or_false,Bool.false_or,Bool.and_true,Bool.true_and,Bool.and_false,Bool.false_and,Bool.not_true,Bool.not_false,decide_eq_true hs1,decide_eq_false hs5,hs9,decide_eq_true hs10]]
 exact tM T0
 refine Za (oF bF (qK (qK (qK (qK (oS bF (oS bT (oF bT (oW (oF (iv q.sz.length) (gC (ZbT rfl rfl) I0 I0 (oS (bv (decide ((q.sz.length:Int)≤4))) (oW (oW (oe (dF hs10) (oS bF (oF (iv q.top) (gC (ZM rfl rfl) I0 I0 (oS (bv (decide (q.top=3))) (oF (iv q.top) (oC (ZM rfl rfl) I0 I0 (Zaz rfl (KQ [(.tmp 43,.bool false),(.tmp 44,.bool true),(.tmp 51,.bool (decide ((q.sz.length:Int)≤4))),(.tmp 59,.bool (decide (q.top=3))),(.tmp 62,.bool (decide (q.top=4)))] #[.bool false,.bool true,.bool (decide (q.top=3)),.bool (decide (q.top=4)),.bool (decide ((q.sz.length:Int)≤4))] rfl rfl (by kernel_rfl) rfl) ⟨I0,I0,I0,I0,I0,T0⟩ T0 T0 (oZ 3 Z116 ?_)))))))))))))))))))))))
 refine oY (kN 105 [(1,.box 27 (cFm q)),(2,.box 116 [bF,bF,bF,bF,bF]),(3,.box 116 [bF,bT,bv (decide (q.top=3)),bv (decide (q.top=4)),bv (decide ((q.sz.length:Int)≤4))])] Ko ?_)
 try rw [show (thI0 q)=false by simp only [thI0,Bool.or_true,Bool.true_or,Bool.or_false,Bool.false_or,Bool.and_true,Bool.true_and,Bool.and_false,Bool.false_and,Bool.not_true,Bool.not_false,decide_eq_true hs1,decide_eq_false hs5,hs9,decide_eq_false hs10]]
 try rw [show (plI q)=true by simp only [plI,Bool.or_true,Bool.true_or,Bool.or_false,Bool.false_or,Bool.and_true,Bool.true_and,Bool.and_false,Bool.false_and,Bool.not_true,Bool.not_false,decide_eq_true hs1,decide_eq_false hs5,hs9,decide_eq_false hs10]]
 try rw [show (woI q)=(decide (q.top=3)) by simp only [woI,Bool.or_true,Bool.true_or,Bool.or_false,Bool.false_or,Bool.and_true,Bool.true_and,Bool.and_false,Bool.false_and,Bool.not_true,Bool.not_false,decide_eq_true hs1,decide_eq_false hs5,hs9,decide_eq_false hs10]]
 try rw [show (trI q)=(decide (q.top=4)) by simp only [trI,Bool.or_true,Bool.true_or,Bool.or_false,Bool.false_or,Bool.and_true,Bool.true_and,Bool.and_false,Bool.false_and,Bool.not_true,Bool.not_false,decide_eq_true hs1,decide_eq_false hs5,hs9,decide_eq_false hs10]]
 try rw [show (moI q)=(decide ((q.sz.length:Int)≤4)) by simp only [moI,Bool.or_true,Bool.true_or,Bool.or_false,Bool.false_or,Bool.and_true,Bool.true_and,Bool.and_false,Bool.false_and,Bool.not_true,Bool.not_false,decide_eq_true hs1,decide_eq_false hs5,hs9,decide_eq_false hs10]]
 exact tM T0
 have hs9f:(plI q)=false:=by simpa using hs9
 rw [hs9f]
 refine kW 105 (Kp q) [(1,bx 1),(2,bx 2),(3,iv 0),(5,bF),(6,bF)] ?_
 by_cases hs11:q.top=2
 refine Za (oF bF (qK (qK (qK (qK (oS bF (oS bF (oF bF (qK (qK (qK (qK (oS bF (oW (oW (oe (dT hs11) (oS bT (qK (qK (qK (oS bT (oF (iv q.top) (oC (ZM rfl rfl) I0 I0 ?_)))))))))))))))))))))))
 refine Zaz rfl (KQ [(.tmp 43,.bool false),(.tmp 44,.bool false),(.tmp 51,.bool false),(.tmp 59,.bool true),(.tmp 62,.bool (decide (q.top=4)))] #[.bool false,.bool false,.bool true,.bool (decide (q.top=4)),.bool false] rfl rfl (by kernel_rfl) rfl) ⟨I0,I0,I0,I0,I0,T0⟩ T0 T0 (oZ 3 Z116 (oY (kN 105 [(1,.box 27 (cFm q)),(2,.box 116 [bF,bF,bF,bF,bF]),(3,.box 116 [bF,bF,bT,bv (decide (q.top=4)),bF])] Ko ?_)))
 try rw [show (thI0 q)=false by simp only [thI0,Bool.or_true,Bool.true_or,Bool.or_false,Bool.false_or,Bool.and_true,Bool.true_and,Bool.and_false,Bool.false_and,Bool.not_true,Bool.not_false,decide_eq_true hs1,decide_eq_false hs5,hs9f,decide_eq_true hs11]]
 try rw [show (plI q)=false by simp only [plI,Bool.or_true,Bool.true_or,Bool.or_false,Bool.false_or,Bool.and_true,Bool.true_and,Bool.and_false,Bool.false_and,Bool.not_true,Bool.not_false,decide_eq_true hs1,decide_eq_false hs5,hs9f,decide_eq_true hs11]]
 try rw [show (woI q)=true by simp only [woI,Bool.or_true,Bool.true_or,Bool.or_false,Bool.false_or,Bool.and_true,Bool.true_and,Bool.and_false,Bool.false_and,Bool.not_true,Bool.not_false,decide_eq_true hs1,decide_eq_false hs5,hs9f,decide_eq_true hs11]]
 try rw [show (trI q)=(decide (q.top=4)) by simp only [trI,Bool.or_true,Bool.true_or,Bool.or_false,Bool.false_or,Bool.and_true,Bool.true_and,Bool.and_false,Bool.false_and,Bool.not_true,Bool.not_false,decide_eq_true hs1,decide_eq_false hs5,hs9f,decide_eq_true hs11]]
 try rw [show (moI q)=false by simp only [moI,Bool.or_true,Bool.true_or,Bool.or_false,Bool.false_or,Bool.and_true,Bool.true_and,Bool.and_false,Bool.false_and,Bool.not_true,Bool.not_false,decide_eq_true hs1,decide_eq_false hs5,hs9f,decide_eq_true hs11]]
 exact tM T0
 refine Za (oF bF (qK (qK (qK (qK (oS bF (oS bF (oF bF (qK (qK (qK (qK (oS bF (oW (oW (oe (dF hs11) (oS bF (oF (iv q.top) (gC (ZM rfl rfl) I0 I0 (oS (bv (decide (q.top=3))) (oF (iv q.top) (oC (ZM rfl rfl) I0 I0 (Zaz rfl (KQ [(.tmp 43,.bool false),(.tmp 44,.bool false),(.tmp 51,.bool false),(.tmp 59,.bool (decide (q.top=3))),(.tmp 62,.bool (decide (q.top=4)))] #[.bool false,.bool false,.bool (decide (q.top=3)),.bool (decide (q.top=4)),.bool false] rfl rfl (by kernel_rfl) rfl) ⟨I0,I0,I0,I0,I0,T0⟩ T0 T0 ?_)))))))))))))))))))))))
 refine oZ 3 Z116 (oY (kN 105 [(1,.box 27 (cFm q)),(2,.box 116 [bF,bF,bF,bF,bF]),(3,.box 116 [bF,bF,bv (decide (q.top=3)),bv (decide (q.top=4)),bF])] Ko ?_))
 try rw [show (thI0 q)=false by simp only [thI0,Bool.or_true,Bool.true_or,Bool.or_false,Bool.false_or,Bool.and_true,Bool.true_and,Bool.and_false,Bool.false_and,Bool.not_true,Bool.not_false,decide_eq_true hs1,decide_eq_false hs5,hs9f,decide_eq_false hs11]]
 try rw [show (plI q)=false by simp only [plI,Bool.or_true,Bool.true_or,Bool.or_false,Bool.false_or,Bool.and_true,Bool.true_and,Bool.and_false,Bool.false_and,Bool.not_true,Bool.not_false,decide_eq_true hs1,decide_eq_false hs5,hs9f,decide_eq_false hs11]]
 try rw [show (woI q)=(decide (q.top=3)) by simp only [woI,Bool.or_true,Bool.true_or,Bool.or_false,Bool.false_or,Bool.and_true,Bool.true_and,Bool.and_false,Bool.false_and,Bool.not_true,Bool.not_false,decide_eq_true hs1,decide_eq_false hs5,hs9f,decide_eq_false hs11]]
 try rw [show (trI q)=(decide (q.top=4)) by simp only [trI,Bool.or_true,Bool.true_or,Bool.or_false,Bool.false_or,Bool.and_true,Bool.true_and,Bool.and_false,Bool.false_and,Bool.not_true,Bool.not_false,decide_eq_true hs1,decide_eq_false hs5,hs9f,decide_eq_false hs11]]
 try rw [show (moI q)=false by simp only [moI,Bool.or_true,Bool.true_or,Bool.or_false,Bool.false_or,Bool.and_true,Bool.true_and,Bool.and_false,Bool.false_and,Bool.not_true,Bool.not_false,decide_eq_true hs1,decide_eq_false hs5,hs9f,decide_eq_false hs11]]
 exact tM T0
 refine jC (jB (oS (iv 0) (kN 105 [(1,.box 27 (cFm q)),(2,.box 116 [bF,bF,bF,bF,bF]),(3,.box 116 [bv (thI0 q),bv (plI q),bv (woI q),bv (trI q),bv (moI q)])] [(1,bx 1),(2,bx 2),(3,iv 0),(7,bx 3),(8,iv 0)] (Zi (Zl ?_)))))
 rw [← cT_zero,← cC_zero]
 refine ZL (σ:={k:Nat // k≤q.rz.length}) (fun s=>(ofL [(1,.box 27 (cFm q)),(2,.box 116 [bF,bF,bF,bF,bF]),(3,.box 116 [bv (cT q s.1),bv (cC q s.1),bv (woI q),bv (trI q),bv (moI q)])],ofT 105 [(1,bx 1),(2,bx 2),(3,iv 0),(7,bx 3),(8,iv s.1)])) (fun s=>q.rz.length-s.1) ⟨0,Nat.zero_le _⟩ (Zs _ _) (fun s => ?_)
 obtain ⟨k,hk0⟩:=s
 show ETri J w0 (ofL [(1,.box 27 (cFm q)),(2,.box 116 [bF,bF,bF,bF,bF]),(3,.box 116 [bv (cT q k),bv (cC q k),bv (woI q),bv (trI q),bv (moI q)])]) (ofT 105 [(1,bx 1),(2,bx 2),(3,iv 0),(7,bx 3),(8,iv k)]) _
 refine jM ?_
 by_cases hs12:(k:Int)<(q.rz.length:Int)
 refine Za (oW (oW (oW (oW (ol (dT hs12) (jH (Zq (jC (Zl (jB (oF (slA 18 cRu q.rz) (oS (iv k) (oC (xS (k*18) 72 73 U25) I0 I0 (oA (ZW (z:=18) (.tmp 74) rfl U98 rfl (by kernel_rfl) (Ym lenRu q.rz k (by omega)) rfl) I0 (oZ 4 Z98 (oY (kN 105 (ZbH q k q.rz[k]) [(1,bx 1),(2,bx 2),(3,iv 0),(7,bx 3),(8,iv k),(9,bx 4),(68,bT)] (jC ?_))))))))))))))))))
 refine Zk ?_
 refine YK (True) (ofL [(1,.box 27 (cFm q)),(2,.box 116 [bF,bF,bF,bF,bF]),(3,.box 116 [bv (cT q k),bv (cC q k),bv (woI q),bv (trI q),bv (moI q)]),(4,.box 98 (cRu q.rz[k]))]) (ofT 105 [(1,bx 1),(2,bx 2),(3,iv 0),(7,bx 3),(8,iv k),(9,bx 4),(68,bT),(97,bv (noIc q.rz[k]))]) ?_ (fun _ => ?_)
 by_cases hs13:q.rz[k].kind=1
 by_cases hs14:q.rz[k].to≤q.rz[k].frm
 refine Za (oW (oW (on (dT' hs13) (oS bF (oW (oW (oW (oW (oh (dT hs14) (oF bT (qK (qK (qK (qK (oF bT (qK (qK (qK (qK (oS bT (kN 105 [(1,.box 27 (cFm q)),(2,.box 116 [bF,bF,bF,bF,bF]),(3,.box 116 [bv (cT q k),bv (cC q k),bv (woI q),bv (trI q),bv (moI q)]),(4,.box 98 (cRu q.rz[k]))] [(1,bx 1),(2,bx 2),(3,iv 0),(7,bx 3),(8,iv k),(9,bx 4),(68,bT),(97,bT)] ?_)))))))))))))))))))))
 rw [show (noIc q.rz[k])=true by simp only [noIc,Bool.or_true,Bool.true_or,Bool.or_false,Bool.false_or,Bool.and_true,Bool.true_and,Bool.and_false,Bool.false_and,Bool.not_true,Bool.not_false,decide_eq_true hs1,decide_eq_true hs12,decide_eq_true hs13,decide_eq_true hs14]]
 exact tM T0
 by_cases hs15:0<((q.rz[k].ex.length:Nat):Int)
 refine Za (oW (oW (on (dT' hs13) (oS bF (oW (oW (oW (oW (oh (dF hs14) (oF bF (oW (oW (oW (og (dT hs15) (oF bT (qK (qK (qK (qK (oS bT (kN 105 [(1,.box 27 (cFm q)),(2,.box 116 [bF,bF,bF,bF,bF]),(3,.box 116 [bv (cT q k),bv (cC q k),bv (woI q),bv (trI q),bv (moI q)]),(4,.box 98 (cRu q.rz[k]))] [(1,bx 1),(2,bx 2),(3,iv 0),(7,bx 3),(8,iv k),(9,bx 4),(68,bT),(97,bT)] ?_)))))))))))))))))))))
 rw [show (noIc q.rz[k])=true by simp only [noIc,Bool.or_true,Bool.true_or,Bool.or_false,Bool.false_or,Bool.and_true,Bool.true_and,Bool.and_false,Bool.false_and,Bool.not_true,Bool.not_false,decide_eq_true hs1,decide_eq_true hs12,decide_eq_true hs13,decide_eq_false hs14,decide_eq_true hs15]]
 exact tM T0
 by_cases hs16:0<((q.rz[k].fa.length:Nat):Int)
 refine Za (oW (oW (on (dT' hs13) (oS bF (oW (oW (oW (oW (oh (dF hs14) (oF bF (oW (oW (oW (og (dF hs15) (oF bF (oW (oW (oW (og (dT hs16) (oS bT (kN 105 [(1,.box 27 (cFm q)),(2,.box 116 [bF,bF,bF,bF,bF]),(3,.box 116 [bv (cT q k),bv (cC q k),bv (woI q),bv (trI q),bv (moI q)]),(4,.box 98 (cRu q.rz[k]))] [(1,bx 1),(2,bx 2),(3,iv 0),(7,bx 3),(8,iv k),(9,bx 4),(68,bT),(97,bT)] ?_)))))))))))))))))))))
 rw [show (noIc q.rz[k])=true by simp only [noIc,Bool.or_true,Bool.true_or,Bool.or_false,Bool.false_or,Bool.and_true,Bool.true_and,Bool.and_false,Bool.false_and,Bool.not_true,Bool.not_false,decide_eq_true hs1,decide_eq_true hs12,decide_eq_true hs13,decide_eq_false hs14,decide_eq_false hs15,decide_eq_true hs16]]
 exact tM T0
 refine Za (oW (oW (on (dT' hs13) (oS bF (oW (oW (oW (oW (oh (dF hs14) (oF bF (oW (oW (oW (og (dF hs15) (oF bF (oW (oW (oW (og (dF hs16) (oS bF (kN 105 [(1,.box 27 (cFm q)),(2,.box 116 [bF,bF,bF,bF,bF]),(3,.box 116 [bv (cT q k),bv (cC q k),bv (woI q),bv (trI q),bv (moI q)]),(4,.box 98 (cRu q.rz[k]))] [(1,bx 1),(2,bx 2),(3,iv 0),(7,bx 3),(8,iv k),(9,bx 4),(68,bT),(97,bF)] ?_)))))))))))))))))))))
 rw [show (noIc q.rz[k])=false by simp only [noIc,Bool.or_true,Bool.true_or,Bool.or_false,Bool.false_or,Bool.and_true,Bool.true_and,Bool.and_false,Bool.false_and,Bool.not_true,Bool.not_false,decide_eq_true hs1,decide_eq_true hs12,decide_eq_true hs13,decide_eq_false hs14,decide_eq_false hs15,decide_eq_false hs16]]
 exact tM T0
 refine Za (oW (oW (on (dF' hs13) (oS bT (qK (qK (qK (qK (qK (oF bT (qK (qK (qK (qK (oF bT (qK (qK (qK (qK (oS bT (kN 105 [(1,.box 27 (cFm q)),(2,.box 116 [bF,bF,bF,bF,bF]),(3,.box 116 [bv (cT q k),bv (cC q k),bv (woI q),bv (trI q),bv (moI q)]),(4,.box 98 (cRu q.rz[k]))] [(1,bx 1),(2,bx 2),(3,iv 0),(7,bx 3),(8,iv k),(9,bx 4),(68,bT),(97,bT)] ?_)))))))))))))))))))))
 rw [show (noIc q.rz[k])=true by simp only [noIc,Bool.or_true,Bool.true_or,Bool.or_false,Bool.false_or,Bool.and_true,Bool.true_and,Bool.and_false,Bool.false_and,Bool.not_true,Bool.not_false,decide_eq_true hs1,decide_eq_true hs12,decide_eq_false hs13]]
 exact tM T0
 refine Zi ?_
 by_cases hs17:(noIc q.rz[k])=true
 rw [hs17]
 refine kW 105 (ZbH q k q.rz[k]) (XCls_h4 k) (Yy rfl (Za (oW (oY (kN 105 (XCls_h5 q k q.rz[k]) (XCls_h4 k) (jC ?_))))))
 by_cases hs18:0<((q.rz[k].fa.length:Nat):Int)
 refine Za (oW (oW (oW (og (dT hs18) (jH (Za (oW (oY (kN 105 (XCls_h6 q q.rz[k]) [(1,bx 1),(2,bx 2),(3,iv 0),(7,bx 3),(8,iv k),(9,bx 4),(68,bT),(97,bT),(102,bT)] (ZG (Zi (Za (oS (iv k) (oV ((k+1:Nat):Int) (oS (iv (k+1:Nat)) (kN 105 (XCls_h6 q q.rz[k]) [(1,bx 1),(2,bx 2),(3,iv 0),(7,bx 3),(8,iv (k+1:Nat)),(9,bx 4),(68,bT),(97,bT),(102,bT)] (Zi ?_)))))))))))))))))
 refine ZD ⟨k+1,by omega⟩ (show q.rz.length-(k+1)<q.rz.length-k by omega) ?_
 show Wk _ _ (ofL [(1,.box 27 (cFm q)),(2,.box 116 [bF,bF,bF,bF,bF]),(3,.box 116 [bv (cT q (k+1)),bv (cC q (k+1)),bv (woI q),bv (trI q),bv (moI q)])]) (ofT 105 [(1,bx 1),(2,bx 2),(3,iv 0),(7,bx 3),(8,iv ((k+1):Nat))])
 rw [cT_t (by omega) hs17,cC_t (by omega) hs18]
 exact Zs _ _
 refine Za (oW (oW (oW (og (dF hs18) (jI (Zq (ZG (Zi (Za (oS (iv k) (oV ((k+1:Nat):Int) (oS (iv (k+1:Nat)) (kN 105 (XCls_h5 q k q.rz[k]) [(1,bx 1),(2,bx 2),(3,iv 0),(7,bx 3),(8,iv (k+1:Nat)),(9,bx 4),(68,bT),(97,bT),(102,bF)] (Zi ?_))))))))))))))
 refine ZD ⟨k+1,by omega⟩ (show q.rz.length-(k+1)<q.rz.length-k by omega) ?_
 show Wk _ _ (ofL [(1,.box 27 (cFm q)),(2,.box 116 [bF,bF,bF,bF,bF]),(3,.box 116 [bv (cT q (k+1)),bv (cC q (k+1)),bv (woI q),bv (trI q),bv (moI q)])]) (ofT 105 [(1,bx 1),(2,bx 2),(3,iv 0),(7,bx 3),(8,iv ((k+1):Nat))])
 rw [cT_t (by omega) hs17,cC_f (by omega) hs18]
 exact Zs _ _
 have hs17f:(noIc q.rz[k])=false:=by simpa using hs17
 rw [hs17f]
 refine kW 105 (ZbH q k q.rz[k]) [(1,bx 1),(2,bx 2),(3,iv 0),(7,bx 3),(8,iv k),(9,bx 4),(68,bT),(97,bF)] (jL (Zk ?_))
 by_cases hs19:0<((q.rz[k].fa.length:Nat):Int)
 refine Za (oW (oW (oW (og (dT hs19) (jH (Za (oW (oY (kN 105 (XCls_h7 q k q.rz[k]) [(1,bx 1),(2,bx 2),(3,iv 0),(7,bx 3),(8,iv k),(9,bx 4),(68,bT),(97,bF),(102,bT)] (ZG (Zi (Za (oS (iv k) (oV ((k+1:Nat):Int) (oS (iv (k+1:Nat)) (kN 105 (XCls_h7 q k q.rz[k]) [(1,bx 1),(2,bx 2),(3,iv 0),(7,bx 3),(8,iv (k+1:Nat)),(9,bx 4),(68,bT),(97,bF),(102,bT)] (Zi ?_)))))))))))))))))
 refine ZD ⟨k+1,by omega⟩ (show q.rz.length-(k+1)<q.rz.length-k by omega) ?_
 show Wk _ _ (ofL [(1,.box 27 (cFm q)),(2,.box 116 [bF,bF,bF,bF,bF]),(3,.box 116 [bv (cT q (k+1)),bv (cC q (k+1)),bv (woI q),bv (trI q),bv (moI q)])]) (ofT 105 [(1,bx 1),(2,bx 2),(3,iv 0),(7,bx 3),(8,iv ((k+1):Nat))])
 rw [cT_f (by omega) hs17f,cC_t (by omega) hs19]
 exact Zs _ _
 refine Za (oW (oW (oW (og (dF hs19) (jI (Zq (ZG (Zi (Za (oS (iv k) (oV ((k+1:Nat):Int) (oS (iv (k+1:Nat)) (kN 105 (ZbH q k q.rz[k]) [(1,bx 1),(2,bx 2),(3,iv 0),(7,bx 3),(8,iv (k+1:Nat)),(9,bx 4),(68,bT),(97,bF),(102,bF)] (Zi ?_))))))))))))))
 refine ZD ⟨k+1,by omega⟩ (show q.rz.length-(k+1)<q.rz.length-k by omega) ?_
 show Wk _ _ (ofL [(1,.box 27 (cFm q)),(2,.box 116 [bF,bF,bF,bF,bF]),(3,.box 116 [bv (cT q (k+1)),bv (cC q (k+1)),bv (woI q),bv (trI q),bv (moI q)])]) (ofT 105 [(1,bx 1),(2,bx 2),(3,iv 0),(7,bx 3),(8,iv ((k+1):Nat))])
 rw [cT_f (by omega) hs17f,cC_f (by omega) hs19]
 exact Zs _ _
 refine Za (oW (oW (oW (oW (ol (dF hs12) (jI (jO (jC (Za (oW (oY (oS (iv 0) (kN 105 [(2,.box 116 [bv (cT q k),bv (cC q k),bv (woI q),bv (trI q),bv (moI q)])] [(2,bx 2),(3,iv 0)] (Zi (YG ?_)))))))))))))))
 refine tri_end2 Tryz.results96 (.cellS rfl rfl U116 rfl (z:=5) (by kernel_rfl) rfl (by decide)) (.tmp rfl) ?_
 exact cls_end hs1 (by omega)
 refine Za (oW (on (dF' hs1) (jG (Zaz rfl (KQ [] #[.bool false,.bool false,.bool false,.bool false,.bool false] rfl rfl (by kernel_rfl) rfl) T0 T0 T0 (oW (oY (oS (iv (valE q)) (kN 105 (Kp q) [(1,bx 1),(2,bx 2),(3,iv (valE q))] (Zi (jN ?_))))))))))
 refine tri_end2 Tryz.results96 (.cellS rfl rfl U116 rfl (z:=5) (by kernel_rfl) rfl (by decide)) (.tmp rfl) ?_
 exact cls_err hs1
theorem acc_c (b0 b1 b2 b3 b4:Bool):Ctr Tryz.prog J 94 [.agg [bv b0,bv b1,bv b2,bv b3,bv b4]] (bv (b1||b4)):=by
 refine Zn Tryz.func94 rfl (pN (Zm (pN (.v _) (pN (.v _) (pN (.v _) (pN (.v _) (pN (.v _) pZ)))))) pZ) (n:=9) rfl (by simp) (fun w0 => ?_)
 refine kW 9 [] [(0,.agg [bv b0,bv b1,bv b2,bv b3,bv b4])] (jB (oX 1 (.agg [bv b0,bv b1,bv b2,bv b3,bv b4]) (oS bF (jD ?_))))
 by_cases hs1:b1=true
 rw [hs1]
 refine kW 9 [(1,.box 113 [bv b0,bT,bv b2,bv b3,bv b4])] [(1,bx 1),(2,bF)] (Za (oW (oF bT (qK (qK (oF bT (jE ?_)))))))
 refine Zd Tryz.results94 (.tmp rfl) ?_
 exact cB (rfl)
 have hs1f:b1=false:=by simpa using hs1
 rw [hs1f]
 refine kW 9 [(1,.box 113 [bv b0,bF,bv b2,bv b3,bv b4])] [(1,bx 1),(2,bF)] (Za (oW (oF bF (oW (oW (oF (bv b4) (jE ?_)))))))
 refine Zd Tryz.results94 (.tmp rfl) ?_
 exact cB (rfl)
theorem clsErr_c (HQ:FmOk q):Ctr Tryz.prog J 93 [.agg (cFm q),.v (.func (.func 94) #[] #[])] (iv (Cv.cErr q)):=by
 refine Zn Tryz.func93 rfl (pN (Zm (Z0 q)) (pN (.v _) pZ)) (n:=21) rfl (by simp) (fun w0 => ?_)
 refine kW 21 [] [(0,.agg (cFm q)),(1,.v (.func (.func 94) #[] #[]))] (jB (oX 1 (.agg (cFm q)) (oS (iv 0) (jD (Za (oW (oK (ZcV HQ) [.agg (cFm q)] rfl rfl (oS (.tup [.fr (.agg [bv (decide (valE q=0)&&clTh q),bv (decide (valE q=0)&&clCo q),bv (decide (valE q=0)&&clWo q),bv (decide (valE q=0)&&clTr q),bv (decide (valE q=0)&&clMo q)]),iv (valE q)]) (oS (.fr (.agg [bv (decide (valE q=0)&&clTh q),bv (decide (valE q=0)&&clCo q),bv (decide (valE q=0)&&clWo q),bv (decide (valE q=0)&&clTr q),bv (decide (valE q=0)&&clMo q)])) (oW (oZ 2 Z113 (Zaz rfl (sB 5 5 (.tmp 10) (.agg [bv (decide (valE q=0)&&clTh q),bv (decide (valE q=0)&&clCo q),bv (decide (valE q=0)&&clWo q),bv (decide (valE q=0)&&clTr q),bv (decide (valE q=0)&&clMo q)])) ⟨I0,.inr (.inr (.inl ⟨_,rfl,rfl⟩)),T0⟩ ⟨rfl,T0⟩ rfl (oS (iv (valE q)) (jD (Zk ?_)))))))))))))))
 by_cases hs1:valE q=0
 by_cases hs2:(Cv.acB q)=true
 refine Za (oW (oe (dT hs1) (oS bT (oS (.v (.func (.func 94) #[] #[])) (oS (.agg [bv (decide (valE q=0)&&clTh q),bv (decide (valE q=0)&&clCo q),bv (decide (valE q=0)&&clWo q),bv (decide (valE q=0)&&clTr q),bv (decide (valE q=0)&&clMo q)]) (gC (KW (c := .tmp 15) (xs := #[.tmp 16]) [] (Zj (acc_c _ _ _ _ _) hs2) rfl (by kernel_rfl) rfl (Xs:=[.agg [bv (decide (valE q=0)&&clTh q),bv (decide (valE q=0)&&clCo q),bv (decide (valE q=0)&&clWo q),bv (decide (valE q=0)&&clTr q),bv (decide (valE q=0)&&clMo q)]]) rfl rfl rfl) I0 I0 (oW (oS bF (jF (jB (oF (iv (valE q)) (jE ?_))))))))))))
 refine Zd Tryz.results93 (.tmp rfl) ?_
 exact congrArg (fun x:Int=>AV.v (.int .i64 x)) (hs1.trans (Cv.cErr_ok hs1 hs2).symm)
 have hs2f:(Cv.acB q)=false:=by simpa using hs2
 refine Za (oW (oe (dT hs1) (oS bT (oS (.v (.func (.func 94) #[] #[])) (oS (.agg [bv (decide (valE q=0)&&clTh q),bv (decide (valE q=0)&&clCo q),bv (decide (valE q=0)&&clWo q),bv (decide (valE q=0)&&clTr q),bv (decide (valE q=0)&&clMo q)]) (gC (KW (c := .tmp 15) (xs := #[.tmp 16]) [] (Zj (acc_c _ _ _ _ _) hs2f) rfl (by kernel_rfl) rfl (Xs:=[.agg [bv (decide (valE q=0)&&clTh q),bv (decide (valE q=0)&&clCo q),bv (decide (valE q=0)&&clWo q),bv (decide (valE q=0)&&clTr q),bv (decide (valE q=0)&&clMo q)]]) rfl rfl rfl) I0 I0 (oW (oS bT (jG (oS (iv 7) (jE (Zb ?_))))))))))))
 refine Zd Tryz.results93 (.tmp rfl) ?_
 exact congrArg (fun x:Int=>AV.v (.int .i64 x)) ((Cv.cErr_no hs1 hs2f).symm)
 refine Za (oW (oe (dF hs1) (oS bF (qK (qK (qK (qK (oS bF (jF (jB (oF (iv (valE q)) (jE ?_))))))))))))
 refine Zd Tryz.results93 (.tmp rfl) ?_
 exact congrArg (fun x:Int=>AV.v (.int .i64 x)) ((Cv.cErr_v hs1).symm)
theorem cntErr_c (HQ:FmOk q):Ctr Tryz.prog J 45 [.agg (cFm q)] (iv (Cv.cErr q)):=by
 refine Zn Tryz.func45 rfl (pN (Zm (Z0 q)) pZ) (n:=5) rfl (by simp) (fun w0 => ?_)
 refine kW 5 [] [(0,.agg (cFm q))] (jB (oX 1 (.agg (cFm q)) (oS (iv 0) (jD (Za (oW (oK (clsErr_c HQ) [.agg (cFm q),.v (.func (.func 94) #[] #[])] rfl rfl (oS (iv (Cv.cErr q)) (jE ?_)))))))))
 refine Zd Tryz.results45 (.tmp rfl) ?_
 exact rfl
theorem valCnt_c (HQ:FmOk q):Ctr Tryz.prog J 95 [.agg (cFm q)] (iv (max (q.vals.length:Int) 1)):=by
 refine Zn Tryz.func95 rfl (pN (Zm (Z0 q)) pZ) (n:=7) rfl (by simp) (fun w0 => ?_)
 refine kW 7 [] [(0,.agg (cFm q))] (jB (oX 1 (.agg (cFm q)) (oS (iv 0) (jD (Za (oW (oF (iv q.vals.length) (oC (sp_max (.tmp 5) (.const (.int .i64 1)) rfl) I0 I0 (oS (iv (max (q.vals.length:Int) 1)) (jE ?_))))))))))
 refine Zd Tryz.results95 (.tmp rfl) ?_
 exact rfl
theorem elErr_c (HQ:FmOk q) {e:Em} (HE:EmOk e):Ctr Tryz.prog J 46 [.agg (cFm q),.agg (cEm e)] (iv (Cv.elE q e)):=by
 have le:=HE.l
 have ls:=HQ.lstates
 refine Zn Tryz.func46 rfl (pN (Zm (Z0 q)) (pN (Zm (ZV e)) pZ)) (n:=30) rfl (by simp) (fun w0 => ?_)
 refine kW 30 [] [(0,.agg (cFm q)),(1,.agg (cEm e))] (jB (oX 1 (.agg (cFm q)) (oX 2 (.agg (cEm e)) (oS (iv 0) (jD (Zk ?_))))))
 by_cases hs1:(e.c.length:Int)=(q.sz.length:Int)
 by_cases hs2:(Cv.okC e.c)=true
 by_cases hs3:e.v<0
 refine tD (dW (dW (dW (dW (dW (dW (dn (dT' hs1) (dS bF (dW (dW (dk (Zj (YD e.c (Nat.le_trans HE.l (by decide))) hs2) [Zc e.c] rfl rfl (dW (dW (dS bF (dW (dW (dl (dT hs3) (dW (dS bT (dK (dK (dK (dK (dK (dS bT (eD ?_))))))))))))))))))))))))))
 refine kW 30 [] [(4,iv 0),(29,bT)] (Zi (jK (oS (iv 1) (jE (Zb ?_)))))
 refine Zd Tryz.results46 (.tmp rfl) ?_
 exact congrArg (fun x:Int=>AV.v (.int .i64 x)) ((Cv.elE_f (Cv.fit_f (fun h=>by omega))).symm)
 by_cases hs4:(max (q.vals.length:Int) 1)≤e.v
 refine tD (dW (dW (dW (dW (dW (dW (dn (dT' hs1) (dS bF (dW (dW (dk (Zj (YD e.c (Nat.le_trans HE.l (by decide))) hs2) [Zc e.c] rfl rfl (dW (dW (dS bF (dW (dW (dl (dF hs3) (dW (dS bF (dW (dW (dW (dk (valCnt_c HQ) [.agg (cFm q)] rfl rfl (dh (dT hs4) (dS bT (eD ?_))))))))))))))))))))))))))
 refine kW 30 [] [(4,iv 0),(29,bT)] (Zi (jK (oS (iv 1) (jE (Zb ?_)))))
 refine Zd Tryz.results46 (.tmp rfl) ?_
 exact congrArg (fun x:Int=>AV.v (.int .i64 x)) ((Cv.elE_f (Cv.fit_f (fun h=>by omega))).symm)
 refine tD (dW (dW (dW (dW (dW (dW (dn (dT' hs1) (dS bF (dW (dW (dk (Zj (YD e.c (Nat.le_trans HE.l (by decide))) hs2) [Zc e.c] rfl rfl (dW (dW (dS bF (dW (dW (dl (dF hs3) (dW (dS bF (dW (dW (dW (dk (valCnt_c HQ) [.agg (cFm q)] rfl rfl (dh (dF hs4) (dS bF (eD ?_))))))))))))))))))))))))))
 refine kW 30 [] [(4,iv 0),(29,bF)] (jJ (jB (oS (iv 0) (jE ?_))))
 refine Zd Tryz.results46 (.tmp rfl) ?_
 exact congrArg (fun x:Int=>AV.v (.int .i64 x)) ((Cv.elE_t (Cv.fit_t (by omega) (by assumption) (by omega) (by omega))).symm)
 have hs2f:(Cv.okC e.c)=false:=by simpa using hs2
 refine tD (dW (dW (dW (dW (dW (dW (dn (dT' hs1) (dS bF (dW (dW (dk (Zj (YD e.c (Nat.le_trans HE.l (by decide))) hs2f) [Zc e.c] rfl rfl (dW (dW (dS bT (dK (dK (dK (dW (dS bT (dK (dK (dK (dK (dK (dS bT (eD ?_))))))))))))))))))))))))))
 refine kW 30 [] [(4,iv 0),(29,bT)] (Zi (jK (oS (iv 1) (jE (Zb ?_)))))
 refine Zd Tryz.results46 (.tmp rfl) ?_
 exact congrArg (fun x:Int=>AV.v (.int .i64 x)) ((Cv.elE_f (Cv.fit_f (fun h=>by rw [hs2f] at h;cases h.2.1))).symm)
 refine tD (dW (dW (dW (dW (dW (dW (dn (dF' hs1) (dS bT (dK (dK (dK (dK (dW (dS bT (dK (dK (dK (dW (dS bT (dK (dK (dK (dK (dK (dS bT (eD ?_))))))))))))))))))))))))))
 refine kW 30 [] [(4,iv 0),(29,bT)] (Zi (jK (oS (iv 1) (jE (Zb ?_)))))
 refine Zd Tryz.results46 (.tmp rfl) ?_
 exact congrArg (fun x:Int=>AV.v (.int .i64 x)) ((Cv.elE_f (Cv.fit_f (fun h=>by omega))).symm)
theorem ZaE (HQ:FmOk q) {e:Em} (HE:EmOk e):Ctr Tryz.prog J 9 [.agg (cFm q),.agg (cEm e)] (iv (Cv.veE q e)):=by
 refine Zn Tryz.func9 rfl (pN (Zm (Z0 q)) (pN (Zm (ZV e)) pZ)) (n:=14) rfl (by simp) (fun w0 => ?_)
 refine kW 14 [] [(0,.agg (cFm q)),(1,.agg (cEm e))] (jB (oX 1 (.agg (cFm q)) (oX 2 (.agg (cEm e)) (oS (iv 0) (jD (jB (oW (oK (cntErr_c HQ) [.agg (cFm q)] rfl rfl (oS (iv (Cv.cErr q)) (jD ?_))))))))))
 by_cases hs1:(Cv.cErr q)=0
 refine Za (oW (on (dT' hs1) (jF (jB (oW (oW (oK (elErr_c HQ HE) [.agg (cFm q),.agg (cEm e)] rfl rfl (oS (iv (Cv.elE q e)) (jE ?_)))))))))
 refine Zd Tryz.results9 (.tmp rfl) ?_
 exact congrArg (fun x:Int=>AV.v (.int .i64 x)) ((Cv.veE_e hs1).symm)
 refine Za (oW (on (dF' hs1) (jG (oF (iv (Cv.cErr q)) (jE (Zb ?_))))))
 refine Zd Tryz.results9 (.tmp rfl) ?_
 exact congrArg (fun x:Int=>AV.v (.int .i64 x)) ((Cv.veE_c hs1).symm)
theorem rLeq_c {a b:Em} (HA:EmOk a) (HB:EmOk b):Ctr Tryz.prog J 12 [.agg (cEm a),.agg (cEm b)] (bv (Cv.leB a b)):=by
 have la:=HA.l
 have lb:=HB.l
 refine Zn Tryz.func12 rfl (pN (Zm (ZV a)) (pN (Zm (ZV b)) pZ)) (n:=38) rfl (by simp) (fun w0 => ?_)
 refine kW 38 [] [(0,.agg (cEm a)),(1,.agg (cEm b))] (jB (oX 1 (.agg (cEm a)) (oX 2 (.agg (cEm b)) (oS bF (jD (Zk ?_))))))
 by_cases hs1:a.v=b.v
 by_cases hs2:(a.c.length:Int)=(b.c.length:Int)
 refine Za (oW (oW (oW (oW (on (dT' hs1) (oS bF (oW (oW (oW (oW (oW (oW (on (dT' hs2) (oS bF (jF (jM (Za (oS (iv 0) ?_))))))))))))))))))
 refine kN 38 [(1,.box 29 (cEm a)),(2,.box 29 (cEm b))] [(2,bx 1),(3,bx 2),(4,bF),(5,iv 0)] (Zi (Zl ?_))
 refine ZL (σ:={k:Nat // k≤a.c.length∧Cv.leK a.c b.c k}) (fun s=>(ofL [(1,.box 29 (cEm a)),(2,.box 29 (cEm b))],ofT 38 [(2,bx 1),(3,bx 2),(5,iv s.1)])) (fun s=>a.c.length-s.1) ⟨0,Nat.zero_le _,Cv.leK_zero _ _⟩ (Zs _ _) (fun s => ?_)
 obtain ⟨k,hk0,hs0⟩:=s
 show ETri J w0 (ofL [(1,.box 29 (cEm a)),(2,.box 29 (cEm b))]) (ofT 38 [(2,bx 1),(3,bx 2),(5,iv k)]) _
 refine jM ?_
 by_cases hs3:(k:Int)<(a.c.length:Int)
 refine Za (oW (oW (oW (oW (ol (dT hs3) (jH (Zq (jC (Zl (Zk ?_))))))))))
 by_cases hs4:b.c[k]<a.c[k]
 refine tD (dW (dS (Zc a.c) (dS (iv k) (dC (xS (k*1) 28 29 U24) I0 I0 (dL (iv a.c[k]) (Zy a.c (by omega)) (dW (dS (Zc b.c) (dS (iv k) (dC (xS (k*1) 33 34 U24) I0 I0 (dL (iv b.c[k]) (Zy b.c (by omega)) (dg (dT hs4) (eD ?_))))))))))))
 refine kW 38 [(1,.box 29 (cEm a)),(2,.box 29 (cEm b))] [(2,bx 1),(3,bx 2),(5,iv k),(24,bT),(37,bT)] (Zi (jK (oS bF (jE (Zg (Zb (Zb (Zg (Zb ?_)))))))))
 refine Zd Tryz.results12 (.tmp rfl) ?_
 exact cB ((Cv.leB_no (by omega) (by omega) hs4).symm)
 refine tD (dW (dS (Zc a.c) (dS (iv k) (dC (xS (k*1) 28 29 U24) I0 I0 (dL (iv a.c[k]) (Zy a.c (by omega)) (dW (dS (Zc b.c) (dS (iv k) (dC (xS (k*1) 33 34 U24) I0 I0 (dL (iv b.c[k]) (Zy b.c (by omega)) (dg (dF hs4) (eD ?_))))))))))))
 refine kW 38 [(1,.box 29 (cEm a)),(2,.box 29 (cEm b))] [(2,bx 1),(3,bx 2),(5,iv k),(24,bT),(37,bF)] (Zi (ZK rfl (Zq (ZG (Zi (Za (oS (iv k) (oV ((k+1:Nat):Int) (oS (iv (k+1:Nat)) (kN 38 [(1,.box 29 (cEm a)),(2,.box 29 (cEm b))] [(2,bx 1),(3,bx 2),(5,iv (k+1:Nat)),(24,bT),(37,bF)] (Zi ?_)))))))))))
 refine ZD ⟨k+1,by omega,Cv.leK_succ hs0 (by omega) (by omega) hs4⟩ (show a.c.length-(k+1)<a.c.length-k by omega) ?_
 exact Zs _ _
 refine Za (oW (oW (oW (oW (ol (dF hs3) (jI (jO (jC (Za (oS bT (jE ?_)))))))))))
 refine Zd Tryz.results12 (.tmp rfl) ?_
 exact cB ((Cv.leB_yes hs1 (by omega) (k:=k) (by omega) hs0).symm)
 refine Za (oW (oW (oW (oW (on (dT' hs1) (oS bF (oW (oW (oW (oW (oW (oW (on (dF' hs2) (oS bT (jG (oS bF (jE ?_)))))))))))))))))
 refine Zb ?_
 refine Zd Tryz.results12 (.tmp rfl) ?_
 exact cB ((Cv.leB_l (by omega)).symm)
 refine Za (oW (oW (oW (oW (on (dF' hs1) (oS bT (qK (qK (qK (qK (qK (qK (qK (oS bT (jG (oS bF (jE ?_)))))))))))))))))
 refine Zb ?_
 refine Zd Tryz.results12 (.tmp rfl) ?_
 exact cB ((Cv.leB_v hs1).symm)
theorem Lists_c (xs ys:List Int) (lx:xs.length≤9223372036854775807) (ly:ys.length≤9223372036854775807):Ctr Tryz.prog J 52 [Zc xs,Zc ys] (iv (Cv.cmpL xs ys)):=by
 refine Zn Tryz.func52 rfl (pN (ZU _) (pN (ZU _) pZ)) (n:=46) rfl (by simp) (fun w0 => ?_)
 refine kW 46 [] [(0,Zc xs),(1,Zc ys)] (jB (oS (iv 0) (jD (jB (oS (iv 0) (kN 46 [] [(0,Zc xs),(1,Zc ys),(4,iv 0),(5,iv 0)] (Zi (Zl ?_))))))))
 refine ZL (σ:={k:Nat // k≤xs.length∧Cv.eqK xs ys k}) (fun s=>(ofL [],ofT 46 [(0,Zc xs),(1,Zc ys),(5,iv s.1)])) (fun s=>xs.length-s.1) ⟨0,Nat.zero_le _,Cv.eqK_zero _ _⟩ (Zs [] _) (fun s => ?_)
 obtain ⟨k,hk0,hs0⟩:=s
 show ETri J w0 (ofL []) (ofT 46 [(0,Zc xs),(1,Zc ys),(5,iv k)]) _
 refine jM ?_
 by_cases hs1:(k:Int)<(xs.length:Int)
 by_cases hs2:(k:Int)<(ys.length:Int)
 refine Za (oW (oW (oW (ol (dT hs1) (oS bT (oW (oW (oW (ol (dT hs2) (oS bT (jH (Zq (jC (Zl (jM ?_)))))))))))))))
 by_cases hs3:xs[k]<ys[k]
 refine tD (dS (Zc xs) (dS (iv k) (dC (xS (k*1) 18 19 U24) I0 I0 (dL (iv xs[k]) (Zy xs (by omega)) (dS (Zc ys) (dS (iv k) (dC (xS (k*1) 22 23 U24) I0 I0 (dL (iv ys[k]) (Zy ys (by omega)) (dl (dT hs3) (eD ?_))))))))))
 refine kW 46 [] [(0,Zc xs),(1,Zc ys),(5,iv k),(15,bT),(26,bT)] (Zi (jK (oS (iv (-1)) (jE (Zb (Zg (Zb (Zb (Zg (Zb ?_))))))))))
 refine Zd Tryz.results52 (.tmp rfl) ?_
 exact congrArg (fun x:Int=>AV.v (.int .i64 x)) ((Cv.cmpL_lt hs0 (by omega) (by omega) hs3).symm)
 refine tD (dS (Zc xs) (dS (iv k) (dC (xS (k*1) 18 19 U24) I0 I0 (dL (iv xs[k]) (Zy xs (by omega)) (dS (Zc ys) (dS (iv k) (dC (xS (k*1) 22 23 U24) I0 I0 (dL (iv ys[k]) (Zy ys (by omega)) (dl (dF hs3) (eD ?_))))))))))
 refine kW 46 [] [(0,Zc xs),(1,Zc ys),(5,iv k),(15,bT),(26,bF)] (jJ (Zk ?_))
 by_cases hs4:ys[k]<xs[k]
 refine tD (dS (Zc xs) (dS (iv k) (dC (xS (k*1) 27 28 U24) I0 I0 (dL (iv xs[k]) (Zy xs (by omega)) (dS (Zc ys) (dS (iv k) (dC (xS (k*1) 31 32 U24) I0 I0 (dL (iv ys[k]) (Zy ys (by omega)) (dg (dT hs4) (eD ?_))))))))))
 refine kW 46 [] [(0,Zc xs),(1,Zc ys),(5,iv k),(15,bT),(26,bF),(35,bT)] (Zi (jK (oS (iv 1) (jE (Zg (Zb (Zb (Zg (Zb ?_)))))))))
 refine Zd Tryz.results52 (.tmp rfl) ?_
 exact congrArg (fun x:Int=>AV.v (.int .i64 x)) ((Cv.cmpL_gt hs0 (by omega) (by omega) hs4).symm)
 refine tD (dS (Zc xs) (dS (iv k) (dC (xS (k*1) 27 28 U24) I0 I0 (dL (iv xs[k]) (Zy xs (by omega)) (dS (Zc ys) (dS (iv k) (dC (xS (k*1) 31 32 U24) I0 I0 (dL (iv ys[k]) (Zy ys (by omega)) (dg (dF hs4) (eD ?_))))))))))
 refine kW 46 [] [(0,Zc xs),(1,Zc ys),(5,iv k),(15,bT),(26,bF),(35,bF)] (Zi (ZK rfl (Zq (ZG (Zi (Za (oS (iv k) (oV ((k+1:Nat):Int) (oS (iv (k+1:Nat)) (kN 46 [] [(0,Zc xs),(1,Zc ys),(5,iv (k+1:Nat)),(15,bT),(26,bF),(35,bF)] (Zi ?_)))))))))))
 refine ZD ⟨k+1,by omega,Cv.eqK_succ hs0 (by omega) (by omega) (by omega)⟩ (show xs.length-(k+1)<xs.length-k by omega) ?_
 exact Zs [] _
 refine Za (oW (oW (oW (ol (dT hs1) (oS bT (oW (oW (oW (ol (dF hs2) (oS bF (jI (jO (jC (Zk ?_))))))))))))))
 by_cases hs5:(xs.length:Int)<(ys.length:Int)
 refine Za (oW (oW (oW (oW (ol (dT hs5) (jG (oS (iv (-1)) (jE (Zb ?_)))))))))
 refine Zd Tryz.results52 (.tmp rfl) ?_
 have:=hs0.1
 exact congrArg (fun x:Int=>AV.v (.int .i64 x)) ((Cv.cmpL_short hs0 (by omega) (by omega)).symm)
 refine Za (oW (oW (oW (oW (ol (dF hs5) (jF (jM ?_)))))))
 by_cases hs6:(ys.length:Int)<(xs.length:Int)
 refine Za (oW (oW (oW (oW (og (dT hs6) (kN 46 [] [(45,bT)] (Zi (jK (oS (iv 1) (jE (Zb ?_)))))))))))
 refine Zd Tryz.results52 (.tmp rfl) ?_
 have:=hs0.1
 exact congrArg (fun x:Int=>AV.v (.int .i64 x)) ((Cv.cmpL_long hs0 (by omega) (by omega)).symm)
 refine Za (oW (oW (oW (oW (og (dF hs6) (kN 46 [] [(45,bF)] (jJ (jB (oS (iv 0) (jE ?_))))))))))
 refine Zd Tryz.results52 (.tmp rfl) ?_
 have:=hs0.1
 exact congrArg (fun x:Int=>AV.v (.int .i64 x)) ((Cv.cmpL_end hs0 (by omega) (by omega)).symm)
 refine Za (oW (oW (oW (ol (dF hs1) (oS bF (qK (qK (qK (qK (oS bF (jI (jO (jC (Zk ?_))))))))))))))
 by_cases hs7:(xs.length:Int)<(ys.length:Int)
 refine Za (oW (oW (oW (oW (ol (dT hs7) (jG (oS (iv (-1)) (jE (Zb ?_)))))))))
 refine Zd Tryz.results52 (.tmp rfl) ?_
 have:=hs0.1
 exact congrArg (fun x:Int=>AV.v (.int .i64 x)) ((Cv.cmpL_short hs0 (by omega) (by omega)).symm)
 refine Za (oW (oW (oW (oW (ol (dF hs7) (jF (jM ?_)))))))
 by_cases hs8:(ys.length:Int)<(xs.length:Int)
 refine Za (oW (oW (oW (oW (og (dT hs8) (kN 46 [] [(45,bT)] (Zi (jK (oS (iv 1) (jE (Zb ?_)))))))))))
 refine Zd Tryz.results52 (.tmp rfl) ?_
 have:=hs0.1
 exact congrArg (fun x:Int=>AV.v (.int .i64 x)) ((Cv.cmpL_long hs0 (by omega) (by omega)).symm)
 refine Za (oW (oW (oW (oW (og (dF hs8) (kN 46 [] [(45,bF)] (jJ (jB (oS (iv 0) (jE ?_))))))))))
 refine Zd Tryz.results52 (.tmp rfl) ?_
 have:=hs0.1
 exact congrArg (fun x:Int=>AV.v (.int .i64 x)) ((Cv.cmpL_end hs0 (by omega) (by omega)).symm)
theorem ZcT {a b:Em} (HA:EmOk a) (HB:EmOk b):Ctr Tryz.prog J 14 [.agg (cEm a),.agg (cEm b)] (iv (Cv.cmpE a b)):=by
 refine Zn Tryz.func14 rfl (pN (Zm (ZV a)) (pN (Zm (ZV b)) pZ)) (n:=20) rfl (by simp) (fun w0 => ?_)
 refine kW 20 [] [(0,.agg (cEm a)),(1,.agg (cEm b))] (jB (oX 1 (.agg (cEm a)) (oX 2 (.agg (cEm b)) (oS (iv 0) (jD (Zk ?_))))))
 by_cases hs1:a.v<b.v
 refine Za (oW (oW (oW (oW (ol (dT hs1) (jG (oS (iv (-1)) (jE (Zb ?_)))))))))
 refine Zd Tryz.results14 (.tmp rfl) ?_
 exact congrArg (fun x:Int=>AV.v (.int .i64 x)) ((Cv.cmpE_lt hs1).symm)
 refine Za (oW (oW (oW (oW (ol (dF hs1) (jF (jM ?_)))))))
 by_cases hs2:b.v<a.v
 refine Za (oW (oW (oW (oW (og (dT hs2) (jG (oS (iv 1) (jE (Zb ?_)))))))))
 refine Zd Tryz.results14 (.tmp rfl) ?_
 exact congrArg (fun x:Int=>AV.v (.int .i64 x)) ((Cv.cmpE_gt hs1 hs2).symm)
 refine Za (oW (oW (oW (oW (og (dF hs2) (jF (jB (oW (oW (oW (oW (oK (Lists_c a.c b.c (Nat.le_trans HA.l (by decide)) (Nat.le_trans HB.l (by decide))) [Zc a.c,Zc b.c] rfl rfl (oS (iv (Cv.cmpL a.c b.c)) (jE ?_))))))))))))))
 refine Zd Tryz.results14 (.tmp rfl) ?_
 exact congrArg (fun x:Int=>AV.v (.int .i64 x)) ((Cv.cmpE_eq hs1 hs2).symm)
theorem rTotal_c {e:Em} (HE:EmOk e):Ctr Tryz.prog J 16 [.agg (cEm e)] (iv (Cv.totE e)):=by
 have le:=HE.l
 refine Zn Tryz.func16 rfl (pN (Zm (ZV e)) pZ) (n:=38) rfl (by simp) (fun w0 => ?_)
 refine kW 38 [] [(0,.agg (cEm e))] (jB (oX 1 (.agg (cEm e)) (oS (iv 0) (jD (Zk ?_)))))
 by_cases hs1:6<(e.c.length:Int)
 refine Za (oW (oW (oW (og (dT hs1) (jG (oS (iv 0) (jE (Zb ?_))))))))
 refine Zd Tryz.results16 (.tmp rfl) ?_
 exact congrArg (fun x:Int=>AV.v (.int .i64 x)) ((Cv.tot_long (by omega)).symm)
 refine Za (oW (oW (oW (og (dF hs1) (jF (jB (oS (iv 0) (jD (jB (oS (iv 0) (kN 38 [(1,.box 29 (cEm e))] [(1,bx 1),(2,iv 0),(3,iv 0),(4,iv 0)] (Zi (Zl ?_)))))))))))))
 rw [← Cv.sumT_zero e.c]
 refine ZL (σ:={k:Nat // k≤e.c.length∧Cv.noP Cv.outC e.c k=true}) (fun s=>(ofL [(1,.box 29 (cEm e))],ofT 38 [(1,bx 1),(3,iv (Cv.sumT e.c s.1)),(4,iv s.1)])) (fun s=>e.c.length-s.1) ⟨0,Nat.zero_le _,Cv.noP_zero _ _⟩ (Zs _ _) (fun s => ?_)
 obtain ⟨k,hk0,hs0⟩:=s
 show ETri J w0 (ofL [(1,.box 29 (cEm e))]) (ofT 38 [(1,bx 1),(3,iv (Cv.sumT e.c k)),(4,iv k)]) _
 obtain ⟨b1,b2⟩:=Cv.tot_r hs0 (by omega)
 refine jM ?_
 by_cases hs2:(k:Int)<(e.c.length:Int)
 refine Za (oW (oW (oW (oW (ol (dT hs2) (jH (Zq (jC (Zl (jM ?_))))))))))
 by_cases hs3:e.c[k]<0
 refine Za (oF (Zc e.c) (oS (iv k) (oC (xS (k*1) 17 18 U24) I0 I0 (oL (iv e.c[k]) (Zy e.c (by omega)) (ol (dT hs3) (oS bT (qK (qK (qK (qK (qK (qK (oS bT (jG (oS (iv 0) (jE (Zb ?_)))))))))))))))))
 refine Zg (Zb (Zb (Zg (Zb ?_))))
 refine Zd Tryz.results16 (.tmp rfl) ?_
 exact congrArg (fun x:Int=>AV.v (.int .i64 x)) ((Cv.tot_o (by omega) (Cv.okC_at (k:=k) (by omega) (by omega))).symm)
 by_cases hs4:1048576<e.c[k]
 refine Za (oF (Zc e.c) (oS (iv k) (oC (xS (k*1) 17 18 U24) I0 I0 (oL (iv e.c[k]) (Zy e.c (by omega)) (ol (dF hs3) (oS bF (oF (Zc e.c) (oS (iv k) (gC (xS (k*1) 24 25 U24) I0 I0 (oL (iv e.c[k]) (Zy e.c (by omega)) (og (dT hs4) (oS bT (jG (oS (iv 0) (jE (Zb (Zg ?_)))))))))))))))))
 refine Zb (Zb (Zg (Zb ?_)))
 refine Zd Tryz.results16 (.tmp rfl) ?_
 exact congrArg (fun x:Int=>AV.v (.int .i64 x)) ((Cv.tot_o (by omega) (Cv.okC_at (k:=k) (by omega) (by omega))).symm)
 refine Za (oF (Zc e.c) (oS (iv k) (oC (xS (k*1) 17 18 U24) I0 I0 (oL (iv e.c[k]) (Zy e.c (by omega)) (ol (dF hs3) (oS bF (oF (Zc e.c) (oS (iv k) (gC (xS (k*1) 24 25 U24) I0 I0 (oL (iv e.c[k]) (Zy e.c (by omega)) (og (dF hs4) (oS bF (jF (Za (oS (iv (Cv.sumT e.c k)) (oF (Zc e.c) (oS (iv k) (oC (xS (k*1) 32 33 U24) I0 I0 (oL (iv e.c[k]) (Zy e.c (by omega)) ?_)))))))))))))))))))
 refine oV ((Cv.sumT e.c k)+e.c[k]) (oS (iv ((Cv.sumT e.c k)+e.c[k])) (Y1 (ZG (Zi (Za (oS (iv k) (oV ((k+1:Nat):Int) (oS (iv (k+1:Nat)) (kN 38 [(1,.box 29 (cEm e))] [(1,bx 1),(3,iv ((Cv.sumT e.c k)+e.c[k])),(4,iv (k+1:Nat)),(13,bT),(29,bF)] (Zi ?_))))))))))
 refine ZD ⟨k+1,by omega,Cv.noP_succ (by omega) hs0 (Cv.outC_ok hs3 hs4)⟩ (show e.c.length-(k+1)<e.c.length-k by omega) ?_
 show Wk _ _ (ofL [(1,.box 29 (cEm e))]) (ofT 38 [(1,bx 1),(3,iv (Cv.sumT e.c (k+1))),(4,iv ((k+1):Nat))])
 rw [Cv.sumT_succ (by omega)]
 exact Zs _ _
 refine Za (oW (oW (oW (oW (ol (dF hs2) (jI (jO (jC (Za (oF (iv (Cv.sumT e.c k)) (jE ?_)))))))))))
 refine Zd Tryz.results16 (.tmp rfl) ?_
 exact congrArg (fun x:Int=>AV.v (.int .i64 x)) ((Cv.tot_k (by omega) (Cv.okC_no (k:=k) (by omega) hs0) (k:=k) (by omega)).symm)
abbrev ZbG (x0:Fm):List (Nat × AV):=[(2,iv 0),(3,bx 2),(4,iv (valE x0)),(11,bF)]
theorem rfamily_c (HQ:FmOk q):Ctr Tryz.prog J 47 [.agg (cFm q)] (iv (Cv.cErr q)):=by
 refine Zn Tryz.func47 rfl (pN (Zm (Z0 q)) pZ) (n:=21) rfl (by simp) (fun w0 => ?_)
 refine kW 21 [] [(0,.agg (cFm q))] (jB (oX 1 (.agg (cFm q)) (oS (iv 0) (jD (Za (oW (oK (ZcU HQ) [.agg (cFm q)] rfl rfl (oS (.tup [.fr (.agg [bv (decide (valE q=0)&&clTh q),bv (decide (valE q=0)&&clCo q),bv (decide (valE q=0)&&clWo q),bv (decide (valE q=0)&&clTr q),bv (decide (valE q=0)&&clMo q)]),iv (valE q)]) (oS (.fr (.agg [bv (decide (valE q=0)&&clTh q),bv (decide (valE q=0)&&clCo q),bv (decide (valE q=0)&&clWo q),bv (decide (valE q=0)&&clTr q),bv (decide (valE q=0)&&clMo q)])) (oW (oZ 2 Z116 (Zaz rfl (sB 5 3 (.tmp 8) (.agg [bv (decide (valE q=0)&&clTh q),bv (decide (valE q=0)&&clCo q),bv (decide (valE q=0)&&clWo q),bv (decide (valE q=0)&&clTr q),bv (decide (valE q=0)&&clMo q)])) ⟨I0,.inr (.inr (.inl ⟨_,rfl,rfl⟩)),T0⟩ ⟨rfl,T0⟩ rfl (oS (iv (valE q)) (jD (Zk ?_)))))))))))))))
 by_cases hs1:valE q=0
 refine Za (oW (on (dT' hs1) (jF (jM ?_))))
 by_cases hs2:(decide (valE q=0)&&clCo q)=true
 rw [hs2]
 refine kW 21 [(2,.box 116 [bv (decide (valE q=0)&&clTh q),bT,bv (decide (valE q=0)&&clWo q),bv (decide (valE q=0)&&clTr q),bv (decide (valE q=0)&&clMo q)])] (ZbG q) (Za (oW (oW (oF bF (qK (qK (qK (oS bF (kN 21 [] [(2,iv 0),(20,bF)] (jJ (jB (oS (iv 0) (jE ?_)))))))))))))
 refine Zd Tryz.results47 (.tmp rfl) ?_
 exact congrArg (fun x:Int=>AV.v (.int .i64 x)) ((Cv.cErr_ok hs1 (by unfold Cv.acB;rw [hs2];rfl)).symm)
 have hs2f:(decide (valE q=0)&&clCo q)=false:=by simpa using hs2
 rw [hs2f]
 refine kW 21 [(2,.box 116 [bv (decide (valE q=0)&&clTh q),bF,bv (decide (valE q=0)&&clWo q),bv (decide (valE q=0)&&clTr q),bv (decide (valE q=0)&&clMo q)])] (ZbG q) ?_
 by_cases hs3:(decide (valE q=0)&&clMo q)=true
 rw [hs3]
 refine kW 21 [(2,.box 116 [bv (decide (valE q=0)&&clTh q),bF,bv (decide (valE q=0)&&clWo q),bv (decide (valE q=0)&&clTr q),bT])] (ZbG q) (Za (oW (oW (oF bT (oW (oW (oW (oS bF (kN 21 [] [(2,iv 0),(20,bF)] (jJ (jB (oS (iv 0) (jE ?_)))))))))))))
 refine Zd Tryz.results47 (.tmp rfl) ?_
 exact congrArg (fun x:Int=>AV.v (.int .i64 x)) ((Cv.cErr_ok hs1 (by unfold Cv.acB;rw [hs2f,hs3];rfl)).symm)
 have hs3f:(decide (valE q=0)&&clMo q)=false:=by simpa using hs3
 rw [hs3f]
 refine kW 21 [(2,.box 116 [bv (decide (valE q=0)&&clTh q),bF,bv (decide (valE q=0)&&clWo q),bv (decide (valE q=0)&&clTr q),bF])] (ZbG q) (Za (oW (oW (oF bT (oW (oW (oW (oS bT (kN 21 [] [(2,iv 0),(20,bT)] (Zi (jK (oS (iv 7) (jE (Zb ?_))))))))))))))
 refine Zd Tryz.results47 (.tmp rfl) ?_
 exact congrArg (fun x:Int=>AV.v (.int .i64 x)) ((Cv.cErr_no hs1 (by unfold Cv.acB;rw [hs2f,hs3f];rfl)).symm)
 refine Za (oW (on (dF' hs1) (jG (oF (iv (valE q)) (jE (Zb ?_))))))
 refine Zd Tryz.results47 (.tmp rfl) ?_
 exact congrArg (fun x:Int=>AV.v (.int .i64 x)) ((Cv.cErr_v hs1).symm)
theorem rFits_c (HQ:FmOk q) {e:Em} (HE:EmOk e):Ctr Tryz.prog J 48 [.agg (cFm q),.agg (cEm e)] (bv (Cv.fitB q e)):=by
 have le:=HE.l
 have ls:=HQ.lstates
 have lv:=HQ.lvals
 refine Zn Tryz.func48 rfl (pN (Zm (Z0 q)) (pN (Zm (ZV e)) pZ)) (n:=48) rfl (by simp) (fun w0 => ?_)
 refine kW 48 [] [(0,.agg (cFm q)),(1,.agg (cEm e))] (jB (oX 1 (.agg (cFm q)) (oX 2 (.agg (cEm e)) (oS bF (jD (Zk ?_))))))
 by_cases hs1:(e.c.length:Int)=(q.sz.length:Int)
 by_cases hs2:e.v<0
 refine Za (oW (oW (oW (oW (oW (oW (on (dT' hs1) (oS bF (oW (oW (ol (dT hs2) (oF bT (qK (qK (qK (qK (qK (qK (qK (oS bT (jH ?_)))))))))))))))))))))
 refine jB (oS bF (jE (Zb ?_)))
 refine Zd Tryz.results48 (.tmp rfl) ?_
 exact cB ((Cv.fit_f (fun h=>by omega)).symm)
 by_cases hs3:(max 1 (q.vals.length:Int))≤e.v
 refine Za (oW (oW (oW (oW (oW (oW (on (dT' hs1) (oS bF (oW (oW (ol (dF hs2) (oF bF (oW (oW (oW (oF (iv q.vals.length) (gC (sp_max (.const (.int .i64 1)) (.tmp 23) rfl) I0 I0 (oh (dT hs3) (oS bT (jH (Zk ?_)))))))))))))))))))))
 refine Za (oS bF (jE (Zb ?_)))
 refine Zd Tryz.results48 (.tmp rfl) ?_
 exact cB ((Cv.fit_f (fun h=>by omega)).symm)
 refine Za (oW (oW (oW (oW (oW (oW (on (dT' hs1) (oS bF (oW (oW (ol (dF hs2) (oF bF (oW (oW (oW (oF (iv q.vals.length) (gC (sp_max (.const (.int .i64 1)) (.tmp 23) rfl) I0 I0 (oh (dF hs3) (oS bF (jI (Zq ?_)))))))))))))))))))))
 refine jC (jB (oS (iv 0) (kN 48 [(2,.box 29 (cEm e))] [(3,bx 2),(4,bF),(5,iv 0)] (Zi (Zl ?_)))))
 refine ZL (σ:={k:Nat // k≤e.c.length∧Cv.noP Cv.outC e.c k=true}) (fun s=>(ofL [(2,.box 29 (cEm e))],ofT 48 [(3,bx 2),(5,iv s.1)])) (fun s=>e.c.length-s.1) ⟨0,Nat.zero_le _,Cv.noP_zero _ _⟩ (Zs _ _) (fun s => ?_)
 obtain ⟨k,hk0,hs0⟩:=s
 show ETri J w0 (ofL [(2,.box 29 (cEm e))]) (ofT 48 [(3,bx 2),(5,iv k)]) _
 refine jM ?_
 by_cases hs4:(k:Int)<(e.c.length:Int)
 refine Za (oW (oW (oW (oW (ol (dT hs4) (jH (Zq (jC (Zl (Zk ?_))))))))))
 by_cases hs5:e.c[k]<0
 refine Za (oF (Zc e.c) (oS (iv k) (oC (xS (k*1) 35 36 U24) I0 I0 (oL (iv e.c[k]) (Zy e.c (by omega)) (ol (dT hs5) (oS bT (qK (qK (qK (qK (qK (qK (oS bT (jG (oS bF (jE (Zg ?_)))))))))))))))))
 refine Zb (Zb (Zg (Zb ?_)))
 refine Zd Tryz.results48 (.tmp rfl) ?_
 exact cB ((Cv.fit_f (fun h=>by rw [Cv.okC_at (k:=k) (by omega) (by omega)] at h;cases h.2.1)).symm)
 by_cases hs6:1048576<e.c[k]
 refine Za (oF (Zc e.c) (oS (iv k) (oC (xS (k*1) 35 36 U24) I0 I0 (oL (iv e.c[k]) (Zy e.c (by omega)) (ol (dF hs5) (oS bF (oF (Zc e.c) (oS (iv k) (gC (xS (k*1) 42 43 U24) I0 I0 (oL (iv e.c[k]) (Zy e.c (by omega)) (og (dT hs6) (oS bT (jG (oS bF (jE (Zg (Zb ?_)))))))))))))))))
 refine Zb (Zg (Zb ?_))
 refine Zd Tryz.results48 (.tmp rfl) ?_
 exact cB ((Cv.fit_f (fun h=>by rw [Cv.okC_at (k:=k) (by omega) (by omega)] at h;cases h.2.1)).symm)
 refine Za (oF (Zc e.c) (oS (iv k) (oC (xS (k*1) 35 36 U24) I0 I0 (oL (iv e.c[k]) (Zy e.c (by omega)) (ol (dF hs5) (oS bF (oF (Zc e.c) (oS (iv k) (gC (xS (k*1) 42 43 U24) I0 I0 (oL (iv e.c[k]) (Zy e.c (by omega)) (og (dF hs6) (oS bF (jI (Zq (ZG (Zi (Za (oS (iv k) (oV ((k+1:Nat):Int) (oS (iv (k+1:Nat)) (kN 48 [(2,.box 29 (cEm e))] [(3,bx 2),(5,iv (k+1:Nat)),(31,bT),(47,bF)] ?_)))))))))))))))))))))
 refine Zi ?_
 refine ZD ⟨k+1,by omega,Cv.noP_succ (by omega) hs0 (Cv.outC_ok hs5 hs6)⟩ (show e.c.length-(k+1)<e.c.length-k by omega) ?_
 exact Zs _ _
 refine Za (oW (oW (oW (oW (ol (dF hs4) (jI (jO (jC (Za (oS bT (jE ?_)))))))))))
 refine Zd Tryz.results48 (.tmp rfl) ?_
 exact cB ((Cv.fit_t (by omega) (Cv.okC_no (k:=k) (by omega) hs0) (by omega) (by omega)).symm)
 refine Za (oW (oW (oW (oW (oW (oW (on (dF' hs1) (oS bT (qK (qK (qK (oF bT (qK (qK (qK (qK (qK (qK (qK (oS bT (jH ?_)))))))))))))))))))))
 refine jB (oS bF (jE (Zb ?_)))
 refine Zd Tryz.results48 (.tmp rfl) ?_
 exact cB ((Cv.fit_f (fun h=>by omega)).symm)
theorem Zak (HQ:FmOk q) {e:Em} (HE:EmOk e):Ctr Tryz.prog J 10 [.agg (cFm q),.agg (cEm e)] (iv (Cv.veE q e)):=by
 refine Zn Tryz.func10 rfl (pN (Zm (Z0 q)) (pN (Zm (ZV e)) pZ)) (n:=15) rfl (by simp) (fun w0 => ?_)
 refine kW 15 [] [(0,.agg (cFm q)),(1,.agg (cEm e))] (jB (oX 1 (.agg (cFm q)) (oX 2 (.agg (cEm e)) (oS (iv 0) (jD (Za (oW (oK (rfamily_c HQ) [.agg (cFm q)] rfl rfl (oS (iv (Cv.cErr q)) (jD (Zk ?_)))))))))))
 by_cases hs1:(Cv.cErr q)=0
 refine Za (oW (on (dT' hs1) (jF (jM ?_))))
 by_cases hs2:(Cv.fitB q e)=true
 refine Za (oW (oW (oK (Zj (rFits_c HQ HE) hs2) [.agg (cFm q),.agg (cEm e)] rfl rfl (oS bF (kN 15 [] [(4,iv 0),(14,bF)] (jJ (jB (oS (iv 0) (jE ?_)))))))))
 refine Zd Tryz.results10 (.tmp rfl) ?_
 exact congrArg (fun x:Int=>AV.v (.int .i64 x)) (((Cv.veE_e hs1).trans (Cv.elE_t hs2)).symm)
 have hs2f:(Cv.fitB q e)=false:=by simpa using hs2
 refine Za (oW (oW (oK (Zj (rFits_c HQ HE) hs2f) [.agg (cFm q),.agg (cEm e)] rfl rfl (oS bT (kN 15 [] [(4,iv 0),(14,bT)] (Zi (jK (oS (iv 1) (jE (Zb ?_))))))))))
 refine Zd Tryz.results10 (.tmp rfl) ?_
 exact congrArg (fun x:Int=>AV.v (.int .i64 x)) (((Cv.veE_e hs1).trans (Cv.elE_f hs2f)).symm)
 refine Za (oW (on (dF' hs1) (jG (oF (iv (Cv.cErr q)) (jE (Zb ?_))))))
 refine Zd Tryz.results10 (.tmp rfl) ?_
 exact congrArg (fun x:Int=>AV.v (.int .i64 x)) ((Cv.veE_c hs1).symm)
structure EmIn (e:Em):Prop where
 v:I64 e.v
 c:InOk e.c
 l:e.c.length≤9223372036854775807
theorem wide_long {l:List Em} (h:60<l.length):Cv.wideE l=true:=by unfold Cv.wideE;rw [decide_eq_true h];rfl
theorem wide_at {l:List Em} (hk:k<l.length) (h:8<l[k].c.length):Cv.wideE l=true:=by
 unfold Cv.wideE
 rw [Bool.or_eq_true]
 exact .inr (List.any_eq_true.2 ⟨_,List.getElem_mem hk,by simpa using h⟩)
theorem wide_no {l:List Em} (hl:¬ 60<l.length) (hk:¬ k<l.length) (h:∀ j,j<k→∀ hj:j<l.length,¬ 8<l[j].c.length):Cv.wideE l=false:=by
 unfold Cv.wideE
 rw [decide_eq_false hl,Bool.false_or,List.any_eq_false]
 intro e he
 obtain ⟨j,hj,rfl⟩:=List.getElem_of_mem he
 simpa using h j (by omega) hj
theorem WQ {a b:Em} (H:EmIn a) (h:Cv.wideE [a,b]=false):EmOk a:=by
 unfold Cv.wideE at h
 simp at h
 exact ⟨H.v,H.c,by omega⟩
theorem em_okB {a b:Em} (H:EmIn b) (h:Cv.wideE [a,b]=false):EmOk b:=by
 unfold Cv.wideE at h
 simp at h
 exact ⟨H.v,H.c,by omega⟩
set_option maxRecDepth 100000 in
set_option maxHeartbeats 6400000 in
theorem wide_c (l:List Em) (hl:l.length≤9223372036854775807) (HL:∀ e∈l,e.c.length≤9223372036854775807):Ctr Tryz.prog J 7 [slA 2 cEm l] (bv (Cv.wideE l)):=by
 refine Zn Tryz.func7 rfl (pN (KI ZV _) pZ) (n:=20) rfl (by simp) (fun w0 => ?_)
 refine kW 20 [] [(0,slA 2 cEm l)] (jB (oS bF (kN 20 [] [(0,slA 2 cEm l),(2,bF)] (jC (Zk ?_)))))
 by_cases hs1:60<(l.length:Int)
 refine Za (oW (oW (og (dT hs1) (jG (oS bT (jE (Zb ?_)))))))
 refine Zd Tryz.results7 (.tmp rfl) ?_
 exact cB ((wide_long (by omega)).symm)
 refine Za (oW (oW (og (dF hs1) (jF (jM (Za (oS (iv 0) (kN 20 [] [(0,slA 2 cEm l),(2,bF),(3,iv 0)] (Zi (Zl ?_))))))))))
 refine ZL (σ:={k:Nat // k≤l.length∧∀ j,j<k→∀ hj:j<l.length,¬ 8<l[j].c.length}) (fun s=>(ofL [],ofT 20 [(0,slA 2 cEm l),(3,iv s.1)])) (fun s=>l.length-s.1) ⟨0,Nat.zero_le _,fun j hj=>absurd hj (Nat.not_lt_zero j)⟩ (Zs [] _) (fun s => ?_)
 obtain ⟨k,hk0,hs0⟩:=s
 show ETri J w0 (ofL []) (ofT 20 [(0,slA 2 cEm l),(3,iv k)]) _
 refine jM ?_
 by_cases hs2:(k:Int)<(l.length:Int)
 refine Za (oW (oW (oW (ol (dT hs2) (jH (Zq (jC (Zl (Zk ?_)))))))))
 by_cases hs3:8<((l[k].c.length:Nat):Int)
 refine Za (oS (slA 2 cEm l) (oS (iv k) (oC (xS (k*2) 13 14 U31) I0 I0 (oW (oL (Zc l[k].c) (fT lenEm l k 1) (oW (og (dT hs3) (jG (oS bT (jE (Zg (Zb (Zb (Zg (Zb ?_)))))))))))))))
 refine Zd Tryz.results7 (.tmp rfl) ?_
 exact cB ((wide_at (k:=k) (by omega) (by omega)).symm)
 refine Za (oS (slA 2 cEm l) (oS (iv k) (oC (xS (k*2) 13 14 U31) I0 I0 (oW (oL (Zc l[k].c) (fT lenEm l k 1) (oW (og (dF hs3) (jI (Zq (ZG (Zi (Za (oS (iv k) (oV ((k+1:Nat):Int) (oS (iv (k+1:Nat)) (kN 20 [] [(0,slA 2 cEm l),(3,iv (k+1:Nat)),(10,bT),(19,bF)] (Zi ?_)))))))))))))))))
 refine ZD ⟨k+1,by omega,fun j hj hl=>if e:j=k then by subst e;have:=hs3;omega else hs0 j (by omega) hl⟩ (show l.length-(k+1)<l.length-k by omega) ?_
 exact Zs [] _
 refine Za (oW (oW (oW (ol (dF hs2) (jI (jO (jC (Za (oS bF (jE ?_))))))))))
 refine Zd Tryz.results7 (.tmp rfl) ?_
 exact cB ((wide_no (k:=k) (by omega) (by omega) hs0).symm)
end Go.Proofs.YthefecaefbeidaaGreat
