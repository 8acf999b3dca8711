import Derived.LoopTactic
import Derived.Lib.Hide
import Derived.Outline
import Derived.Laws.Small
import Derived.Deep.QuietTactic
import Derived.BigQuiet
import Derived.Test.YthefecaefbeidaaGreatProg
import Derived.WalkSpells
import Derived.WalkLawsBesides
import Derived.LoopN
import Derived.Laws.MakeOwn
import Derived.Deep.AppendLies
import Derived.Test.YthefecaefbeidaaGreatGrpikonhaai
import Derived.Test.YthefecaefbeidaaGreatGrpcdkhhigo
import Derived.Test.YthefecaefbeidaaGreatGrpgojjocei
import Derived.Test.YthefecaefbeidaaGreatGrpahggjllk
import Derived.Test.YthefecaefbeidaaGreatGrpbnmgbgdd
import Derived.Test.YthefecaefbeidaaGreatGrpkapnohjd
import Derived.Test.YthefecaefbeidaaGreatGrphkciahdk
set_option linter.all false
namespace Go.Proofs.YthefecaefbeidaaGreat
open Go.RowKit Go.Deep
set_option maxHeartbeats 12800000
variable {rs:List Ru}{s:ByteArray}{k:Nat}
theorem hasR_succ (h:k<rs.length) (hk:hasR (rs.take k) s=false) (e:(rs[k].nm.toList==s.toList)=false):hasR (rs.take (k+1)) s=false:=by
 unfold hasR at *;rw [List.take_succ_eq_append_getElem h,List.any_append,hk];simpa using e
theorem hasR_yes (h:k<rs.length) (e:(rs[k].nm.toList==s.toList)=true):hasR rs s=true:=by
 unfold hasR;rw [List.any_eq_true];exact ⟨rs[k],List.getElem_mem h,e⟩
theorem hasR_end (h:k=rs.length) (hk:hasR (rs.take k) s=false):hasR rs s=false:=by
 rwa [List.take_of_length_le (by omega)] at hk
variable {lo:Nat}{w:World}{cs:List Value}{r:Ru}
theorem ZaR (h:RuEl lo w cs r):cs.length=18∧cs[0]? = some (.string r.nm)∧r.nm.size≤maxLen∧cs[1]? = some (.int .i64 r.kind)∧I64 r.kind∧∀ v∈cs,v.oneCell'=true:=by
 obtain ⟨v6,v7,v8,v9,v12,v14,v15,v16,rfl,h0,h1,h2,h3,h4,h5,h6,h7,h8,h9,h10,h11,h12,h13,h14,h15,h16,h17⟩:=h
 obtain ⟨a6,c6,rfl⟩:=h6.shape
 obtain ⟨a7,c7,rfl⟩:=h7.shape
 obtain ⟨a8,c8,rfl⟩:=h8.shape
 obtain ⟨a9,c9,rfl⟩:=h9.shape
 obtain ⟨a12,c12,rfl⟩:=h12.shape
 obtain ⟨a14,c14,rfl⟩:=h14.shape
 obtain ⟨a15,c15,rfl⟩:=h15.shape
 obtain ⟨a16,c16,rfl⟩:=h16.shape
 exact ⟨rfl,rfl,h0,rfl,h1,by simp [Value.oneCell']⟩
theorem Zce (b off n cap:Nat) (w:World) (rs:List Ru) (s:ByteArray) (hx:rs.length=n) (hn:n≤9223372036854775807)
 (hc:∀ i (hi:i<rs.length),∃ cs:List Value,cs.length=18∧(∀ j,j<18→w.cell? ⟨b,off+i*18+j,none⟩=cs[j]?)∧RuEl 0 w cs rs[i]) :
 Calls Tryz.prog 197 #[.slice (some ⟨b,off,none⟩) n cap,.string s] w fun e w'=>e = .returned (.bool (hasR rs s))∧Below w.heap.size w w':=by
 have HC:=Lib.hid hc
 have HX:=Lib.hid hx
 clear hc hx
 go_enter Tryz.func197,Tryz.ntmps197
 go_wp2_with fail
 go_loopw [9] (fun v wr=>∃ k:Nat,k≤n∧v = .int .i64 k∧hasR (rs.take k) s=false∧Below w.heap.size w wr) (fun v _=>n-(intOf v).toNat)
 case atStart=>exact ⟨0,Nat.zero_le _,rfl,rfl,Below.refl _ _⟩
 case round =>
  obtain ⟨k,hk,rfl,hs,hB⟩:=hrel
  have HS:=Lib.hid hs
  have HB:=Lib.hid hB
  clear hs hB
  by_cases h1:k<n
  ·have hkx:k<rs.length:=by rw [HX.out];exact h1
   obtain ⟨cs,hl,r1,hel⟩:=HC.out k hkx
   have HL:=Lib.hid hl
   obtain ⟨-,p0,-,-,-,pc⟩:=ZaR hel
   have P0:=Lib.hid p0
   have PC:=Lib.hid pc
   have R1:=Lib.hid (rangeBelow (rangeOf hl r1) HB.out)
   clear r1 hel hl p0 pc
   go_upto_region 3 with (fail)
   refine wp_region_lit ?_
   refine wpList_step fun K hK => ?_
   go_simp
   refine hK _ _ ?_
   clear hK K
   refine ZaZ Tryz.underlying98 Y9 (by rfl) (.tmp 11) (by rfl) b (off+k*18) cs (by rfl) HL.out R1.out ?_
   refine wpList_step fun K hK => ?_
   go_simp
   refine hK _ _ ?_
   clear hK K
   refine Yr (T:=98) Y9 (by rfl) (.tmp 6) (.tmp 12) (by rfl) wr.heap.size cs (by rfl) (by rfl) HL.out (Yp _ _ rfl) (by rfl) PC.out (fun Z hZ hbl hsz _ => ?_)
   have ZB:=Lib.hid (show Below w.heap.size w Z from hbl _ _ HB.out.size (HB.out.trans ((Ze wr _).mono HB.out.size)))
   have z0:=Lib.hid (Zv hZ 0 (by simpa using P0.out))
   clear hZ hbl hsz
   by_cases he:(rs[k].nm.toList==s.toList)=true
   ·have HE:=Lib.hid he
    have z:=z0.out
    go_wp2_with fail
    go_ret
    exact ⟨Zh (hasR_yes hkx HE.out).symm,ZB.out⟩
   have he':(rs[k].nm.toList==s.toList)=false:=by simpa using he
   have HE:=Lib.hid he'
   clear he
   have z:=z0.out
   go_wp2_with fail
   go_roundw
   case rel=>exact ⟨k+1,by omega,by go_num,hasR_succ hkx HS.out HE.out,ZB.out⟩
   case measure=>simp [intOf];omega
  go_wp2_with fail
  go_ret
  exact ⟨Zh (hasR_end (by rw [HX.out];omega) HS.out).symm,HB.out⟩
variable {v:Value}
theorem Zc5 (s:ByteArray) (h:IsSl 18 RuEl lo w v rs) :
 Calls Tryz.prog 197 #[v,.string s] w fun e w'=>e = .returned (.bool (hasR rs s))∧Below w.heap.size w w':=by
 obtain ⟨a,cap,rfl,hl,hm,_,hc⟩:=h.mono RuEl.mono (Nat.zero_le lo)
 unfold maxLen at hm
 rcases hc with rfl | ⟨b,off,rfl,_,_,hc⟩
 ·go_enter Tryz.func197,Tryz.ntmps197
  go_wp2_with fail
  refine wp_loop_rounds 1 ?_
  rw [rounds_succ]
  go_wp2_with fail
  go_ret
  exact ⟨rfl,Below.refl _ _⟩
 exact Zce _ _ _ _ _ _ _ rfl (by omega) hc
variable {J:World→Prop}
section
variable {P:Program} {o:Oper} {k:IntKind} {a b:Int} {ts:Array TypeId} {x y:Operand}
theorem sp_max (x y:Operand) (ho:o.op = .call { callee := .builtin .max,args := #[x,y],argTypes:=ts }):ASpec P J o [(x,.v (.int k a)),(y,.v (.int k b))] [] (.v (.int k (max a b))) .no :=
 ZF fun ρ B a' w _ ha _=>by
  have h1:=(ha (x,.v (.int k a)) (by simp)).v_inv
  have h2:=(ha (y,.v (.int k b)) (by simp)).v_inv
  refine ⟨_,?_,.pu (.v _)⟩
  have e:(if b>a then b else a)=max a b:=by omega
  simp [execOp,ho,resolve,invoke,builtin,h1,h2,run_max_int2,e]
end
def AV.isNilS:AV→Bool
 | .v (.slice none 0 0)=>true
 | _=>false
variable {X:AV}
theorem isNilS_eq (h:X.isNilS=true):X = .v (.slice none 0 0):=by
 unfold AV.isNilS at h
 split at h
 ·rfl
 cases h
variable {T:TypeId}
theorem W4 {h:AHeap} {t:ATm} (k z:Nat) {cs:List AV} (m:List Nat) {ds:List AV} (hk:h k=some (.box T cs)) (hd:cs.zipIdx.map (fun p=>if m.getD p.2 0=1 then AV.any else if m.getD p.2 0=2 then .fr (.sl z 0 []) else p.1)=ds)
 (hn:(cs.zipIdx.all fun p => !(m.getD p.2 0==2)||p.1.isNilS)=true):Wk h t (fun j=>if j=k then some (.box T ds) else h j) t:=by
 subst hd
 intro J w0 ρ a w s
 refine ⟨ρ,s.wf,s.hH,s.bel,s.inv,fun j X hj => ?_,fun j hl hj => ?_,s.pin,s.tl,s.tm,s.df,fun j hj=>by show (if j=k then _ else _)=none;rw [if_neg (fun e=>by rw [e] at hj;rw [s.gh k hj] at hk;cases hk)];exact s.gh j hj⟩
 ·by_cases e:j=k
  ·subst e
   rw [if_pos rfl] at hj
   cases hj
   obtain ⟨nm,g1,b,c,n,vs,q0,q1,q2,q3⟩:=s.hp j _ hk
   refine ⟨nm,g1,b,c,n,vs,q0,q1,by simpa using q2,fun i hi => ?_⟩
   have hi':i<cs.length:=by simpa using hi
   simp only [List.getElem_map,List.getElem_zipIdx,Nat.zero_add]
   split
   ·exact .anyR
   split
   ·rename_i h2
    have h3:=List.all_eq_true.1 hn (cs[i],i) (by rw [List.mem_iff_getElem];exact ⟨i,by simpa using hi',by simp⟩)
    simp only [h2,beq_self_eq_true,Bool.not_true,Bool.false_or] at h3
    have h4:=q3 i hi'
    rw [isNilS_eq h3] at h4
    rw [h4.v_inv]
    exact .pu (.fr (.sl0 (by simp [maxLen]) (by simp)))
   exact q3 i hi'
  rw [if_neg e] at hj
  exact s.hp j X hj
 by_cases e:j=k
 ·rw [if_pos e] at hj;cases hj
 rw [if_neg e] at hj;exact s.dom j hl hj
def sameK (xs ys:List Int) (k:Nat):Prop:=xs.take k=ys.take k
variable {xs ys:List Int}
theorem sameK_succ (h:k<xs.length) (h':k<ys.length) (hk:sameK xs ys k) (e:xs[k]=ys[k]):sameK xs ys (k+1):=by
 unfold sameK at *;rw [List.take_succ_eq_append_getElem h,List.take_succ_eq_append_getElem h',hk,e]
theorem eqI_differ (h:k<xs.length) (h':k<ys.length) (e:xs[k]≠ys[k]):eqI xs ys=false:=by
 unfold eqI;rw [decide_eq_false_iff_not];rintro rfl;exact e rfl
theorem Zc8 (h:xs.length≠ys.length):eqI xs ys=false:=by
 unfold eqI;rw [decide_eq_false_iff_not];rintro rfl;exact h rfl
theorem eqI_end (h:k=xs.length) (h':k=ys.length) (hk:sameK xs ys k):eqI xs ys=true:=by
 unfold sameK at hk;rw [List.take_of_length_le (by omega),List.take_of_length_le (by omega)] at hk
 unfold eqI;rw [decide_eq_true_iff];exact hk
theorem Equal_full (b off n cap b' off' n' cap':Nat) (w:World) (xs ys:List Int) (hx:xs.length=n) (hy:ys.length=n') (hn:n≤9223372036854775807) (hb:b<w.heap.size) (hb':b'<w.heap.size)
 (hc:∀ i,i<n→w.cell? ⟨b,off+i,none⟩=some (.int .i64 (xs.getD i 0))) (hc':∀ i,i<n'→w.cell? ⟨b',off'+i,none⟩=some (.int .i64 (ys.getD i 0))) :
 Calls Tryz.prog 249 #[.slice (some ⟨b,off,none⟩) n cap,.slice (some ⟨b',off',none⟩) n' cap'] w fun e w'=>e = .returned (.bool (eqI xs ys))∧Below w.heap.size w w':=by
 by_cases hnn:n=n'
 ·subst hnn
  go_enter Tryz.func249,Tryz.ntmps249
  go_wp2_with fail
  go_loopw [13] (fun v wr=>∃ k:Nat,k≤n∧v = .int .i64 k∧sameK xs ys k∧Below w.heap.size w wr) (fun v _=>n-(intOf v).toNat)
  case atStart=>exact ⟨0,Nat.zero_le _,rfl,rfl,Below.refl _ _⟩
  case round =>
   obtain ⟨k,hk,rfl,hs,hB⟩:=hrel
   have HS:=Lib.hid hs
   have HB:=Lib.hid hB
   clear hs
   by_cases h1:k<n
   ·have g1:wr.cell? ⟨b,off+k,none⟩=some (.int .i64 (xs.getD k 0)):=(hB.cell (p:=⟨b,off+k,none⟩) hb).trans (hc k h1)
    have g2:wr.cell? ⟨b',off'+k,none⟩=some (.int .i64 (ys.getD k 0)):=(hB.cell (p:=⟨b',off'+k,none⟩) hb').trans (hc' k h1)
    have ex:xs.getD k 0=xs[k]'(by omega):=by simp [List.getD,List.getElem?_eq_getElem (show k<xs.length by omega)]
    have ey:ys.getD k 0=ys[k]'(by omega):=by simp [List.getD,List.getElem?_eq_getElem (show k<ys.length by omega)]
    rw [ex] at g1
    rw [ey] at g2
    generalize hX:xs[k]'(by omega)=x at g1
    generalize hY:ys[k]'(by omega)=y at g2
    have HX:=Lib.hid hX
    have HY:=Lib.hid hY
    clear hB ex ey hX hY
    by_cases he:x=y
    ·have HE:=Lib.hid he
     have e1:(x==y)=true:=by simp [he]
     have e2:(x != y)=false:=by rw [bne,e1];rfl
     clear he
     go_wp2_with fail
     go_quiet (fail)
     go_wp2_with fail
     go_roundw
     case rel=>exact ⟨k+1,by omega,by go_num,sameK_succ (by omega) (by omega) HS.out (by rw [HX.out,HY.out];exact HE.out),quietBelow HB.out _⟩
     case measure=>simp [intOf];omega
    have HE:=Lib.hid he
    have e1:(x==y)=false:=by simp [he]
    have e2:(x != y)=true:=by rw [bne,e1];rfl
    clear he
    go_wp2_with fail
    go_quiet (fail)
    go_wp2_with fail
    go_ret
    exact ⟨Zh (by rw [eqI_differ (k:=k) (by omega) (by omega) (by rw [HX.out,HY.out];exact HE.out)]),quietBelow HB.out _⟩
   clear hB
   go_wp2_with fail
   go_ret
   exact ⟨Zh (by rw [eqI_end (k:=k) (by omega) (by omega) HS.out]),HB.out⟩
 have h1:((n:Int)==(n':Int))=false:=by simp;omega
 have h2:((n:Int) != (n':Int))=true:=by rw [bne,h1];rfl
 have E:=Lib.hid (Zc8 (xs:=xs) (ys:=ys) (by rw [hx,hy];exact hnn))
 clear hnn
 go_enter Tryz.func249,Tryz.ntmps249
 go_wp2_with fail
 go_ret
 exact ⟨Zh (by rw [E.out]),Below.refl _ _⟩
theorem Za9 (a a':Option Addr) (cap n' cap':Nat) (w:World) (ys:List Int) (hy:ys.length=n') (hn:n'≤9223372036854775807) :
 Calls Tryz.prog 249 #[.slice a 0 cap,.slice a' n' cap'] w fun e w'=>e = .returned (.bool (eqI [] ys))∧Below w.heap.size w w':=by
 by_cases h0:n'=0
 ·subst h0
  obtain rfl:=List.eq_nil_of_length_eq_zero hy
  go_enter Tryz.func249,Tryz.ntmps249
  go_wp2_with fail
  refine wp_loop_rounds 1 ?_
  rw [rounds_succ]
  go_wp2_with fail
  go_ret
  exact ⟨rfl,Below.refl _ _⟩
 have h1:(((0:Nat):Int)==(n':Int))=false:=by simp;omega
 have h1':((0:Int)==(n':Int))=false:=by simp;omega
 have h2:((0:Int) != (n':Int))=true:=by rw [bne,h1'];rfl
 have E:=Lib.hid (Zc8 (xs:=[]) (ys:=ys) (by simp;omega))
 clear h0
 go_enter Tryz.func249,Tryz.ntmps249
 go_wp2_with fail
 go_ret
 exact ⟨Zh (by rw [E.out]),Below.refl _ _⟩
theorem Zdi (a a':Option Addr) (n cap cap':Nat) (w:World) (x:Int) (xs:List Int) (hx:(x::xs).length=n) (hn:n≤9223372036854775807) :
 Calls Tryz.prog 249 #[.slice a n cap,.slice a' 0 cap'] w fun e w'=>e = .returned (.bool (eqI (x::xs) []))∧Below w.heap.size w w':=by
 have h0:0<n:=by simp at hx;omega
 have h1:((n:Int)==(0:Int))=false:=by simp;omega
 have h2:((n:Int) != (0:Int))=true:=by rw [bne,h1];rfl
 have E:=Lib.hid (Zc8 (xs:=x::xs) (ys:=[]) (by simp))
 clear hx
 go_enter Tryz.func249,Tryz.ntmps249
 go_wp2_with fail
 go_ret
 exact ⟨Zh (by rw [E.out]),Below.refl _ _⟩
theorem Equal_any {lo lo':Nat} {v v':Value} (h:IsInts lo w v xs) (h':IsInts lo' w v' ys) :
 Calls Tryz.prog 249 #[v,v'] w fun e w'=>e = .returned (.bool (eqI xs ys))∧Below w.heap.size w w':=by
 obtain ⟨a,cap,rfl,hl,hm,hi,hc⟩:=h
 obtain ⟨a',cap',rfl,hl',hm',hi',hc'⟩:=h'
 unfold maxLen at hm hm'
 rcases hc with rfl | ⟨b,off,rfl,_,hb,hc⟩
 ·exact Za9 _ _ _ _ _ _ _ rfl (by omega)
 rcases hc' with rfl | ⟨b',off',rfl,_,hb',hc'⟩
 ·cases xs with
  | nil=>exact Za9 _ _ _ _ _ _ _ rfl (by simp)
  | cons x xs=>exact Zdi _ _ _ _ _ _ _ _ rfl (by omega)
 exact Equal_full _ _ _ _ _ _ _ _ _ _ _ rfl rfl (by omega) hb hb' hc hc'
end Go.Proofs.YthefecaefbeidaaGreat
namespace Go.Proofs.YthefecaefbeidaaGreat
set_option maxHeartbeats 12800000
open Go.RowKit Go.Deep
def agK {α:Type} (xs ys:List α) (k:Nat):Prop:=∀ i (h:i<xs.length) (h':i<ys.length),i<k→xs[i]=ys[i]
section
variable {α:Type} {xs ys:List α} {k:Nat}
theorem agK_zero (xs ys:List α):agK xs ys 0:=fun _ _ _ h=>absurd h (by omega)
theorem agK_succ (h1:k<xs.length) (h2:k<ys.length) (h:agK xs ys k) (e:xs[k]=ys[k]):agK xs ys (k+1):=fun i a b c=>by
 by_cases x:i=k
 ·subst x;exact e
 exact h i a b (by omega)
variable [DecidableEq α]
theorem ag_end (hl:(xs.length:Int)=(ys.length:Int)) (hk:¬ k<xs.length) (h:agK xs ys k):decide (xs=ys)=true:=by
 rw [decide_eq_true_eq];exact List.ext_getElem (by omega) fun i a b=>h i a b (by omega)
theorem ag_no (h1:k<xs.length) (h2:k<ys.length) (e:¬ xs[k]=ys[k]):decide (xs=ys)=false:=by
 rw [decide_eq_false_iff_not];rintro rfl;exact e rfl
theorem ag_len (hl:¬ (xs.length:Int)=(ys.length:Int)):decide (xs=ys)=false:=by
 rw [decide_eq_false_iff_not];rintro rfl;exact hl rfl
end
section
variable {P:Program} {J:World→Prop} {o:Oper}
theorem ZaO {T ty:TypeId} {x y:Operand} (xs ys:List Value) {b:Bool} (r:Bool) (ho:o.op = .binOp .neq T x y ty) (hm:P.eqGuardType P.depth T=false) (H:∀ w,(Op.equalIn 10000 T (.agg xs.toArray) (.agg ys.toArray)).run P w = .ok b w) (hr:b = !r) :
 ASpec P J o [(x,.agg (xs.map AV.v)),(y,.agg (ys.map AV.v))] [] (.v (.bool r)) .no :=
 ZF fun ρ B a w _ ha _=>by
  have h1:=Zcy (ha (x,.agg (xs.map AV.v)) (by simp))
  have h2:=Zcy (ha (y,.agg (ys.map AV.v)) (by simp))
  refine ⟨.bool r,?_,.pu (.v _)⟩
  simp only [execOp,ho,h1,h2]
  refine Zw ?_
  rw [Sem.run_bind,run_eqGuard_agg w .neq T x y _ _ hm,Result.andThen_ok,run_neq_struct,H w,hr]
  simp
end
theorem eqg_th (l m:Th) (w:World):(Op.equalIn 10000 210 (.agg [.int .i64 l.msg,.int .i64 l.coef,.int .i64 l.bd.c,.int .i64 l.bd.n,.int .i64 l.bd.t,.int .i64 l.bd.f].toArray) (.agg [.int .i64 m.msg,.int .i64 m.coef,.int .i64 m.bd.c,.int .i64 m.bd.n,.int .i64 m.bd.t,.int .i64 m.bd.f].toArray)).run Tryz.prog w = .ok (decide (l=m)) w:=by
 rw [run_equalIn_agg w 9999 _ _ _ (by kernel_rfl) (by kernel_rfl)]
 rw [show (Program.fieldsOf Tryz.prog 210).toList=_ from by unfold Program.fieldsOf;rw [Tryz.underlying210]]
 obtain ⟨a0,a1,⟨a2,a3,a4,a5⟩⟩:=l
 obtain ⟨b0,b1,⟨b2,b3,b4,b5⟩⟩:=m
 by_cases h0:a0=b0
 ·by_cases h1:a1=b1
  ·by_cases h2:a2=b2
   ·by_cases h3:a3=b3
    ·by_cases h4:a4=b4
     ·by_cases h5:a5=b5
      ·simp [go_sem,Op.eqFields,part,asAgg,isAgg,Tryz.underlying3,run_underlying,h0,h1,h2,h3,h4,h5]
      simp [go_sem,Op.eqFields,part,asAgg,isAgg,Tryz.underlying3,run_underlying,h0,h1,h2,h3,h4,h5]
     simp [go_sem,Op.eqFields,part,asAgg,isAgg,Tryz.underlying3,run_underlying,h0,h1,h2,h3,h4]
    simp [go_sem,Op.eqFields,part,asAgg,isAgg,Tryz.underlying3,run_underlying,h0,h1,h2,h3]
   simp [go_sem,Op.eqFields,part,asAgg,isAgg,Tryz.underlying3,run_underlying,h0,h1,h2]
  simp [go_sem,Op.eqFields,part,asAgg,isAgg,Tryz.underlying3,run_underlying,h0,h1]
 simp [go_sem,Op.eqFields,part,asAgg,isAgg,Tryz.underlying3,run_underlying,h0]
variable {J:World→Prop}
theorem eqIntsS (xs ys:List Int) (hx:InOk xs) (hy:InOk ys):Ctr Tryz.prog J 249 [Zc xs,Zc ys] (bv (decide (xs=ys))):=ctr2 fun w v v' _ h h' =>
 (Equal_any (Yt hx (lo:=0) (fun _ _=>Nat.zero_le _) h) (Yt hy (lo:=0) (fun _ _=>Nat.zero_le _) h')).mono fun _ _=>KR
end Go.Proofs.YthefecaefbeidaaGreat
namespace Go.Proofs.YthefecaefbeidaaGreat
open Go.RowKit Go.Deep
theorem U4:type_of% Tryz.underlying4:=Tryz.underlying4
theorem U22:type_of% Tryz.underlying22:=Tryz.underlying22
theorem U23:type_of% Tryz.underlying23:=Tryz.underlying23
theorem U24:type_of% Tryz.underlying24:=Tryz.underlying24
theorem U25:type_of% Tryz.underlying25:=Tryz.underlying25
theorem U31:type_of% Tryz.underlying31:=Tryz.underlying31
theorem U96:type_of% Tryz.underlying96:=Tryz.underlying96
theorem U98:type_of% Tryz.underlying98:=Tryz.underlying98
theorem U116:type_of% Tryz.underlying116:=Tryz.underlying116
theorem U139:type_of% Tryz.underlying139:=Tryz.underlying139
theorem U179:type_of% Tryz.underlying179:=Tryz.underlying179
theorem U210:type_of% Tryz.underlying210:=Tryz.underlying210
abbrev Z98:Value := .agg #[.string (⟨#[]⟩),.int .i64 0,.int .i64 0,.int .i64 0,.int .i64 0,.int .i64 0,.slice none 0 0,.slice none 0 0,.slice none 0 0,.slice none 0 0,.int .i64 0,.int .i64 0,.slice none 0 0,.int .i64 0,.slice none 0 0,.slice none 0 0,.slice none 0 0,.int .i64 0]
abbrev Z113:Value := .agg #[.bool false,.bool false,.bool false,.bool false,.bool false]
abbrev Z116:Value := .agg #[.bool false,.bool false,.bool false,.bool false,.bool false]
abbrev Z210:Value := .agg #[.int .i64 0,.int .i64 0,.int .i64 0,.int .i64 0,.int .i64 0,.int .i64 0]
set_option maxRecDepth 100000
set_option maxHeartbeats 6400000
variable {J:World→Prop}
theorem eqThsS (xs ys:List Th) (hx:xs.length≤9223372036854775807) (hy:ys.length≤9223372036854775807):Ctr Tryz.prog J 250 [slA 6 cTh xs,slA 6 cTh ys] (bv (decide (xs=ys))):=by
 refine Zn Tryz.func250 rfl (pN (KI Zbp _) (pN (KI Zbp _) pZ)) (n:=26) rfl (by simp) (fun w0 => ?_)
 refine kW 26 [] [(0,slA 6 cTh xs),(1,slA 6 cTh ys)] (jB (oS bF (jD (Zk ?_))))
 by_cases hs1:(xs.length:Int)=(ys.length:Int)
 refine Za (oW (oW (oW (oW (on (dT' hs1) (jF (jM (Za (oF (iv xs.length) (oS (iv 0) (kN 26 [] [(0,slA 6 cTh xs),(1,slA 6 cTh ys),(4,bF),(12,iv xs.length),(13,iv 0)] (Zi (Zl ?_)))))))))))))
 refine ZL (σ:={k:Nat // k≤xs.length∧agK xs ys k}) (fun s=>(ofL [],ofT 26 [(0,slA 6 cTh xs),(1,slA 6 cTh ys),(12,iv xs.length),(13,iv s.1)])) (fun s=>xs.length-s.1) ⟨0,Nat.zero_le _,agK_zero _ _⟩ (Zs [] _) (fun s => ?_)
 obtain ⟨k,hk0,hs0⟩:=s
 show ETri J w0 (ofL []) (ofT 26 [(0,slA 6 cTh xs),(1,slA 6 cTh ys),(12,iv xs.length),(13,iv k)]) _
 refine Zk ?_
 by_cases hs2:(k:Int)<(xs.length:Int)
 refine Za (ol (dT hs2) (jD (Yy rfl (Zq (jC (Zl (jB (oF (iv k) (jD ?_)))))))))
 by_cases hs3:(decide (xs[k]=ys[k]))=true
 refine tD (dS (slA 6 cTh xs) (dS (iv k) (dC (xS (k*6) 16 17 U96) I0 I0 (dA (ZW (z:=6) (.tmp 18) rfl U210 rfl (by kernel_rfl) (Ym lenTh xs k (by omega)) rfl) I0 (dS (slA 6 cTh ys) (dS (iv k) (dC (xS (k*6) 20 21 U96) I0 I0 (dA (ZW (z:=6) (.tmp 22) rfl U210 rfl (by kernel_rfl) (Ym lenTh ys k (by omega)) rfl) I0 (dC (ZaO [.int .i64 xs[k].msg,.int .i64 xs[k].coef,.int .i64 xs[k].bd.c,.int .i64 xs[k].bd.n,.int .i64 xs[k].bd.t,.int .i64 xs[k].bd.f] [.int .i64 ys[k].msg,.int .i64 ys[k].coef,.int .i64 ys[k].bd.c,.int .i64 ys[k].bd.n,.int .i64 ys[k].bd.t,.int .i64 ys[k].bd.f] (r:=false) rfl (by kernel_rfl) (fun w=>(eqg_th xs[k] ys[k] w).trans (by rw [hs3];rfl)) rfl) I0 I0 (eD ?_))))))))))
 refine kW 26 [] [(0,slA 6 cTh xs),(1,slA 6 cTh ys),(5,iv k),(12,iv xs.length),(13,iv k),(14,bT),(24,bF)] (Zi (ZK rfl (Zq (ZG (Zi (Za (oV ((k+1:Nat):Int) (oS (iv (k+1:Nat)) (kN 26 [] [(0,slA 6 cTh xs),(1,slA 6 cTh ys),(5,iv k),(12,iv xs.length),(13,iv (k+1:Nat)),(14,bT),(24,bF)] (Zi ?_))))))))))
 refine ZD ⟨k+1,by omega,agK_succ (by omega) (by omega) hs0 (of_decide_eq_true hs3)⟩ (show xs.length-(k+1)<xs.length-k by omega) ?_
 exact Zs [] _
 have hs3f:(decide (xs[k]=ys[k]))=false:=by simpa using hs3
 refine tD (dS (slA 6 cTh xs) (dS (iv k) (dC (xS (k*6) 16 17 U96) I0 I0 (dA (ZW (z:=6) (.tmp 18) rfl U210 rfl (by kernel_rfl) (Ym lenTh xs k (by omega)) rfl) I0 (dS (slA 6 cTh ys) (dS (iv k) (dC (xS (k*6) 20 21 U96) I0 I0 (dA (ZW (z:=6) (.tmp 22) rfl U210 rfl (by kernel_rfl) (Ym lenTh ys k (by omega)) rfl) I0 (dC (ZaO [.int .i64 xs[k].msg,.int .i64 xs[k].coef,.int .i64 xs[k].bd.c,.int .i64 xs[k].bd.n,.int .i64 xs[k].bd.t,.int .i64 xs[k].bd.f] [.int .i64 ys[k].msg,.int .i64 ys[k].coef,.int .i64 ys[k].bd.c,.int .i64 ys[k].bd.n,.int .i64 ys[k].bd.t,.int .i64 ys[k].bd.f] (r:=true) rfl (by kernel_rfl) (fun w=>(eqg_th xs[k] ys[k] w).trans (by rw [hs3f];rfl)) rfl) I0 I0 (eD ?_))))))))))
 refine kW 26 [] [(0,slA 6 cTh xs),(1,slA 6 cTh ys),(5,iv k),(12,iv xs.length),(13,iv k),(14,bT),(24,bT)] (Zi (jK (oS bF (jE (Zg (Zb (Zb (Zg (Zb ?_)))))))))
 refine Zd Tryz.results250 (.tmp rfl) ?_
 exact cB ((ag_no (k:=k) (by omega) (by omega) (of_decide_eq_false hs3f)).symm)
 refine Za (ol (dF hs2) (jD (ZK rfl (jO (jC (Za (oS bT (jE ?_))))))))
 refine Zd Tryz.results250 (.tmp rfl) ?_
 exact cB ((ag_end hs1 (by omega) hs0).symm)
 refine Za (oW (oW (oW (oW (on (dF' hs1) (jG (oS bF (jE (Zb ?_)))))))))
 refine Zd Tryz.results250 (.tmp rfl) ?_
 exact cB ((ag_len hs1).symm)
theorem ZcL {r s:Ru} (hr:RuOk r) (hs:RuOk s):Ctr Tryz.prog J 227 [.agg (cRu r),.agg (cRu s)] (bv (samP r s)):=by
 refine Zn Tryz.func227 rfl (pN (Zm (Yg r)) (pN (Zm (Yg s)) pZ)) (n:=122) rfl (by simp) (fun w0 => ?_)
 refine kW 122 [] [(0,.agg (cRu r)),(1,.agg (cRu s))] (jB (oX 1 (.agg (cRu r)) (oX 2 (.agg (cRu s)) (oS bF (jD ?_)))))
 by_cases hs1:r.kind=s.kind
 by_cases hs2:r.frm=s.frm
 by_cases hs3:r.to=s.to
 by_cases hs4:r.pf=s.pf
 by_cases hs5:r.pt=s.pt
 by_cases hs6:(decide (r.resp=s.resp))=true
 by_cases hs7:(decide (r.gz=s.gz))=true
 by_cases hs8:(decide (r.ex=s.ex))=true
 by_cases hs9:(decide (r.fa=s.fa))=true
 by_cases hs10:r.rd=s.rd
 by_cases hs11:r.wr=s.wr
 by_cases hs12:(decide (r.send=s.send))=true
 by_cases hs13:r.pos=s.pos
 by_cases hs14:(decide (r.left=s.left))=true
 by_cases hs15:(decide (r.right=s.right))=true
 by_cases hs16:(decide (r.pz=s.pz))=true
 refine Za (oW (oW (oW (oW (oe (dT hs1) (oS bT (oW (oW (oW (oW (oe (dT hs2) (oF bT (oW (oW (oW (oW (oe (dT hs3) (oF bT (oW (oW (oW (oW (oe (dT hs4) ?_)))))))))))))))))))))))
 refine oF bT (oW (oW (oW (oW (oe (dT hs5) (oF bT (oW (oW (oW (oW (oK (Zj (eqIntsS r.resp s.resp hr.resp hs.resp) hs6) [Zc r.resp,Zc s.resp] rfl rfl (oF bT (oW (oW (oW (oW (oK (Zj (eqThsS r.gz s.gz hr.lguards hs.lguards) hs7) [slA 6 cTh r.gz,slA 6 cTh s.gz] rfl rfl (oF bT (oW (oW (oW (oW (oK (Zj (eqIntsS r.ex s.ex hr.ex hs.ex) hs8) [Zc r.ex,Zc s.ex] rfl rfl ?_)))))))))))))))))))))))
 refine oF bT (oW (oW (oW (oW (oK (Zj (eqIntsS r.fa s.fa hr.fa hs.fa) hs9) [Zc r.fa,Zc s.fa] rfl rfl (oF bT (oW (oW (oW (oW (oe (dT hs10) (oF bT (oW (oW (oW (oW (oe (dT hs11) (oF bT (oW (oW (oW (oW (oK (Zj (eqIntsS r.send s.send hr.send hs.send) hs12) [Zc r.send,Zc s.send] rfl rfl ?_)))))))))))))))))))))))
 refine oF bT (oW (oW (oW (oW (oe (dT hs13) (oF bT (oW (oW (oW (oW (oK (Zj (eqIntsS r.left s.left hr.left hs.left) hs14) [Zc r.left,Zc s.left] rfl rfl (oF bT (oW (oW (oW (oW (oK (Zj (eqIntsS r.right s.right hr.right hs.right) hs15) [Zc r.right,Zc s.right] rfl rfl (oF bT (oW (oW (oW (oW (oK (Zj (eqIntsS r.pz s.pz hr.pz hs.pz) hs16) [Zc r.pz,Zc s.pz] rfl rfl ?_)))))))))))))))))))))))
 refine oF bT (oF (iv r.dir) (oF (iv s.dir) (gC (ZM rfl rfl) I0 I0 (oF (bv (decide (r.dir=s.dir))) (jE ?_)))))
 refine Zd Tryz.results227 (.tmp rfl) ?_
 exact cB (by unfold samP;simp only [decide_eq_true hs1,decide_eq_true hs2,decide_eq_true hs3,decide_eq_true hs4,decide_eq_true hs5,hs6,hs7,hs8,hs9,decide_eq_true hs10,decide_eq_true hs11,hs12,decide_eq_true hs13,hs14,hs15,hs16,Bool.true_and,Bool.and_true])
 have hs16f:(decide (r.pz=s.pz))=false:=by simpa using hs16
 refine Za (oW (oW (oW (oW (oe (dT hs1) (oS bT (oW (oW (oW (oW (oe (dT hs2) (oF bT (oW (oW (oW (oW (oe (dT hs3) (oF bT (oW (oW (oW (oW (oe (dT hs4) ?_)))))))))))))))))))))))
 refine oF bT (oW (oW (oW (oW (oe (dT hs5) (oF bT (oW (oW (oW (oW (oK (Zj (eqIntsS r.resp s.resp hr.resp hs.resp) hs6) [Zc r.resp,Zc s.resp] rfl rfl (oF bT (oW (oW (oW (oW (oK (Zj (eqThsS r.gz s.gz hr.lguards hs.lguards) hs7) [slA 6 cTh r.gz,slA 6 cTh s.gz] rfl rfl (oF bT (oW (oW (oW (oW (oK (Zj (eqIntsS r.ex s.ex hr.ex hs.ex) hs8) [Zc r.ex,Zc s.ex] rfl rfl ?_)))))))))))))))))))))))
 refine oF bT (oW (oW (oW (oW (oK (Zj (eqIntsS r.fa s.fa hr.fa hs.fa) hs9) [Zc r.fa,Zc s.fa] rfl rfl (oF bT (oW (oW (oW (oW (oe (dT hs10) (oF bT (oW (oW (oW (oW (oe (dT hs11) (oF bT (oW (oW (oW (oW (oK (Zj (eqIntsS r.send s.send hr.send hs.send) hs12) [Zc r.send,Zc s.send] rfl rfl ?_)))))))))))))))))))))))
 refine oF bT (oW (oW (oW (oW (oe (dT hs13) (oF bT (oW (oW (oW (oW (oK (Zj (eqIntsS r.left s.left hr.left hs.left) hs14) [Zc r.left,Zc s.left] rfl rfl (oF bT (oW (oW (oW (oW (oK (Zj (eqIntsS r.right s.right hr.right hs.right) hs15) [Zc r.right,Zc s.right] rfl rfl (oF bT (oW (oW (oW (oW (oK (Zj (eqIntsS r.pz s.pz hr.pz hs.pz) hs16f) [Zc r.pz,Zc s.pz] rfl rfl ?_)))))))))))))))))))))))
 refine oF bF (qK (qK (qK (qK (qK (oF bF (jE ?_)))))))
 refine Zd Tryz.results227 (.tmp rfl) ?_
 exact cB (by unfold samP;simp only [hs16f,Bool.false_and,Bool.and_false])
 have hs15f:(decide (r.right=s.right))=false:=by simpa using hs15
 refine Za (oW (oW (oW (oW (oe (dT hs1) (oS bT (oW (oW (oW (oW (oe (dT hs2) (oF bT (oW (oW (oW (oW (oe (dT hs3) (oF bT (oW (oW (oW (oW (oe (dT hs4) ?_)))))))))))))))))))))))
 refine oF bT (oW (oW (oW (oW (oe (dT hs5) (oF bT (oW (oW (oW (oW (oK (Zj (eqIntsS r.resp s.resp hr.resp hs.resp) hs6) [Zc r.resp,Zc s.resp] rfl rfl (oF bT (oW (oW (oW (oW (oK (Zj (eqThsS r.gz s.gz hr.lguards hs.lguards) hs7) [slA 6 cTh r.gz,slA 6 cTh s.gz] rfl rfl (oF bT (oW (oW (oW (oW (oK (Zj (eqIntsS r.ex s.ex hr.ex hs.ex) hs8) [Zc r.ex,Zc s.ex] rfl rfl ?_)))))))))))))))))))))))
 refine oF bT (oW (oW (oW (oW (oK (Zj (eqIntsS r.fa s.fa hr.fa hs.fa) hs9) [Zc r.fa,Zc s.fa] rfl rfl (oF bT (oW (oW (oW (oW (oe (dT hs10) (oF bT (oW (oW (oW (oW (oe (dT hs11) (oF bT (oW (oW (oW (oW (oK (Zj (eqIntsS r.send s.send hr.send hs.send) hs12) [Zc r.send,Zc s.send] rfl rfl ?_)))))))))))))))))))))))
 refine oF bT (oW (oW (oW (oW (oe (dT hs13) (oF bT (oW (oW (oW (oW (oK (Zj (eqIntsS r.left s.left hr.left hs.left) hs14) [Zc r.left,Zc s.left] rfl rfl (oF bT (oW (oW (oW (oW (oK (Zj (eqIntsS r.right s.right hr.right hs.right) hs15f) [Zc r.right,Zc s.right] rfl rfl (oF bF (qK (qK (qK (qK (qK ?_)))))))))))))))))))))))
 refine oF bF (qK (qK (qK (qK (qK (oF bF (jE ?_)))))))
 refine Zd Tryz.results227 (.tmp rfl) ?_
 exact cB (by unfold samP;simp only [hs15f,Bool.false_and,Bool.and_false])
 have hs14f:(decide (r.left=s.left))=false:=by simpa using hs14
 refine Za (oW (oW (oW (oW (oe (dT hs1) (oS bT (oW (oW (oW (oW (oe (dT hs2) (oF bT (oW (oW (oW (oW (oe (dT hs3) (oF bT (oW (oW (oW (oW (oe (dT hs4) ?_)))))))))))))))))))))))
 refine oF bT (oW (oW (oW (oW (oe (dT hs5) (oF bT (oW (oW (oW (oW (oK (Zj (eqIntsS r.resp s.resp hr.resp hs.resp) hs6) [Zc r.resp,Zc s.resp] rfl rfl (oF bT (oW (oW (oW (oW (oK (Zj (eqThsS r.gz s.gz hr.lguards hs.lguards) hs7) [slA 6 cTh r.gz,slA 6 cTh s.gz] rfl rfl (oF bT (oW (oW (oW (oW (oK (Zj (eqIntsS r.ex s.ex hr.ex hs.ex) hs8) [Zc r.ex,Zc s.ex] rfl rfl ?_)))))))))))))))))))))))
 refine oF bT (oW (oW (oW (oW (oK (Zj (eqIntsS r.fa s.fa hr.fa hs.fa) hs9) [Zc r.fa,Zc s.fa] rfl rfl (oF bT (oW (oW (oW (oW (oe (dT hs10) (oF bT (oW (oW (oW (oW (oe (dT hs11) (oF bT (oW (oW (oW (oW (oK (Zj (eqIntsS r.send s.send hr.send hs.send) hs12) [Zc r.send,Zc s.send] rfl rfl ?_)))))))))))))))))))))))
 refine oF bT (oW (oW (oW (oW (oe (dT hs13) (oF bT (oW (oW (oW (oW (oK (Zj (eqIntsS r.left s.left hr.left hs.left) hs14f) [Zc r.left,Zc s.left] rfl rfl (oF bF (qK (qK (qK (qK (qK (oF bF (qK (qK (qK (qK (qK ?_)))))))))))))))))))))))
 refine oF bF (qK (qK (qK (qK (qK (oF bF (jE ?_)))))))
 refine Zd Tryz.results227 (.tmp rfl) ?_
 exact cB (by unfold samP;simp only [hs14f,Bool.false_and,Bool.and_false])
 refine Za (oW (oW (oW (oW (oe (dT hs1) (oS bT (oW (oW (oW (oW (oe (dT hs2) (oF bT (oW (oW (oW (oW (oe (dT hs3) (oF bT (oW (oW (oW (oW (oe (dT hs4) ?_)))))))))))))))))))))))
 refine oF bT (oW (oW (oW (oW (oe (dT hs5) (oF bT (oW (oW (oW (oW (oK (Zj (eqIntsS r.resp s.resp hr.resp hs.resp) hs6) [Zc r.resp,Zc s.resp] rfl rfl (oF bT (oW (oW (oW (oW (oK (Zj (eqThsS r.gz s.gz hr.lguards hs.lguards) hs7) [slA 6 cTh r.gz,slA 6 cTh s.gz] rfl rfl (oF bT (oW (oW (oW (oW (oK (Zj (eqIntsS r.ex s.ex hr.ex hs.ex) hs8) [Zc r.ex,Zc s.ex] rfl rfl ?_)))))))))))))))))))))))
 refine oF bT (oW (oW (oW (oW (oK (Zj (eqIntsS r.fa s.fa hr.fa hs.fa) hs9) [Zc r.fa,Zc s.fa] rfl rfl (oF bT (oW (oW (oW (oW (oe (dT hs10) (oF bT (oW (oW (oW (oW (oe (dT hs11) (oF bT (oW (oW (oW (oW (oK (Zj (eqIntsS r.send s.send hr.send hs.send) hs12) [Zc r.send,Zc s.send] rfl rfl ?_)))))))))))))))))))))))
 refine oF bT (oW (oW (oW (oW (oe (dF hs13) (oF bF (qK (qK (qK (qK (qK (oF bF (qK (qK (qK (qK (qK (oF bF (qK (qK (qK (qK (qK ?_)))))))))))))))))))))))
 refine oF bF (qK (qK (qK (qK (qK (oF bF (jE ?_)))))))
 refine Zd Tryz.results227 (.tmp rfl) ?_
 exact cB (by unfold samP;simp only [decide_eq_false hs13,Bool.false_and,Bool.and_false])
 have hs12f:(decide (r.send=s.send))=false:=by simpa using hs12
 refine Za (oW (oW (oW (oW (oe (dT hs1) (oS bT (oW (oW (oW (oW (oe (dT hs2) (oF bT (oW (oW (oW (oW (oe (dT hs3) (oF bT (oW (oW (oW (oW (oe (dT hs4) ?_)))))))))))))))))))))))
 refine oF bT (oW (oW (oW (oW (oe (dT hs5) (oF bT (oW (oW (oW (oW (oK (Zj (eqIntsS r.resp s.resp hr.resp hs.resp) hs6) [Zc r.resp,Zc s.resp] rfl rfl (oF bT (oW (oW (oW (oW (oK (Zj (eqThsS r.gz s.gz hr.lguards hs.lguards) hs7) [slA 6 cTh r.gz,slA 6 cTh s.gz] rfl rfl (oF bT (oW (oW (oW (oW (oK (Zj (eqIntsS r.ex s.ex hr.ex hs.ex) hs8) [Zc r.ex,Zc s.ex] rfl rfl ?_)))))))))))))))))))))))
 refine oF bT (oW (oW (oW (oW (oK (Zj (eqIntsS r.fa s.fa hr.fa hs.fa) hs9) [Zc r.fa,Zc s.fa] rfl rfl (oF bT (oW (oW (oW (oW (oe (dT hs10) (oF bT (oW (oW (oW (oW (oe (dT hs11) (oF bT (oW (oW (oW (oW (oK (Zj (eqIntsS r.send s.send hr.send hs.send) hs12f) [Zc r.send,Zc s.send] rfl rfl ?_)))))))))))))))))))))))
 refine oF bF (qK (qK (qK (qK (qK (oF bF (qK (qK (qK (qK (qK (oF bF (qK (qK (qK (qK (qK (oF bF (qK (qK (qK (qK (qK ?_)))))))))))))))))))))))
 refine oF bF (qK (qK (qK (qK (qK (oF bF (jE ?_)))))))
 refine Zd Tryz.results227 (.tmp rfl) ?_
 exact cB (by unfold samP;simp only [hs12f,Bool.false_and,Bool.and_false])
 refine Za (oW (oW (oW (oW (oe (dT hs1) (oS bT (oW (oW (oW (oW (oe (dT hs2) (oF bT (oW (oW (oW (oW (oe (dT hs3) (oF bT (oW (oW (oW (oW (oe (dT hs4) ?_)))))))))))))))))))))))
 refine oF bT (oW (oW (oW (oW (oe (dT hs5) (oF bT (oW (oW (oW (oW (oK (Zj (eqIntsS r.resp s.resp hr.resp hs.resp) hs6) [Zc r.resp,Zc s.resp] rfl rfl (oF bT (oW (oW (oW (oW (oK (Zj (eqThsS r.gz s.gz hr.lguards hs.lguards) hs7) [slA 6 cTh r.gz,slA 6 cTh s.gz] rfl rfl (oF bT (oW (oW (oW (oW (oK (Zj (eqIntsS r.ex s.ex hr.ex hs.ex) hs8) [Zc r.ex,Zc s.ex] rfl rfl ?_)))))))))))))))))))))))
 refine oF bT (oW (oW (oW (oW (oK (Zj (eqIntsS r.fa s.fa hr.fa hs.fa) hs9) [Zc r.fa,Zc s.fa] rfl rfl (oF bT (oW (oW (oW (oW (oe (dT hs10) (oF bT (oW (oW (oW (oW (oe (dF hs11) (oF bF (qK (qK (qK (qK (qK ?_)))))))))))))))))))))))
 refine oF bF (qK (qK (qK (qK (qK (oF bF (qK (qK (qK (qK (qK (oF bF (qK (qK (qK (qK (qK (oF bF (qK (qK (qK (qK (qK ?_)))))))))))))))))))))))
 refine oF bF (qK (qK (qK (qK (qK (oF bF (jE ?_)))))))
 refine Zd Tryz.results227 (.tmp rfl) ?_
 exact cB (by unfold samP;simp only [decide_eq_false hs11,Bool.false_and,Bool.and_false])
 refine Za (oW (oW (oW (oW (oe (dT hs1) (oS bT (oW (oW (oW (oW (oe (dT hs2) (oF bT (oW (oW (oW (oW (oe (dT hs3) (oF bT (oW (oW (oW (oW (oe (dT hs4) ?_)))))))))))))))))))))))
 refine oF bT (oW (oW (oW (oW (oe (dT hs5) (oF bT (oW (oW (oW (oW (oK (Zj (eqIntsS r.resp s.resp hr.resp hs.resp) hs6) [Zc r.resp,Zc s.resp] rfl rfl (oF bT (oW (oW (oW (oW (oK (Zj (eqThsS r.gz s.gz hr.lguards hs.lguards) hs7) [slA 6 cTh r.gz,slA 6 cTh s.gz] rfl rfl (oF bT (oW (oW (oW (oW (oK (Zj (eqIntsS r.ex s.ex hr.ex hs.ex) hs8) [Zc r.ex,Zc s.ex] rfl rfl ?_)))))))))))))))))))))))
 refine oF bT (oW (oW (oW (oW (oK (Zj (eqIntsS r.fa s.fa hr.fa hs.fa) hs9) [Zc r.fa,Zc s.fa] rfl rfl (oF bT (oW (oW (oW (oW (oe (dF hs10) (oF bF (qK (qK (qK (qK (qK (oF bF (qK (qK (qK (qK (qK ?_)))))))))))))))))))))))
 refine oF bF (qK (qK (qK (qK (qK (oF bF (qK (qK (qK (qK (qK (oF bF (qK (qK (qK (qK (qK (oF bF (qK (qK (qK (qK (qK ?_)))))))))))))))))))))))
 refine oF bF (qK (qK (qK (qK (qK (oF bF (jE ?_)))))))
 refine Zd Tryz.results227 (.tmp rfl) ?_
 exact cB (by unfold samP;simp only [decide_eq_false hs10,Bool.false_and,Bool.and_false])
 have hs9f:(decide (r.fa=s.fa))=false:=by simpa using hs9
 refine Za (oW (oW (oW (oW (oe (dT hs1) (oS bT (oW (oW (oW (oW (oe (dT hs2) (oF bT (oW (oW (oW (oW (oe (dT hs3) (oF bT (oW (oW (oW (oW (oe (dT hs4) ?_)))))))))))))))))))))))
 refine oF bT (oW (oW (oW (oW (oe (dT hs5) (oF bT (oW (oW (oW (oW (oK (Zj (eqIntsS r.resp s.resp hr.resp hs.resp) hs6) [Zc r.resp,Zc s.resp] rfl rfl (oF bT (oW (oW (oW (oW (oK (Zj (eqThsS r.gz s.gz hr.lguards hs.lguards) hs7) [slA 6 cTh r.gz,slA 6 cTh s.gz] rfl rfl (oF bT (oW (oW (oW (oW (oK (Zj (eqIntsS r.ex s.ex hr.ex hs.ex) hs8) [Zc r.ex,Zc s.ex] rfl rfl ?_)))))))))))))))))))))))
 refine oF bT (oW (oW (oW (oW (oK (Zj (eqIntsS r.fa s.fa hr.fa hs.fa) hs9f) [Zc r.fa,Zc s.fa] rfl rfl (oF bF (qK (qK (qK (qK (qK (oF bF (qK (qK (qK (qK (qK (oF bF (qK (qK (qK (qK (qK ?_)))))))))))))))))))))))
 refine oF bF (qK (qK (qK (qK (qK (oF bF (qK (qK (qK (qK (qK (oF bF (qK (qK (qK (qK (qK (oF bF (qK (qK (qK (qK (qK ?_)))))))))))))))))))))))
 refine oF bF (qK (qK (qK (qK (qK (oF bF (jE ?_)))))))
 refine Zd Tryz.results227 (.tmp rfl) ?_
 exact cB (by unfold samP;simp only [hs9f,Bool.false_and,Bool.and_false])
 have hs8f:(decide (r.ex=s.ex))=false:=by simpa using hs8
 refine Za (oW (oW (oW (oW (oe (dT hs1) (oS bT (oW (oW (oW (oW (oe (dT hs2) (oF bT (oW (oW (oW (oW (oe (dT hs3) (oF bT (oW (oW (oW (oW (oe (dT hs4) ?_)))))))))))))))))))))))
 refine oF bT (oW (oW (oW (oW (oe (dT hs5) (oF bT (oW (oW (oW (oW (oK (Zj (eqIntsS r.resp s.resp hr.resp hs.resp) hs6) [Zc r.resp,Zc s.resp] rfl rfl (oF bT (oW (oW (oW (oW (oK (Zj (eqThsS r.gz s.gz hr.lguards hs.lguards) hs7) [slA 6 cTh r.gz,slA 6 cTh s.gz] rfl rfl (oF bT (oW (oW (oW (oW (oK (Zj (eqIntsS r.ex s.ex hr.ex hs.ex) hs8f) [Zc r.ex,Zc s.ex] rfl rfl ?_)))))))))))))))))))))))
 refine oF bF (qK (qK (qK (qK (qK (oF bF (qK (qK (qK (qK (qK (oF bF (qK (qK (qK (qK (qK (oF bF (qK (qK (qK (qK (qK ?_)))))))))))))))))))))))
 refine oF bF (qK (qK (qK (qK (qK (oF bF (qK (qK (qK (qK (qK (oF bF (qK (qK (qK (qK (qK (oF bF (qK (qK (qK (qK (qK ?_)))))))))))))))))))))))
 refine oF bF (qK (qK (qK (qK (qK (oF bF (jE ?_)))))))
 refine Zd Tryz.results227 (.tmp rfl) ?_
 exact cB (by unfold samP;simp only [hs8f,Bool.false_and,Bool.and_false])
 have hs7f:(decide (r.gz=s.gz))=false:=by simpa using hs7
 refine Za (oW (oW (oW (oW (oe (dT hs1) (oS bT (oW (oW (oW (oW (oe (dT hs2) (oF bT (oW (oW (oW (oW (oe (dT hs3) (oF bT (oW (oW (oW (oW (oe (dT hs4) ?_)))))))))))))))))))))))
 refine oF bT (oW (oW (oW (oW (oe (dT hs5) (oF bT (oW (oW (oW (oW (oK (Zj (eqIntsS r.resp s.resp hr.resp hs.resp) hs6) [Zc r.resp,Zc s.resp] rfl rfl (oF bT (oW (oW (oW (oW (oK (Zj (eqThsS r.gz s.gz hr.lguards hs.lguards) hs7f) [slA 6 cTh r.gz,slA 6 cTh s.gz] rfl rfl (oF bF (qK (qK (qK (qK (qK ?_)))))))))))))))))))))))
 refine oF bF (qK (qK (qK (qK (qK (oF bF (qK (qK (qK (qK (qK (oF bF (qK (qK (qK (qK (qK (oF bF (qK (qK (qK (qK (qK ?_)))))))))))))))))))))))
 refine oF bF (qK (qK (qK (qK (qK (oF bF (qK (qK (qK (qK (qK (oF bF (qK (qK (qK (qK (qK (oF bF (qK (qK (qK (qK (qK ?_)))))))))))))))))))))))
 refine oF bF (qK (qK (qK (qK (qK (oF bF (jE ?_)))))))
 refine Zd Tryz.results227 (.tmp rfl) ?_
 exact cB (by unfold samP;simp only [hs7f,Bool.false_and,Bool.and_false])
 have hs6f:(decide (r.resp=s.resp))=false:=by simpa using hs6
 refine Za (oW (oW (oW (oW (oe (dT hs1) (oS bT (oW (oW (oW (oW (oe (dT hs2) (oF bT (oW (oW (oW (oW (oe (dT hs3) (oF bT (oW (oW (oW (oW (oe (dT hs4) ?_)))))))))))))))))))))))
 refine oF bT (oW (oW (oW (oW (oe (dT hs5) (oF bT (oW (oW (oW (oW (oK (Zj (eqIntsS r.resp s.resp hr.resp hs.resp) hs6f) [Zc r.resp,Zc s.resp] rfl rfl (oF bF (qK (qK (qK (qK (qK (oF bF (qK (qK (qK (qK (qK ?_)))))))))))))))))))))))
 refine oF bF (qK (qK (qK (qK (qK (oF bF (qK (qK (qK (qK (qK (oF bF (qK (qK (qK (qK (qK (oF bF (qK (qK (qK (qK (qK ?_)))))))))))))))))))))))
 refine oF bF (qK (qK (qK (qK (qK (oF bF (qK (qK (qK (qK (qK (oF bF (qK (qK (qK (qK (qK (oF bF (qK (qK (qK (qK (qK ?_)))))))))))))))))))))))
 refine oF bF (qK (qK (qK (qK (qK (oF bF (jE ?_)))))))
 refine Zd Tryz.results227 (.tmp rfl) ?_
 exact cB (by unfold samP;simp only [hs6f,Bool.false_and,Bool.and_false])
 refine Za (oW (oW (oW (oW (oe (dT hs1) (oS bT (oW (oW (oW (oW (oe (dT hs2) (oF bT (oW (oW (oW (oW (oe (dT hs3) (oF bT (oW (oW (oW (oW (oe (dT hs4) ?_)))))))))))))))))))))))
 refine oF bT (oW (oW (oW (oW (oe (dF hs5) (oF bF (qK (qK (qK (qK (qK (oF bF (qK (qK (qK (qK (qK (oF bF (qK (qK (qK (qK (qK ?_)))))))))))))))))))))))
 refine oF bF (qK (qK (qK (qK (qK (oF bF (qK (qK (qK (qK (qK (oF bF (qK (qK (qK (qK (qK (oF bF (qK (qK (qK (qK (qK ?_)))))))))))))))))))))))
 refine oF bF (qK (qK (qK (qK (qK (oF bF (qK (qK (qK (qK (qK (oF bF (qK (qK (qK (qK (qK (oF bF (qK (qK (qK (qK (qK ?_)))))))))))))))))))))))
 refine oF bF (qK (qK (qK (qK (qK (oF bF (jE ?_)))))))
 refine Zd Tryz.results227 (.tmp rfl) ?_
 exact cB (by unfold samP;simp only [decide_eq_false hs5,Bool.false_and,Bool.and_false])
 refine Za (oW (oW (oW (oW (oe (dT hs1) (oS bT (oW (oW (oW (oW (oe (dT hs2) (oF bT (oW (oW (oW (oW (oe (dT hs3) (oF bT (oW (oW (oW (oW (oe (dF hs4) ?_)))))))))))))))))))))))
 refine oF bF (qK (qK (qK (qK (qK (oF bF (qK (qK (qK (qK (qK (oF bF (qK (qK (qK (qK (qK (oF bF (qK (qK (qK (qK (qK ?_)))))))))))))))))))))))
 refine oF bF (qK (qK (qK (qK (qK (oF bF (qK (qK (qK (qK (qK (oF bF (qK (qK (qK (qK (qK (oF bF (qK (qK (qK (qK (qK ?_)))))))))))))))))))))))
 refine oF bF (qK (qK (qK (qK (qK (oF bF (qK (qK (qK (qK (qK (oF bF (qK (qK (qK (qK (qK (oF bF (qK (qK (qK (qK (qK ?_)))))))))))))))))))))))
 refine oF bF (qK (qK (qK (qK (qK (oF bF (jE ?_)))))))
 refine Zd Tryz.results227 (.tmp rfl) ?_
 exact cB (by unfold samP;simp only [decide_eq_false hs4,Bool.false_and,Bool.and_false])
 refine Za (oW (oW (oW (oW (oe (dT hs1) (oS bT (oW (oW (oW (oW (oe (dT hs2) (oF bT (oW (oW (oW (oW (oe (dF hs3) (oF bF (qK (qK (qK (qK (qK ?_)))))))))))))))))))))))
 refine oF bF (qK (qK (qK (qK (qK (oF bF (qK (qK (qK (qK (qK (oF bF (qK (qK (qK (qK (qK (oF bF (qK (qK (qK (qK (qK ?_)))))))))))))))))))))))
 refine oF bF (qK (qK (qK (qK (qK (oF bF (qK (qK (qK (qK (qK (oF bF (qK (qK (qK (qK (qK (oF bF (qK (qK (qK (qK (qK ?_)))))))))))))))))))))))
 refine oF bF (qK (qK (qK (qK (qK (oF bF (qK (qK (qK (qK (qK (oF bF (qK (qK (qK (qK (qK (oF bF (qK (qK (qK (qK (qK ?_)))))))))))))))))))))))
 refine oF bF (qK (qK (qK (qK (qK (oF bF (jE ?_)))))))
 refine Zd Tryz.results227 (.tmp rfl) ?_
 exact cB (by unfold samP;simp only [decide_eq_false hs3,Bool.false_and,Bool.and_false])
 refine Za (oW (oW (oW (oW (oe (dT hs1) (oS bT (oW (oW (oW (oW (oe (dF hs2) (oF bF (qK (qK (qK (qK (qK (oF bF (qK (qK (qK (qK (qK ?_)))))))))))))))))))))))
 refine oF bF (qK (qK (qK (qK (qK (oF bF (qK (qK (qK (qK (qK (oF bF (qK (qK (qK (qK (qK (oF bF (qK (qK (qK (qK (qK ?_)))))))))))))))))))))))
 refine oF bF (qK (qK (qK (qK (qK (oF bF (qK (qK (qK (qK (qK (oF bF (qK (qK (qK (qK (qK (oF bF (qK (qK (qK (qK (qK ?_)))))))))))))))))))))))
 refine oF bF (qK (qK (qK (qK (qK (oF bF (qK (qK (qK (qK (qK (oF bF (qK (qK (qK (qK (qK (oF bF (qK (qK (qK (qK (qK ?_)))))))))))))))))))))))
 refine oF bF (qK (qK (qK (qK (qK (oF bF (jE ?_)))))))
 refine Zd Tryz.results227 (.tmp rfl) ?_
 exact cB (by unfold samP;simp only [decide_eq_false hs2,Bool.false_and,Bool.and_false])
 refine Za (oW (oW (oW (oW (oe (dF hs1) (oS bF (qK (qK (qK (qK (qK (oF bF (qK (qK (qK (qK (qK (oF bF (qK (qK (qK (qK (qK ?_)))))))))))))))))))))))
 refine oF bF (qK (qK (qK (qK (qK (oF bF (qK (qK (qK (qK (qK (oF bF (qK (qK (qK (qK (qK (oF bF (qK (qK (qK (qK (qK ?_)))))))))))))))))))))))
 refine oF bF (qK (qK (qK (qK (qK (oF bF (qK (qK (qK (qK (qK (oF bF (qK (qK (qK (qK (qK (oF bF (qK (qK (qK (qK (qK ?_)))))))))))))))))))))))
 refine oF bF (qK (qK (qK (qK (qK (oF bF (qK (qK (qK (qK (qK (oF bF (qK (qK (qK (qK (qK (oF bF (qK (qK (qK (qK (qK ?_)))))))))))))))))))))))
 refine oF bF (qK (qK (qK (qK (qK (oF bF (jE ?_)))))))
 refine Zd Tryz.results227 (.tmp rfl) ?_
 exact cB (by unfold samP;simp only [decide_eq_false hs1,Bool.false_and,Bool.and_false])
variable {r:Ru}{top:Int}
theorem bare_1 (h:r.kind=1):bare r top={ r with frm:=0,«to» := 0,gz:=[],ex:=[],fa:=[],send:=[],rd := -1,wr := -1 }:=by
 unfold bare
 dsimp only
 rw [if_pos h]
theorem bare_2 (h:r.kind=2):bare r top={ r with frm:=0,«to» := 0,pf:=0,pt:=0,rd := -1,wr := -1 }:=by
 unfold bare
 dsimp only
 rw [if_neg (by omega),if_pos h]
theorem bare_3 (h:r.kind=3):bare r top={ r with frm:=0,«to» := 0,resp:=[],rd := -1,wr := -1 }:=by
 unfold bare
 dsimp only
 rw [if_neg (by omega),if_neg (by omega),if_pos h]
theorem bare_4t (h:r.kind=4) (h4:top=4):bare r top={ r with frm:=0,«to» := 0,pos:=0,left:=[],right:=[],pz:=[] }:=by
 unfold bare
 dsimp only
 rw [if_neg (by omega),if_neg (by omega),if_neg (by omega),if_pos h,if_pos h4]
theorem bare_4n (h:r.kind=4) (h4:¬ top=4):bare r top={ r with frm:=0,«to» := 0,pos:=0,left:=[],right:=[] }:=by
 unfold bare
 dsimp only
 rw [if_neg (by omega),if_neg (by omega),if_neg (by omega),if_pos h,if_neg h4]
theorem bare_5 (h:r.kind=5):bare r top={ r with frm:=0,«to» := 0,pf:=0,pt:=0,dir:=0 }:=by
 unfold bare
 dsimp only
 rw [if_neg (by omega),if_neg (by omega),if_neg (by omega),if_neg (by omega),if_pos h]
theorem bareOk (hk:r.kind=1∨r.kind=2∨r.kind=3∨r.kind=4∨r.kind=5) (h:RuOk r):RuOk (bare r top):=by
 rcases hk with k | k | k | k | k
 ·rw [bare_1 k];exact ⟨h.nm,h.kind,YI,YI,h.pf,h.pt,h.resp,(fun _ h=>by cases h),(fun _ h=>by cases h),(fun _ h=>by cases h),WO,WO,(fun _ h=>by cases h),h.pos,h.left,h.right,h.pz,h.dir,h.lresp,(Nat.zero_le _)⟩
 ·rw [bare_2 k];exact ⟨h.nm,h.kind,YI,YI,YI,YI,h.resp,h.gz,h.ex,h.fa,WO,WO,h.send,h.pos,h.left,h.right,h.pz,h.dir,h.lresp,h.lguards⟩
 ·rw [bare_3 k];exact ⟨h.nm,h.kind,YI,YI,h.pf,h.pt,(fun _ h=>by cases h),h.gz,h.ex,h.fa,WO,WO,h.send,h.pos,h.left,h.right,h.pz,h.dir,(Nat.zero_le _),h.lguards⟩
 ·by_cases h4:top=4
  ·rw [bare_4t k h4];exact ⟨h.nm,h.kind,YI,YI,h.pf,h.pt,h.resp,h.gz,h.ex,h.fa,h.rd,h.wr,h.send,YI,(fun _ h=>by cases h),(fun _ h=>by cases h),(fun _ h=>by cases h),h.dir,h.lresp,h.lguards⟩
  rw [bare_4n k h4];exact ⟨h.nm,h.kind,YI,YI,h.pf,h.pt,h.resp,h.gz,h.ex,h.fa,h.rd,h.wr,h.send,YI,(fun _ h=>by cases h),(fun _ h=>by cases h),h.pz,h.dir,h.lresp,h.lguards⟩
 rw [bare_5 k];exact ⟨h.nm,h.kind,YI,YI,YI,YI,h.resp,h.gz,h.ex,h.fa,h.rd,h.wr,h.send,h.pos,h.left,h.right,h.pz,YI,h.lresp,h.lguards⟩
theorem KJ {X Y:AV} (e:X=Y) (h:Plain Y):Plain X:=e ▸ h
abbrev Yw:List (Nat × AV):=[(2,bx 1),(4,bx 2)]
abbrev XOth_h2 (x0:Ru):List (Nat × ABlk):=[(1,.box 98 [sv x0.nm,iv x0.kind,iv 0,iv 0,iv x0.pf,iv x0.pt,Zc x0.resp,nz,nz,nz,iv (-1),iv (-1),nz,iv x0.pos,Zc x0.left,Zc x0.right,Zc x0.pz,iv x0.dir]),(2,.box 98 [sv (⟨#[]⟩),iv 0,iv 0,iv 0,iv 0,iv 0,nz,nz,nz,nz,iv 0,iv 0,nz,iv 0,nz,nz,nz,iv 0])]
abbrev XOth_h3 (x0:Ru):List (Nat × ABlk):=[(1,.box 98 [sv x0.nm,iv x0.kind,iv 0,iv 0,iv 0,iv 0,Zc x0.resp,slA 6 cTh x0.gz,Zc x0.ex,Zc x0.fa,iv (-1),iv (-1),Zc x0.send,iv x0.pos,Zc x0.left,Zc x0.right,Zc x0.pz,iv x0.dir]),(2,.box 98 [sv (⟨#[]⟩),iv 0,iv 0,iv 0,iv 0,iv 0,nz,nz,nz,nz,iv 0,iv 0,nz,iv 0,nz,nz,nz,iv 0])]
abbrev XOth_h4 (x0:Ru):List (Nat × ABlk):=[(1,.box 98 [sv x0.nm,iv x0.kind,iv 0,iv 0,iv x0.pf,iv x0.pt,nz,slA 6 cTh x0.gz,Zc x0.ex,Zc x0.fa,iv (-1),iv (-1),Zc x0.send,iv x0.pos,Zc x0.left,Zc x0.right,Zc x0.pz,iv x0.dir]),(2,.box 98 [sv (⟨#[]⟩),iv 0,iv 0,iv 0,iv 0,iv 0,nz,nz,nz,nz,iv 0,iv 0,nz,iv 0,nz,nz,nz,iv 0])]
abbrev Zdg (x0:Ru):List (Nat × ABlk):=[(1,.box 98 [sv x0.nm,iv x0.kind,iv 0,iv 0,iv x0.pf,iv x0.pt,Zc x0.resp,slA 6 cTh x0.gz,Zc x0.ex,Zc x0.fa,iv x0.rd,iv x0.wr,Zc x0.send,iv 0,nz,nz,Zc x0.pz,iv x0.dir]),(2,.box 98 [sv (⟨#[]⟩),iv 0,iv 0,iv 0,iv 0,iv 0,nz,nz,nz,nz,iv 0,iv 0,nz,iv 0,nz,nz,nz,iv 0])]
abbrev XOth_h6 (x0:Ru):List (Nat × ABlk):=[(1,.box 98 [sv x0.nm,iv x0.kind,iv 0,iv 0,iv x0.pf,iv x0.pt,Zc x0.resp,slA 6 cTh x0.gz,Zc x0.ex,Zc x0.fa,iv x0.rd,iv x0.wr,Zc x0.send,iv 0,nz,nz,nz,iv x0.dir]),(2,.box 98 [sv (⟨#[]⟩),iv 0,iv 0,iv 0,iv 0,iv 0,nz,nz,nz,nz,iv 0,iv 0,nz,iv 0,nz,nz,nz,iv 0])]
abbrev XOth_h7 (x0:Ru):List (Nat × ABlk):=[(1,.box 98 [sv x0.nm,iv x0.kind,iv 0,iv 0,iv 0,iv 0,Zc x0.resp,slA 6 cTh x0.gz,Zc x0.ex,Zc x0.fa,iv x0.rd,iv x0.wr,Zc x0.send,iv x0.pos,Zc x0.left,Zc x0.right,Zc x0.pz,iv 0]),(2,.box 98 [sv (⟨#[]⟩),iv 0,iv 0,iv 0,iv 0,iv 0,nz,nz,nz,nz,iv 0,iv 0,nz,iv 0,nz,nz,nz,iv 0])]
theorem Zbb (hk:r.kind=1∨r.kind=2∨r.kind=3∨r.kind=4∨r.kind=5):CtrA Tryz.prog J 228 [.agg (cRu r),iv top] (.agg (cRu (bare r top))):=by
 refine Zc9 Tryz.func228 rfl (pN (Zm (Yg r)) (pN (.v _) pZ)) (n:=42) rfl (by simp) (fun w0 => ?_)
 refine kW 42 [] [(0,.agg (cRu r)),(1,iv top)] (jB (oX 1 (.agg (cRu r)) (oZ 2 Z98 (jD (Za (oW (oY (oW (oY (kN 42 [(1,.box 98 [sv r.nm,iv r.kind,iv 0,iv 0,iv r.pf,iv r.pt,Zc r.resp,slA 6 cTh r.gz,Zc r.ex,Zc r.fa,iv r.rd,iv r.wr,Zc r.send,iv r.pos,Zc r.left,Zc r.right,Zc r.pz,iv r.dir]),(2,.box 98 [sv (⟨#[]⟩),iv 0,iv 0,iv 0,iv 0,iv 0,nz,nz,nz,nz,iv 0,iv 0,nz,iv 0,nz,nz,nz,iv 0])] [(1,iv top),(2,bx 1),(4,bx 2)] (jC (jB (oF (iv r.kind) (jA (Zl (Zk ?_))))))))))))))))
 by_cases hs1:r.kind=1
 refine Za (oe (dT hs1) (oS bT (jG (oW (oY (oW (oY (oW (oY (oW (oY (kN 42 [(1,.box 98 [sv r.nm,iv r.kind,iv 0,iv 0,iv r.pf,iv r.pt,Zc r.resp,nz,nz,nz,iv r.rd,iv r.wr,nz,iv r.pos,Zc r.left,Zc r.right,Zc r.pz,iv r.dir]),(2,.box 98 [sv (⟨#[]⟩),iv 0,iv 0,iv 0,iv 0,iv 0,nz,nz,nz,nz,iv 0,iv 0,nz,iv 0,nz,nz,nz,iv 0])] Yw (Zi (Za (oW (oY (oW (oY (kN 42 (XOth_h2 r) Yw ?_)))))))))))))))))))
 refine ZG (jC (kW 42 (XOth_h2 r) Yw ?_))
 refine ZaL (W4 1 1 [0,0,0,0,0,0,0,0,2,2,0,0,2,0,0,0,0,0] rfl (ds:=[sv r.nm,iv r.kind,iv 0,iv 0,iv r.pf,iv r.pt,Zc r.resp,nz,.fr ((.sl 1 0 [])),.fr ((.sl 1 0 [])),iv (-1),iv (-1),.fr ((.sl 1 0 [])),iv r.pos,Zc r.left,Zc r.right,Zc r.pz,iv r.dir]) (by kernel_rfl) (by kernel_rfl)) ?_
 refine ZaL (W4 1 6 [0,0,0,0,0,0,0,2,0,0,0,0,0,0,0,0,0,0] rfl (ds:=[sv r.nm,iv r.kind,iv 0,iv 0,iv r.pf,iv r.pt,Zc r.resp,.fr ((.sl 6 0 [])),.fr ((.sl 1 0 [])),.fr ((.sl 1 0 [])),iv (-1),iv (-1),.fr ((.sl 1 0 [])),iv r.pos,Zc r.left,Zc r.right,Zc r.pz,iv r.dir]) (by kernel_rfl) (by kernel_rfl)) ?_
 refine Za (oW (oY (kN 42 [(2,.box 98 [sv r.nm,iv r.kind,iv 0,iv 0,iv r.pf,iv r.pt,Zc r.resp,.fr ((.sl 6 0 [])),.fr ((.sl 1 0 [])),.fr ((.sl 1 0 [])),iv (-1),iv (-1),.fr ((.sl 1 0 [])),iv r.pos,Zc r.left,Zc r.right,Zc r.pz,iv r.dir])] [(4,bx 2)] (Zi (YG ?_)))))
 refine Y4 [(2,.box 98 [sv r.nm,iv r.kind,iv 0,iv 0,iv r.pf,iv r.pt,Zc r.resp,.fr ((.sl 6 0 [])),.fr ((.sl 1 0 [])),.fr ((.sl 1 0 [])),iv (-1),iv (-1),.fr ((.sl 1 0 [])),iv r.pos,Zc r.left,Zc r.right,Zc r.pz,iv r.dir])] Tryz.results228 (.cellS rfl rfl U98 rfl (z:=18) (by kernel_rfl) rfl (by decide)) (by kernel_rfl) rfl rfl ?_ ?_
 ·exact KJ (Y := .agg (cRu { r with frm:=0,«to» := 0,gz:=[],ex:=[],fa:=[],send:=[],rd := -1,wr := -1 })) (by kernel_rfl) (Zm (Yg _))
 ·rw [bare_1 hs1];kernel_rfl
 refine Za (oe (dF hs1) (oS bF (jI (Zk ?_))))
 by_cases hs2:r.kind=2
 refine Za (oe (dT hs2) (oS bT (jG (oW (oY (oW (oY (kN 42 [(1,.box 98 [sv r.nm,iv r.kind,iv 0,iv 0,iv 0,iv 0,Zc r.resp,slA 6 cTh r.gz,Zc r.ex,Zc r.fa,iv r.rd,iv r.wr,Zc r.send,iv r.pos,Zc r.left,Zc r.right,Zc r.pz,iv r.dir]),(2,.box 98 [sv (⟨#[]⟩),iv 0,iv 0,iv 0,iv 0,iv 0,nz,nz,nz,nz,iv 0,iv 0,nz,iv 0,nz,nz,nz,iv 0])] Yw (Zi (Za (oW (oY (oW (oY (kN 42 (XOth_h3 r) Yw (ZG (jC (kW 42 (XOth_h3 r) Yw ?_))))))))))))))))))
 refine Za (oW (oY (kN 42 [(2,.box 98 [sv r.nm,iv r.kind,iv 0,iv 0,iv 0,iv 0,Zc r.resp,slA 6 cTh r.gz,Zc r.ex,Zc r.fa,iv (-1),iv (-1),Zc r.send,iv r.pos,Zc r.left,Zc r.right,Zc r.pz,iv r.dir])] [(4,bx 2)] (Zi (YG ?_)))))
 refine Y4 [(2,.box 98 [sv r.nm,iv r.kind,iv 0,iv 0,iv 0,iv 0,Zc r.resp,slA 6 cTh r.gz,Zc r.ex,Zc r.fa,iv (-1),iv (-1),Zc r.send,iv r.pos,Zc r.left,Zc r.right,Zc r.pz,iv r.dir])] Tryz.results228 (.cellS rfl rfl U98 rfl (z:=18) (by kernel_rfl) rfl (by decide)) (by kernel_rfl) rfl rfl ?_ ?_
 ·exact KJ (Y := .agg (cRu { r with frm:=0,«to» := 0,pf:=0,pt:=0,rd := -1,wr := -1 })) (by kernel_rfl) (Zm (Yg _))
 ·rw [bare_2 hs2];kernel_rfl
 refine Za (oe (dF hs2) (oS bF (jI (Zk ?_))))
 by_cases hs3:r.kind=3
 refine Za (oe (dT hs3) (oS bT (jG (oW (oY (kN 42 [(1,.box 98 [sv r.nm,iv r.kind,iv 0,iv 0,iv r.pf,iv r.pt,nz,slA 6 cTh r.gz,Zc r.ex,Zc r.fa,iv r.rd,iv r.wr,Zc r.send,iv r.pos,Zc r.left,Zc r.right,Zc r.pz,iv r.dir]),(2,.box 98 [sv (⟨#[]⟩),iv 0,iv 0,iv 0,iv 0,iv 0,nz,nz,nz,nz,iv 0,iv 0,nz,iv 0,nz,nz,nz,iv 0])] Yw (Zi (Za (oW (oY (oW (oY (kN 42 (XOth_h4 r) Yw (ZG (jC (kW 42 (XOth_h4 r) Yw ?_))))))))))))))))
 refine ZaL (W4 1 1 [0,0,0,0,0,0,2,0,0,0,0,0,0,0,0,0,0,0] rfl (ds:=[sv r.nm,iv r.kind,iv 0,iv 0,iv r.pf,iv r.pt,.fr ((.sl 1 0 [])),slA 6 cTh r.gz,Zc r.ex,Zc r.fa,iv (-1),iv (-1),Zc r.send,iv r.pos,Zc r.left,Zc r.right,Zc r.pz,iv r.dir]) (by kernel_rfl) (by kernel_rfl)) ?_
 refine Za (oW (oY (kN 42 [(2,.box 98 [sv r.nm,iv r.kind,iv 0,iv 0,iv r.pf,iv r.pt,.fr ((.sl 1 0 [])),slA 6 cTh r.gz,Zc r.ex,Zc r.fa,iv (-1),iv (-1),Zc r.send,iv r.pos,Zc r.left,Zc r.right,Zc r.pz,iv r.dir])] [(4,bx 2)] (Zi (YG ?_)))))
 refine Y4 [(2,.box 98 [sv r.nm,iv r.kind,iv 0,iv 0,iv r.pf,iv r.pt,.fr ((.sl 1 0 [])),slA 6 cTh r.gz,Zc r.ex,Zc r.fa,iv (-1),iv (-1),Zc r.send,iv r.pos,Zc r.left,Zc r.right,Zc r.pz,iv r.dir])] Tryz.results228 (.cellS rfl rfl U98 rfl (z:=18) (by kernel_rfl) rfl (by decide)) (by kernel_rfl) rfl rfl ?_ ?_
 ·exact KJ (Y := .agg (cRu { r with frm:=0,«to» := 0,resp:=[],rd := -1,wr := -1 })) (by kernel_rfl) (Zm (Yg _))
 ·rw [bare_3 hs3];kernel_rfl
 refine Za (oe (dF hs3) (oS bF (jI (Zk ?_))))
 by_cases hs4:r.kind=4
 refine Za (oe (dT hs4) (oS bT (jG (oW (oY (oW (oY (oW (oY (kN 42 (Zdg r) [(1,iv top),(2,bx 1),(4,bx 2)] (jC ?_)))))))))))
 by_cases hs5:top=4
 refine Za (oW (oe (dT hs5) (jH (Za (oW (oY (kN 42 (XOth_h6 r) Yw (ZG (jC (kW 42 (XOth_h6 r) Yw ?_))))))))))
 refine ZaL (W4 1 1 [0,0,0,0,0,0,0,0,0,0,0,0,0,0,2,2,2,0] rfl (ds:=[sv r.nm,iv r.kind,iv 0,iv 0,iv r.pf,iv r.pt,Zc r.resp,slA 6 cTh r.gz,Zc r.ex,Zc r.fa,iv r.rd,iv r.wr,Zc r.send,iv 0,.fr ((.sl 1 0 [])),.fr ((.sl 1 0 [])),.fr ((.sl 1 0 [])),iv r.dir]) (by kernel_rfl) (by kernel_rfl)) ?_
 refine Za (oW (oY (kN 42 [(2,.box 98 [sv r.nm,iv r.kind,iv 0,iv 0,iv r.pf,iv r.pt,Zc r.resp,slA 6 cTh r.gz,Zc r.ex,Zc r.fa,iv r.rd,iv r.wr,Zc r.send,iv 0,.fr ((.sl 1 0 [])),.fr ((.sl 1 0 [])),.fr ((.sl 1 0 [])),iv r.dir])] [(4,bx 2)] (Zi (YG ?_)))))
 refine Y4 [(2,.box 98 [sv r.nm,iv r.kind,iv 0,iv 0,iv r.pf,iv r.pt,Zc r.resp,slA 6 cTh r.gz,Zc r.ex,Zc r.fa,iv r.rd,iv r.wr,Zc r.send,iv 0,.fr ((.sl 1 0 [])),.fr ((.sl 1 0 [])),.fr ((.sl 1 0 [])),iv r.dir])] Tryz.results228 (.cellS rfl rfl U98 rfl (z:=18) (by kernel_rfl) rfl (by decide)) (by kernel_rfl) rfl rfl ?_ ?_
 ·exact KJ (Y := .agg (cRu { r with frm:=0,«to» := 0,pos:=0,left:=[],right:=[],pz:=[] })) (by kernel_rfl) (Zm (Yg _))
 ·rw [bare_4t hs4 hs5];kernel_rfl
 refine Za (oW (oe (dF hs5) (kN 42 (Zdg r) [(2,bx 1),(4,bx 2),(34,bF)] (Zi (ZK rfl (Zq (ZG (jC (kW 42 (Zdg r) Yw ?_)))))))))
 refine ZaL (W4 1 1 [0,0,0,0,0,0,0,0,0,0,0,0,0,0,2,2,0,0] rfl (ds:=[sv r.nm,iv r.kind,iv 0,iv 0,iv r.pf,iv r.pt,Zc r.resp,slA 6 cTh r.gz,Zc r.ex,Zc r.fa,iv r.rd,iv r.wr,Zc r.send,iv 0,.fr ((.sl 1 0 [])),.fr ((.sl 1 0 [])),Zc r.pz,iv r.dir]) (by kernel_rfl) (by kernel_rfl)) ?_
 refine Za (oW (oY (kN 42 [(2,.box 98 [sv r.nm,iv r.kind,iv 0,iv 0,iv r.pf,iv r.pt,Zc r.resp,slA 6 cTh r.gz,Zc r.ex,Zc r.fa,iv r.rd,iv r.wr,Zc r.send,iv 0,.fr ((.sl 1 0 [])),.fr ((.sl 1 0 [])),Zc r.pz,iv r.dir])] [(4,bx 2)] (Zi (YG ?_)))))
 refine Y4 [(2,.box 98 [sv r.nm,iv r.kind,iv 0,iv 0,iv r.pf,iv r.pt,Zc r.resp,slA 6 cTh r.gz,Zc r.ex,Zc r.fa,iv r.rd,iv r.wr,Zc r.send,iv 0,.fr ((.sl 1 0 [])),.fr ((.sl 1 0 [])),Zc r.pz,iv r.dir])] Tryz.results228 (.cellS rfl rfl U98 rfl (z:=18) (by kernel_rfl) rfl (by decide)) (by kernel_rfl) rfl rfl ?_ ?_
 ·exact KJ (Y := .agg (cRu { r with frm:=0,«to» := 0,pos:=0,left:=[],right:=[] })) (by kernel_rfl) (Zm (Yg _))
 ·rw [bare_4n hs4 hs5];kernel_rfl
 refine Za (oe (dF hs4) (oS bF (jI (jB (oC (ZM rfl (dT (by omega))) I0 I0 (oS bT (jH (Za (oW (oY (oW (oY (oW (oY (kN 42 (XOth_h7 r) Yw (ZG (jC ?_)))))))))))))))))
 refine kW 42 (XOth_h7 r) Yw (Za (oW (oY (kN 42 [(2,.box 98 [sv r.nm,iv r.kind,iv 0,iv 0,iv 0,iv 0,Zc r.resp,slA 6 cTh r.gz,Zc r.ex,Zc r.fa,iv r.rd,iv r.wr,Zc r.send,iv r.pos,Zc r.left,Zc r.right,Zc r.pz,iv 0])] [(4,bx 2)] (Zi (YG ?_))))))
 refine Y4 [(2,.box 98 [sv r.nm,iv r.kind,iv 0,iv 0,iv 0,iv 0,Zc r.resp,slA 6 cTh r.gz,Zc r.ex,Zc r.fa,iv r.rd,iv r.wr,Zc r.send,iv r.pos,Zc r.left,Zc r.right,Zc r.pz,iv 0])] Tryz.results228 (.cellS rfl rfl U98 rfl (z:=18) (by kernel_rfl) rfl (by decide)) (by kernel_rfl) rfl rfl ?_ ?_
 ·exact KJ (Y := .agg (cRu { r with frm:=0,«to» := 0,pf:=0,pt:=0,dir:=0 })) (by kernel_rfl) (Zm (Yg _))
 rw [bare_5 (by omega)];kernel_rfl
theorem plainR_el (lo:Nat) (w:World) (kind:Int) (h:I64 kind):RuEl lo w [.string ⟨#[]⟩,.int .i64 kind,.int .i64 0,.int .i64 0,.int .i64 0,.int .i64 0,.slice none 0 0,.slice none 0 0,.slice none 0 0,.slice none 0 0,.int .i64 (-1),.int .i64 (-1),.slice none 0 0,.int .i64 0,.slice none 0 0,.slice none 0 0,.slice none 0 0,.int .i64 0] (plainR kind) :=
 ⟨_,_,_,_,_,_,_,_,rfl,by show (⟨#[]⟩:ByteArray).size≤maxLen;simp [ByteArray.size,maxLen],h,YI,YI,YI,YI,Ki _ _,ths_nil _ _,Ki _ _,Ki _ _,WO,WO,Ki _ _,YI,Ki _ _,Ki _ _,Ki _ _,YI⟩
variable {lo:Nat}{w:World}
theorem th_puo {F ok:Nat→Prop} (g:Th) (vs:List Value) (h:ThEl lo w vs g):∀ j (hj:j<(cTh g).length),Pu F w ok (cTh g)[j] (vs.getD j undef):=by
 obtain ⟨rfl,_⟩:=h
 intro j hj
 match j,hj with
 | 0,_=>exact .v _
 | 1,_=>exact .v _
 | 2,_=>exact .v _
 | 3,_=>exact .v _
 | 4,_=>exact .v _
 | 5,_=>exact .v _
theorem ru_puo {F ok:Nat→Prop} (hok:∀ b,lo≤b→b<w.heap.size→ok b) (r:Ru) (vs:List Value) (h:RuEl lo w vs r):∀ j (hj:j<(cRu r).length),Pu F w ok (cRu r)[j] (vs.getD j undef):=by
 obtain ⟨v6,v7,v8,v9,v12,v14,v15,v16,rfl,h0,h1,h2,h3,h4,h5,h6,h7,h8,h9,h10,h11,h12,h13,h14,h15,h16,h17⟩:=h
 intro j hj
 match j,hj with
 | 0,_=>exact .v _
 | 1,_=>exact .v _
 | 2,_=>exact .v _
 | 3,_=>exact .v _
 | 4,_=>exact .v _
 | 5,_=>exact .v _
 | 6,_=>exact Y2 hok h6
 | 7,_=>exact sl_pu lenTh hok th_puo h7
 | 8,_=>exact Y2 hok h8
 | 9,_=>exact Y2 hok h9
 | 10,_=>exact .v _
 | 11,_=>exact .v _
 | 12,_=>exact Y2 hok h12
 | 13,_=>exact .v _
 | 14,_=>exact Y2 hok h14
 | 15,_=>exact Y2 hok h15
 | 16,_=>exact Y2 hok h16
 | 17,_=>exact .v _
 | j+18,hj=>exact absurd hj (by rw [lenRu];omega)
theorem samePl_c {r s:Ru} (hr:RuOk r) (hs:RuOk s):Ctr Tryz.prog J 227 [.agg (cRu s),.agg [sv (⟨#[]⟩),iv r.kind,iv 0,iv 0,iv 0,iv 0,nz,nz,nz,nz,iv (-1),iv (-1),nz,iv 0,nz,nz,nz,iv 0]] (bv (samP s (plainR r.kind))):=ctr2 fun w v v' _ h h'=>by
 obtain ⟨us,rfl,hl',hu⟩:=KE h'
 have e:=cells18 hl'
 rw [(hu 0 (by show 0<18;omega)).v_inv,(hu 1 (by show 1<18;omega)).v_inv,(hu 2 (by show 2<18;omega)).v_inv,(hu 3 (by show 3<18;omega)).v_inv,(hu 4 (by show 4<18;omega)).v_inv,(hu 5 (by show 5<18;omega)).v_inv,(hu 6 (by show 6<18;omega)).v_inv,(hu 7 (by show 7<18;omega)).v_inv,(hu 8 (by show 8<18;omega)).v_inv,(hu 9 (by show 9<18;omega)).v_inv,(hu 10 (by show 10<18;omega)).v_inv,(hu 11 (by show 11<18;omega)).v_inv,(hu 12 (by show 12<18;omega)).v_inv,(hu 13 (by show 13<18;omega)).v_inv,(hu 14 (by show 14<18;omega)).v_inv,(hu 15 (by show 15<18;omega)).v_inv,(hu 16 (by show 16<18;omega)).v_inv,(hu 17 (by show 17<18;omega)).v_inv] at e
 have hp:RuEl 0 w us (plainR r.kind):=by rw [e];exact plainR_el 0 w r.kind hr.kind
 exact ZcL (J:=fun _=>True) hs hp.ok w #[v,.agg us.toArray] (fun _ _=>T0) rfl fun j hj=>(match j,hj with
  | 0,_=>h
  | 1,_ => .agg (by rw [lenRu];simpa using hl') fun j hj=>by have:=ru_puo (F:=fun _=>True) (ok:=fun b=>b<w.heap.size) (fun _ _ hb=>hb) (plainR r.kind) us hp j hj;simpa [List.getD_eq_getElem?_getD] using this)
theorem Wi (hk:r.kind=1∨r.kind=2∨r.kind=3∨r.kind=4∨r.kind=5) (HR:RuOk r):Ctr Tryz.prog J 199 [.agg (cRu r),iv top] (bv (othB r top)):=by
 refine Zn Tryz.func199 rfl (pN (Zm (Yg r)) (pN (.v _) pZ)) (n:=12) rfl (by simp) (fun w0 => ?_)
 refine kW 12 [] [(0,.agg (cRu r)),(1,iv top)] (jB (oA (sp_boxR (X := .agg (cRu r)) (.tmp 0) rfl rfl rfl) I0 (oS bF (jD ?_))))
 refine tD (dA (ZW (z:=18) (.tmp 2) rfl U98 rfl (by kernel_rfl) rfl rfl) I0 (dS (iv top) (dD (sp_callA (c := .func 228) (xs := #[.tmp 5,.tmp 6]) (Zbb hk) rfl (by kernel_rfl) rfl (Xs:=[.agg (cRu r),iv top]) rfl rfl) I0 I0 I0 (dW (dS (iv r.kind) (dD (KQ [(.tmp 9,.int .i64 r.kind),(.const (.int .i64 (-1)),.int .i64 (-1)),(.const (.int .i64 (-1)),.int .i64 (-1))] #[.string (⟨#[]⟩),.int .i64 r.kind,.int .i64 0,.int .i64 0,.int .i64 0,.int .i64 0,.slice none 0 0,.slice none 0 0,.slice none 0 0,.slice none 0 0,.int .i64 (-1),.int .i64 (-1),.slice none 0 0,.int .i64 0,.slice none 0 0,.slice none 0 0,.slice none 0 0,.int .i64 0] rfl rfl (by kernel_rfl) rfl) I0 I0 I0 (dk (samePl_c HR (bareOk hk HR)) [.agg (cRu (bare r top)),.agg [sv (⟨#[]⟩),iv r.kind,iv 0,iv 0,iv 0,iv 0,nz,nz,nz,nz,iv (-1),iv (-1),nz,iv 0,nz,nz,nz,iv 0]] rfl rfl (dS (bv (samP (bare r top) (plainR r.kind))) (eD ?_)))))))))
 refine Zi (YG ?_)
 refine Zd Tryz.results199 (.tmp rfl) ?_
 exact rfl
end Go.Proofs.YthefecaefbeidaaGreat
namespace Go.Proofs.YthefecaefbeidaaGreat
end Go.Proofs.YthefecaefbeidaaGreat
namespace Go.Proofs.YthefecaefbeidaaGreat
open Go.RowKit Go.Deep
def orL:List Int→Int
 | []=>0
 | x::xs=>if x=0 then orL xs else x
set_option maxHeartbeats 12800000
theorem OrE_full (b off n cap:Nat) (w:World) (xs:List Int) (hx:xs.length=n) (hn:n≤9223372036854775807)
 (hc:∀ i,i<n→w.cell? ⟨b,off+i,none⟩=some (.int .i64 (xs.getD i 0))) :
 Calls Tryz.prog 66 #[.slice (some ⟨b,off,none⟩) n cap] w fun e w'=>e = .returned (.int .i64 (orL xs))∧w=w':=by
 have HC:=Lib.hid hc
 have HX:=Lib.hid hx
 clear hc hx
 go_enter Tryz.func66,Tryz.ntmps66
 go_wp2_with fail
 go_loop [8] (fun u=>∃ k:Nat,k≤n∧u = .int .i64 k∧orL (xs.drop k)=orL xs) (fun u=>n-(intOf u).toNat)
 case atStart=>exact ⟨0,Nat.zero_le _,rfl,rfl⟩
 case round =>
  obtain ⟨k,hk,rfl,hs⟩:=hrel
  have HS:=Lib.hid hs
  clear hs
  by_cases hlt:k<n
  ·have g1:=HC.out k hlt
   have HD:=Lib.hid (show orL (xs.drop k)=if xs.getD k 0=0 then orL (xs.drop (k+1)) else xs.getD k 0 by
    have hd:xs.drop k=xs[k]'(by rw [HX.out];exact hlt)::xs.drop (k+1):=List.drop_eq_getElem_cons _
    rw [hd,orL,show xs.getD k 0=xs[k]'(by rw [HX.out];exact hlt) by simp [List.getD,List.getElem?_eq_getElem (show k<xs.length by rw [HX.out];exact hlt)]])
   generalize hX:xs.getD k 0=x at g1 HD
   clear hX
   by_cases x0:x=0
   ·subst x0
    go_wp2_with fail
    go_round
    case rel=>exact ⟨k+1,by omega,by go_num,by rw [← HS.out,HD.out,if_pos rfl]⟩
    case measure=>simp [intOf];omega
   have x3:(x != 0)=true:=by simpa using x0
   have XX:=Lib.hid x0
   clear x0
   go_wp2_with fail
   go_ret
   exact ⟨Zt (by rw [← HS.out,HD.out,if_neg XX.out]),rfl⟩
  have HE:=Lib.hid (show orL xs=0 by rw [← HS.out,List.drop_eq_nil_of_le (by rw [HX.out];omega),orL])
  go_wp2_with fail
  go_ret
  exact ⟨Zt (by rw [HE.out]),rfl⟩
variable {w:World}{g n:Nat}
theorem Wu {t:TypeId} {cs:Array Value} (xs:List Int) (hg:w.heap[g]? = some (.cells cs t (0,0))) (hcs:cs=(xs.map (Value.int .i64)).toArray) (hn:n=xs.length) (hb:n≤1000) :
 Calls Tryz.prog 66 #[.slice (some ⟨g,0,none⟩) n n] w fun e w'=>e = .returned (.int .i64 (orL xs))∧w=w' :=
 OrE_full g 0 n n w xs hn.symm (by omega) fun i hi=>by
  subst hcs hn
  simp [World.cell?,hg,hi]
theorem orL_or (a:Int) (xs:List Int):orL (a::xs)=orE a (orL xs):=rfl
variable {lo:Nat}{cs:List Value}{r:Ru}
theorem ZbW (h:RuEl lo w cs r):∃ v6 v7 v8 v9 v12 v14 v15 v16,cs=[.string r.nm,.int .i64 r.kind,.int .i64 r.frm,.int .i64 r.to,.int .i64 r.pf,.int .i64 r.pt,v6,v7,v8,v9,.int .i64 r.rd,.int .i64 r.wr,v12,.int .i64 r.pos,v14,v15,v16,.int .i64 r.dir] ∧
 IsInts lo w v6 r.resp∧IsSl 6 ThEl lo w v7 r.gz∧IsInts lo w v8 r.ex∧IsInts lo w v9 r.fa∧IsInts lo w v12 r.send∧IsInts lo w v14 r.left∧IsInts lo w v15 r.right∧IsInts lo w v16 r.pz:=by
 obtain ⟨v6,v7,v8,v9,v12,v14,v15,v16,rfl,h0,h1,h2,h3,h4,h5,h6,h7,h8,h9,h10,h11,h12,h13,h14,h15,h16,h17⟩:=h
 exact ⟨v6,v7,v8,v9,v12,v14,v15,v16,rfl,h6,h7,h8,h9,h12,h14,h15,h16⟩
def up (f:Nat→Int) (i:Nat) (v:Int):Nat→Int:=fun j=>if j=i then v else f j
theorem up_same (f:Nat→Int) (i:Nat) (v:Int):up f i v i=v:=by simp [up]
variable {i j:Nat}
theorem up_ne (f:Nat→Int) (v:Int) (h:j≠i):up f i v j=f j:=by simp [up,h]
def OwnF (lo:Nat) (w:World) (g m:Nat) (f:Nat→Int):Prop :=
 lo≤g∧∃ cur t,w.heap[g]? = some (.cells cur t (0,0))∧∀ j,j<m→cur[j]? = some (.int .i64 (f j))
variable {m:Nat}
theorem OwnF.lt {f:Nat→Int} (h:OwnF lo w g m f):g<w.heap.size:=by
 obtain ⟨_,cur,t,hg,_⟩:=h;exact (Array.getElem?_eq_some_iff.1 hg).1
theorem OwnF.cell {lo:Nat} {w:World} {g m:Nat} {f:Nat→Int} (h:OwnF lo w g m f) (j:Nat) (hj:j<m):w.cell? ⟨g,j,none⟩=some (.int .i64 (f j)):=by
 obtain ⟨_,cur,t,hg,hc⟩:=h
 have:=hc j hj
 simp only [World.cell?,hg]
 simpa using this
theorem OwnF.frozen {lo:Nat} {w:World} {g m:Nat} {f:Nat→Int} (h:OwnF lo w g m f) (j:Nat):w.frozen? ⟨g,j,none⟩=false:=by
 obtain ⟨_,cur,t,hg,hc⟩:=h
 simp [World.frozen?,hg]
variable {w':World}
theorem OwnF.but {f:Nat→Int} (h:OwnF lo w g m f) (hb:w'.heap[g]? = w.heap[g]?):OwnF lo w' g m f:=by
 obtain ⟨h1,cur,t,hg,hc⟩:=h;exact ⟨h1,cur,t,by rw [hb];exact hg,hc⟩
theorem OwnF.below {f:Nat→Int} (h:OwnF lo w g m f) (hb:Below w.heap.size w w'):OwnF lo w' g m f:=h.but (hb.block g h.lt)
theorem OwnF.set {f:Nat→Int} (h:OwnF lo w g m f) (i:Nat) (v:Int):OwnF lo (w.setCell ⟨g,i,none⟩ (.int .i64 v)) g m (up f i v):=by
 obtain ⟨h1,cur,t,hg,hc⟩:=h
 refine ⟨h1,cur.setIfInBounds i (.int .i64 v),t,heap_setCell_same w g i cur t _ hg,fun j hj => ?_⟩
 have hcj:=hc j hj
 have hjc:j<cur.size:=(Array.getElem?_eq_some_iff.1 hcj).1
 by_cases e:i=j
 ·subst e
  rw [up_same]
  simp [hjc]
 rw [Array.getElem?_setIfInBounds_ne e,hcj,up_ne _ _ (Ne.symm e)]
theorem OwnF.grown {f:Nat→Int} {r:Option Nat} (h:OwnF lo w g m f) (hg:w.grownBy w' r) (hr:r≠some g):OwnF lo w' g m f :=
 h.but (hg.block g h.lt (Ne.symm hr))
structure ElT (P:Program) (T E:TypeId) (z:Value) (size bytes:Nat):Prop where
 ht:P.underlying T=some (.slice E)
 info:(P.info? E).map (fun i=>(i.zero,i.size,i.bytes))=some (some z,size,bytes)
 hz:z.cells.size=size
 h0:0<size
theorem Za7 {P:Program} {T E:TypeId} {z:Value} {size bytes:Nat} (K:ElT P T E z size bytes) {W:World} {ops:Array Oper} {rest:List Oper} {o:Oper} {a:Act} {Q:Exit→Act→World→Prop}
 (hgd:o.guard=none) (s x:Operand) (ho:o.op = .call { callee := .builtin .append,args := #[s,x],argTypes := #[T,T] })
 (base:Nat) (v:Value) (n:Nat) (xs news:List Value) (Hn:Nat) (hs:a.eval s=v) (hx:a.eval x = .slice (some ⟨Hn,0,none⟩) 1 1) (hH:W.heap.size=Hn) (hown:W.ownsRow base E size v n xs)
 (hl:news.length=size) (h1:∀ u∈news,u.oneCell'=true) (hn:(n+1)*bytes≤140737488355328) (h63:n+1≤maxLen) (hbase:base≤Hn) {B:Array Value} (hB:B=news.toArray)
 (h:∀ g cap w',w'.ownsRow base E size (.slice (some ⟨g,0,none⟩) (n+1) cap) (n+1) (xs++news)→W.grownBy w' v.ownBlock→(v.ownBlock=some g∨Hn<g)→base≤g→g<w'.heap.size→Hn<w'.heap.size→wpList P ops Q rest (a.put o.dst (.slice (some ⟨g,0,none⟩) (n+1) cap)) w') :
 wpList P ops Q (o::rest) a (W.alloc (.cells B E)):=by
 subst hB hH
 obtain ⟨i,hi,hzz⟩:=Option.map_eq_some_iff.1 K.info
 simp only [Prod.mk.injEq] at hzz
 obtain ⟨hz,hsz,hby⟩:=hzz
 refine wpList_append_lies (W.alloc (.cells news.toArray E)) hgd s x T ho base E i z size bytes K.ht hi hz hsz hby K.hz K.h0 v n xs hs (hown.alloc _) ⟨W.heap.size,0,none⟩ 1 1 news hx (by omega)
  (World.news_of_block (heap_alloc_new _ _)) h1 (by decide) h63 hn (by simp;omega) (W.heap.size+1) (by simp) fun g cap w' g1 g2 g3 g4 => ?_
 have hgr:W.grownBy w' v.ownBlock:=by
  have ha:=World.grownBy_alloc W (.cells news.toArray E) v.ownBlock
  exact ⟨g2.os.trans ha.os,g2.tape.trans ha.tape,g2.output.trans ha.output,Nat.le_trans ha.size g2.size,fun k hk hne=>(g2.block k (by simp;omega) hne).trans (ha.block k hk hne)⟩
 refine h g cap w' g1 hgr ?_ ?_ g4 (by have:=g2.size;simp at this;omega)
 ·rcases g3 with g3 | g3
  ·exact .inl g3
  exact .inr (by omega)
 rcases g3 with g3 | g3
 ·exact (hown.lt g g3).1
 omega
variable {size:Nat}{v:Value}
theorem KH {base:Nat} {e:TypeId} {xs:List Value} (h:w.ownsRow base e size v n xs):∃ a c,v = .slice a n c:=by
 rcases h.2 with ⟨rfl,rfl⟩ | ⟨g,cap,_,rfl,_⟩
 ·exact ⟨_,_,rfl⟩
 exact ⟨_,_,rfl⟩
def thC (g:Th):List Value:=[.int .i64 g.msg,.int .i64 g.coef,.int .i64 g.bd.c,.int .i64 g.bd.n,.int .i64 g.bd.t,.int .i64 g.bd.f]
def thI (g:Th):Prop:=I64 g.msg∧I64 g.coef∧I64 g.bd.c∧I64 g.bd.n∧I64 g.bd.t∧I64 g.bd.f
theorem flat_get:∀ (l:List Th) (i:Nat) (hi:i<l.length) (j:Nat),j<6→(l.flatMap thC)[i*6+j]? = (thC l[i])[j]?
 | [],i,hi,_,_=>absurd hi (by simp)
 | x::xs,0,_,j,hj=>by
   rw [List.flatMap_cons,List.getElem?_append_left (by simp [thC];omega)]
   simp
 | x::xs,i+1,hi,j,hj=>by
   rw [List.flatMap_cons,List.getElem?_append_right (by simp [thC];omega),show (i+1)*6+j-(thC x).length=i*6+j by simp [thC];omega]
   exact flat_get xs i (by simpa using hi) j hj
def OwnTh (lo:Nat) (w:World) (v:Value) (l:List Th):Prop:=w.ownsRow lo 210 6 v l.length (l.flatMap thC)∧∀ g∈l,thI g
theorem OwnTh.nil (lo:Nat) (w:World):OwnTh lo w (.slice none 0 0) []:=⟨World.ownsRow_nil _ _ _ _,by simp⟩
variable {l:List Th}
theorem OwnTh.still (h:OwnTh lo w v l) (hb:Below w.heap.size w w'):OwnTh lo w' v l:=⟨row_still h.1 hb,h.2⟩
theorem OwnTh.sl (h:OwnTh lo w v l):IsSl 6 ThEl lo w v l:=by
 obtain ⟨⟨hl,h2⟩,hI⟩:=h
 rcases h2 with ⟨rfl,h0⟩ | ⟨g,cap,cur,rfl,hb,hg,hn,hm,hc,ht⟩
 ·exact ⟨none,0,by rw [h0],by omega,by simp [maxLen],fun _=>rfl,.inl (List.eq_nil_of_length_eq_zero h0)⟩
 refine ⟨_,_,rfl,hn,hm,by simp,.inr ⟨g,0,rfl,hb,(Array.getElem?_eq_some_iff.1 hg).1,fun i hi=>⟨thC l[i],rfl,fun j hj => ?_,rfl,hI _ (List.getElem_mem hi)⟩⟩⟩
 have hcell:w.cell? ⟨g,0+i*6+j,none⟩=cur[i*6+j]? := by
  simp only [World.cell?,hg];simp
 rw [hcell,← Array.getElem?_toList,show cur.toList[i*6+j]? = (cur.toList.take (l.length*6))[i*6+j]? by rw [List.getElem?_take_of_lt (by omega)],ht]
 exact flat_get l i hi j hj
theorem elTh:ElT Tryz.prog 96 210 (.agg #[.int .i64 0,.int .i64 0,.int .i64 0,.int .i64 0,.int .i64 0,.int .i64 0]) 6 48:=⟨Tryz.underlying96,by kernel_rfl,rfl,by decide⟩
theorem Zbt:(Tryz.prog.info? 210).map (·.size)=some 6:=by kernel_rfl
theorem Za1 {gs l0:List Th} (h:j<gs.length):(gs.take (j+1)).foldl addT l0=addT ((gs.take j).foldl addT l0) gs[j]:=by
 rw [List.take_succ_eq_append_getElem h,List.foldl_append];rfl
variable {rs:List Ru}
theorem Za5 (h:i<rs.length):diffG (rs.take (i+1))=rs[i].gz.foldl addT (diffG (rs.take i)):=by
 unfold diffG;rw [List.take_succ_eq_append_getElem h,List.foldl_append];rfl
theorem Z5 (h:IsSl 18 RuEl lo w v rs) (h8:rs.length≤8) (h2:∀ r∈rs,r.gz.length≤2) :
 Calls Tryz.prog 162 #[v] w fun e w'=>∃ v',e = .returned v'∧OwnTh w.heap.size w' v' (diffG rs)∧Below w.heap.size w w':=by
 have H:=Lib.hid h
 have H2:=Lib.hid h2
 rcases YL h with ⟨rfl,a,c,rfl⟩ | ⟨b,off,c,rfl,hbw,_⟩
 ·clear h
  go_enter Tryz.func162,Tryz.ntmps162
  go_wp2_with fail
  refine wp_loop_rounds 1 ?_
  rw [rounds_succ]
  go_wp2_with fail
  go_ret
  exact ⟨_,rfl,OwnTh.nil _ _,Below.refl _ _⟩
 generalize hN:rs.length=n at h8
 have HN:=Lib.hid hN
 rw [hN] at H
 clear h h2 hN
 go_enter Tryz.func162,Tryz.ntmps162
 go_wp2_with fail
 go_loopw [3,10] (fun v u wr=>∃ (i:Nat) (a:Option Addr) (c:Nat) (l:List Th),i≤n∧u = .int .i64 i∧v = .slice a l.length c∧l=diffG (rs.take i)∧l.length≤2*i∧OwnTh w.heap.size wr (.slice a l.length c) l∧Below w.heap.size w wr) (fun _ u _=>n-(intOf u).toNat)
 case atStart=>exact ⟨0,none,0,[],Nat.zero_le _,rfl,rfl,rfl,by simp,OwnTh.nil _ _,Below.refl _ _⟩
 case round =>
  obtain ⟨i,a,ca,l,hi,rfl,rfl,hl,hlen,hO,hB⟩:=hrel
  have HO:=Lib.hid hO
  have HB:=Lib.hid hB
  have HLI:=Lib.hid hl
  clear hO hB hl
  by_cases h1:i<n
  ·have hix:i<rs.length:=by rw [HN.out];exact h1
   obtain ⟨b',off',cs,hab,_,_,hcl,hcc,hel⟩:=H.out.at i hix
   cases hab
   have HL:=Lib.hid hcl
   obtain ⟨-,-,-,-,-,pc⟩:=ZaR hel
   have PC:=Lib.hid pc
   have R1:=Lib.hid (rangeBelow (rangeOf hcl hcc) HB.out)
   obtain ⟨_,u7,_,_,_,_,_,_,hcs,_,k7,_⟩:=ZbW hel
   have p7:cs[7]? = some u7:=by rw [hcs];rfl
   obtain ⟨a7,c7,rfl⟩:=k7.shape
   have P7:=Lib.hid p7
   have hg2:rs[i].gz.length≤2:=H2.out _ (List.getElem_mem hix)
   have DS:=Lib.hid (Za5 hix)
   generalize rs[i].gz=gs at k7 P7 hg2 DS
   have K7:=Lib.hid k7
   clear hcl hcc hel pc hcs p7 k7
   go_upto_region 4 with (fail)
   refine wp_region_lit ?_
   refine wpList_step fun K hK => ?_
   go_simp
   refine hK _ _ ?_
   clear hK K
   refine ZaZ Tryz.underlying98 Y9 (by rfl) (.tmp 12) (by rfl) b (off+i*18) cs (by rfl) HL.out R1.out ?_
   refine wpList_step fun K hK => ?_
   go_simp
   refine hK _ _ ?_
   clear hK K
   refine Yr (T:=98) Y9 (by rfl) (.tmp 5) (.tmp 13) (by rfl) wr.heap.size cs (by rfl) (by rfl) HL.out (Yp _ _ rfl) (by rfl) PC.out (fun Z hZ hbl hsz _ => ?_)
   have ZB:=Lib.hid (show Below w.heap.size w Z from hbl _ _ HB.out.size (HB.out.trans ((Ze wr _).mono HB.out.size)))
   have ZR:=Lib.hid (show Below wr.heap.size wr Z from hbl _ _ (Nat.le_refl _) (Ze wr _))
   have z7:Z.cell? ⟨wr.heap.size,7,none⟩=some (.slice a7 gs.length c7):=Zv hZ 7 (by simpa using P7.out)
   have ZO:=Lib.hid (HO.out.still ZR.out)
   clear hZ hbl hsz ZR
   refine wpList_nil ?_
   simp only [Act.put]
   generalize hM:gs.length=m at z7 hg2
   have HM:=Lib.hid hM
   rw [hM] at K7
   clear hM
   go_wp2_with fail
   go_loopw [3,17] (fun v u wr'=>∃ (j:Nat) (a:Option Addr) (c:Nat) (l':List Th),j≤m∧u = .int .i64 j∧v = .slice a l'.length c∧l'=(gs.take j).foldl addT l∧l'.length≤l.length+j∧OwnTh w.heap.size wr' (.slice a l'.length c) l'∧Below w.heap.size w wr') (fun _ u _=>m-(intOf u).toNat)
   case atStart=>exact ⟨0,a,ca,l,Nat.zero_le _,rfl,rfl,rfl,Nat.le_refl _,ZO.out,ZB.out⟩
   case round =>
    obtain ⟨j,aj,cj,l',hj,rfl,rfl,hl',hlen',hOj,hBj⟩:=hrel
    have HOj:=Lib.hid hOj
    have HBj:=Lib.hid hBj
    have HLJ:=Lib.hid hl'
    clear hOj hBj hl'
    by_cases hjm:j<m
    ·have hjx:j<gs.length:=by rw [HM.out];exact hjm
     obtain ⟨bg,og,csg,hag,_,hbgw,hcl,hcc,hel⟩:=K7.out.at j hjx
     have hbg2:=hbgw
     cases hag
     obtain ⟨hel1,hI⟩:csg=thC gs[j]∧thI gs[j]:=hel
     have HI:=Lib.hid hI
     have RG:=Lib.hid (rangeBelow (rangeOf hcl hcc) HBj.out)
     have IS:=Lib.hid (Za1 (l0:=l) hjx)
     rw [hel1] at RG
     clear hel1 hcl hcc hI
     generalize gs[j]=x at RG HI IS
     go_upto_region 7 with (fail)
     refine wp_region_lit ?_
     refine wpList_step fun K hK => ?_
     go_simp
     refine hK _ _ ?_
     clear hK K
     refine ZaZ Tryz.underlying210 Zbt (by rfl) (.tmp 19) (by rfl) bg (og+j*6) (thC x) (by rfl) (by rfl) RG.out ?_
     refine wpList_step fun K hK => ?_
     go_simp
     refine hK _ _ ?_
     clear hK K
     obtain ⟨X,hX⟩:∃ X:World,X=wr:=⟨_,rfl⟩
     rw [← hX] at HOj HBj ⊢
     clear hX
     refine Yr (T:=210) Zbt (by rfl) (.tmp 7) (.tmp 20) (by rfl) X.heap.size (thC x) (by rfl) (by rfl) (by rfl) (Yp _ _ rfl) (by rfl) (by intro v hv;simp [thC] at hv;rcases hv with rfl | rfl | rfl | rfl | rfl | rfl<;>rfl) (fun Y hY hbl hsz _ => ?_)
     have YB:=Lib.hid (show Below w.heap.size w Y from hbl _ _ HBj.out.size (HBj.out.trans ((Ze X _).mono HBj.out.size)))
     have YR:=Lib.hid (show Below X.heap.size X Y from hbl _ _ (Nat.le_refl _) (Ze X _))
     have y0:Y.cell? ⟨X.heap.size,0,none⟩=some (.int .i64 x.msg):=Zv hY 0 (by rfl)
     have y1:Y.cell? ⟨X.heap.size,1,none⟩=some (.int .i64 x.coef):=Zv hY 1 (by rfl)
     have y2:Y.cell? ⟨X.heap.size,2,none⟩=some (.int .i64 x.bd.c):=Zv hY 2 (by rfl)
     have y3:Y.cell? ⟨X.heap.size,3,none⟩=some (.int .i64 x.bd.n):=Zv hY 3 (by rfl)
     have y4:Y.cell? ⟨X.heap.size,4,none⟩=some (.int .i64 x.bd.t):=Zv hY 4 (by rfl)
     have y5:Y.cell? ⟨X.heap.size,5,none⟩=some (.int .i64 x.bd.f):=Zv hY 5 (by rfl)
     have YO:=Lib.hid (HOj.out.still YR.out)
     have hYs:X.heap.size<Y.heap.size:=by rw [hsz];simp
     have HYS:=Lib.hid hYs
     clear hY hbl hsz YR RG
     refine wpList_nil ?_
     simp only [Act.put]
     by_cases hin:x∈l'
     ·have hd:decide (x∈l')=true:=decide_eq_true hin
      have HD:=Lib.hid hd
      have HADD:=Lib.hid (show addT l' x=l' from if_pos hin)
      clear hin hd
      go_wp2_with (go_at_call 202;(with_reducible refine (KT x.msg x.coef x.bd.c x.bd.n x.bd.t x.bd.f YO.out.sl).mono ?_);rw [HD.out];rintro e w2 ⟨rfl,hb2⟩;have HB2:=Lib.hid hb2;clear hb2)
      go_roundw
      case rel=>exact ⟨j+1,aj,cj,l',by omega,by go_num,rfl,by rw [IS.out,← HLJ.out,HADD.out],by omega,YO.out.still HB2.out,Zf YB.out HB2.out⟩
      case measure=>simp [intOf];omega
     have hd:decide (x∈l')=false:=decide_eq_false hin
     have HD:=Lib.hid hd
     have HADD:=Lib.hid (show addT l' x=l'++[x] from if_neg hin)
     clear hin hd
     go_wp2_with (first | (go_at_call 202;(with_reducible refine (KT x.msg x.coef x.bd.c x.bd.n x.bd.t x.bd.f YO.out.sl).mono ?_);rw [HD.out];rintro e w2 ⟨rfl,hb2⟩;have HB2:=Lib.hid hb2;have HO2:=Lib.hid (YO.out.still hb2);have h20:=keep1 y0 hb2;have h21:=keep1 y1 hb2;have h22:=keep1 y2 hb2;have h23:=keep1 y3 hb2;have h24:=keep1 y4 hb2;have h25:=keep1 y5 hb2;clear hb2) | (at_builtin;refine Za7 elTh (by rfl) (.tmp 25) (.tmp 27) (by rfl) w.heap.size _ l'.length _ (thC x) w2.heap.size (by rfl) (by rfl) (by rfl) HO2.out.1 (by rfl) (by intro v hv;simp [thC] at hv;rcases hv with rfl | rfl | rfl | rfl | rfl | rfl<;>rfl) (by omega) (by unfold maxLen;omega) ((Zf YB.out HB2.out).size) (by rfl) ?_;intro g cap w3 hown hgrow hat hlo hlt hsz))
     go_roundw
     case rel =>
      refine ⟨j+1,some ⟨g,0,none⟩,cap,l'++[x],by omega,by go_num,by simp,by rw [IS.out,← HLJ.out,HADD.out],by simp;omega,⟨?_,?_⟩,?_⟩
      ·rw [List.length_append,List.flatMap_append];simpa using hown
      ·intro y hy
       rcases List.mem_append.1 hy with hy | hy
       ·exact HO2.out.2 y hy
       rw [List.mem_singleton.1 hy];exact HI.out
      exact (Zf YB.out HB2.out).grown hgrow (Zf YB.out HB2.out).size (Zaj HO2.out.1)
     case measure=>simp [intOf];omega
    obtain rfl:j=m:=by omega
    go_wp2_with fail
    go_roundw
    case rel =>
     have e2:l'=diffG (rs.take (i+1)):=by rw [HLJ.out,DS.out,List.take_of_length_le (by rw [HM.out];exact Nat.le_refl _),HLI.out]
     exact ⟨i+1,aj,cj,l',by omega,by go_num,rfl,e2,by omega,HOj.out,HBj.out⟩
    case measure=>simp [intOf];omega
  obtain rfl:i=n:=by omega
  go_wp2_with fail
  go_ret
  have e2:diffG (rs.take i)=diffG rs:=by rw [List.take_of_length_le (by rw [HN.out];exact Nat.le_refl _)]
  exact ⟨_,rfl,by rw [← e2,← HLI.out];exact HO.out,HB.out⟩
end Go.Proofs.YthefecaefbeidaaGreat
