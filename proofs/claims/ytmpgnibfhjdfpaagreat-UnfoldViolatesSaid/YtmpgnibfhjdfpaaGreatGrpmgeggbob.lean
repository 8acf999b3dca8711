import Derived.LoopTactic
import Derived.Lib.Hide
import Derived.Outline
import Derived.Laws.Small
import Derived.Deep.QuietTactic
import Derived.BigQuiet
import Derived.Test.YtmpgnibfhjdfpaaGreatProg
import Derived.WalkSpells
import Derived.WalkLawsBesides
import Derived.LoopN
import Derived.Laws.MakeOwn
import Derived.Deep.AppendLies
import Derived.Test.YtmpgnibfhjdfpaaGreatGrpmfnhefjj
import Derived.Test.YtmpgnibfhjdfpaaGreatGrpcjplndde
import Derived.Test.YtmpgnibfhjdfpaaGreatGrpcdiljnim
import Derived.Test.YtmpgnibfhjdfpaaGreatGrphhmpajpk
import Derived.Test.YtmpgnibfhjdfpaaGreatGrpkcchpcmc
import Derived.Test.YtmpgnibfhjdfpaaGreatGrpaggajjjj
import Derived.Test.YtmpgnibfhjdfpaaGreatGrphahfabbf
set_option linter.all false
namespace Go.Proofs.YtmpgnibfhjdfpaaGreat
open Go.RowKit Go.Deep Tryz
set_option maxHeartbeats 12800000
variable {rs:List Ru}{s:ByteArray}{k:Nat}
theorem hasR_succ (h:k<rs.length) (hk:hasR (rs.take k) s=false) (e:(rs[k].nm.toList==s.toList)=false):hasR (rs.take (k+1)) s=false:=by
 unfold hasR at *;rw [List.take_succ_eq_append_getElem h,List.any_append,hk];simpa using e
theorem hasR_yes (h:k<rs.length) (e:(rs[k].nm.toList==s.toList)=true):hasR rs s=true:=by
 unfold hasR;rw [List.any_eq_true];exact ⟨rs[k],List.getElem_mem h,e⟩
theorem hasR_end (h:k=rs.length) (hk:hasR (rs.take k) s=false):hasR rs s=false:=by
 rwa [List.take_of_length_le (by omega)] at hk
variable {lo:Nat}{w:World}{cs:List Value}{r:Ru}
theorem Zcy (h:RuEl lo w cs r):cs.length=18/\cs[0]? = some (.string r.nm)/\r.nm.size<=maxLen/\cs[1]? = some (.int .i64 r.kind)/\I64 r.kind/\∀ v∈cs,v.oneCell'=true:=by
 obtain ⟨v6,v7,v8,v9,v12,v14,v15,v16,rfl,h0,h1,h2,h3,h4,h5,h6,h7,h8,h9,h10,h11,h12,h13,h14,h15,h16,h17⟩:=h
 obtain ⟨a6,c6,rfl⟩:=h6.shape
 obtain ⟨a7,c7,rfl⟩:=h7.shape
 obtain ⟨a8,c8,rfl⟩:=h8.shape
 obtain ⟨a9,c9,rfl⟩:=h9.shape
 obtain ⟨a12,c12,rfl⟩:=h12.shape
 obtain ⟨a14,c14,rfl⟩:=h14.shape
 obtain ⟨a15,c15,rfl⟩:=h15.shape
 obtain ⟨a16,c16,rfl⟩:=h16.shape
 exact ⟨rfl,rfl,h0,rfl,h1,by simp [Value.oneCell']⟩
theorem Zeu (b off n cap:Nat) (w:World) (rs:List Ru) (s:ByteArray) (hx:rs.length=n) (hn:n<=9223372036854775807)
 (hc:∀ i (hi:i<rs.length),∃ cs:List Value,cs.length=18/\(∀ j,j<18->w.cell? ⟨b,off+i*18+j,none⟩=cs[j]?)/\RuEl 0 w cs rs[i]) :
 Calls Tryz.prog 119 #[.slice (some ⟨b,off,none⟩) n cap,.string s] w λe w'=>e = .returned (.bool (hasR rs s))/\Below w.heap.size w w':=by
 have HC:=Lib.hid hc
 have HX:=Lib.hid hx
 clear hc hx
 go_enter func119,ntmps119
 go_wp2_with fail
 go_loopw [9] (λv wr=>∃ k:Nat,k<=n/\v = .int .i64 k/\hasR (rs.take k) s=false/\Below w.heap.size w wr) (λv _=>n-(intOf v).toNat)
 case atStart=>exact ⟨0,Nat.zero_le _,rfl,rfl,Below.refl _ _⟩
 case round =>
  obtain ⟨k,hk,rfl,hs,hB⟩:=hrel
  have HS:=Lib.hid hs
  have HB:=Lib.hid hB
  clear hs hB
  by_cases h1:k<n
  ·have hkx:k<rs.length:=by rw [HX.out];exact h1
   obtain ⟨cs,hl,r1,hel⟩:=HC.out k hkx
   have HL:=Lib.hid hl
   obtain ⟨-,p0,-,-,-,pc⟩:=Zcy hel
   have P0:=Lib.hid p0
   have PC:=Lib.hid pc
   have R1:=Lib.hid (rangeBelow (rangeOf hl r1) HB.out)
   clear r1 hel hl p0 pc
   go_upto_region 3 with (fail)
   refine wp_region_lit ?_
   refine wpList_step λK hK => ?_
   go_simp
   refine hK _ _ ?_
   clear hK K
   refine ld_mid underlying79 ZaF (by rfl) (.tmp 11) (by rfl) b (off+k*18) cs (by rfl) HL.out R1.out ?_
   refine wpList_step λK hK => ?_
   go_simp
   refine hK _ _ ?_
   clear hK K
   refine Zbl (T:=79) ZaF (by rfl) (.tmp 6) (.tmp 12) (by rfl) wr.heap.size cs (by rfl) (by rfl) HL.out (Kf _ _ rfl) (by rfl) PC.out (λZ hZ hbl hsz _ => ?_)
   have ZB:=Lib.hid (show Below w.heap.size w Z from hbl _ _ HB.out.size (HB.out.trans ((Zm wr _).mono HB.out.size)))
   have z0:=Lib.hid (Yn hZ 0 (by simpa using P0.out))
   clear hZ hbl hsz
   by_cases he:(rs[k].nm.toList==s.toList)=true
   ·have HE:=Lib.hid he
    have z:=z0.out
    go_wp2_with fail
    go_ret
    exact ⟨Zt (hasR_yes hkx HE.out).symm,ZB.out⟩
   have he':(rs[k].nm.toList==s.toList)=false:=by simpa using he
   have HE:=Lib.hid he'
   clear he
   have z:=z0.out
   go_wp2_with fail
   go_roundw
   case rel=>exact ⟨k+1,by omega,by go_num,hasR_succ hkx HS.out HE.out,ZB.out⟩
   case measure=>simp [intOf];omega
  go_wp2_with fail
  go_ret
  exact ⟨Zt (hasR_end (by rw [HX.out];omega) HS.out).symm,HB.out⟩
variable {v:Value}
theorem Zfo (s:ByteArray) (h:IsSl 18 RuEl lo w v rs) :
 Calls Tryz.prog 119 #[v,.string s] w λe w'=>e = .returned (.bool (hasR rs s))/\Below w.heap.size w w':=by
 obtain ⟨a,cap,rfl,hl,hm,_,hc⟩:=h.mono RuEl.mono (Nat.zero_le lo)
 unfold maxLen at hm
 rcases hc with rfl | ⟨b,off,rfl,_,_,hc⟩
 ·go_enter func119,ntmps119
  go_wp2_with fail
  refine wp_loop_rounds 1 ?_
  rw [rounds_succ]
  go_wp2_with fail
  go_ret
  exact ⟨rfl,Below.refl _ _⟩
 exact Zeu _ _ _ _ _ _ _ rfl (by omega) hc
variable {J:World->Prop}
section
variable {P:Program} {o:Oper} {k:IntKind} {a b:Int} {ts:Array TypeId} {x y:Operand}
theorem ZdV (x y:Operand) (ho:o.op = .call { callee := .builtin .max,args := #[x,y],argTypes:=ts }):ASpec P J o [(x,.v (.int k a)),(y,.v (.int k b))] [] (.v (.int k (max a b))) .no :=
 ZF fun ρ B a' w _ ha _=>by
  have h1:=(ha (x,.v (.int k a)) (by simp)).v_inv
  have h2:=(ha (y,.v (.int k b)) (by simp)).v_inv
  refine ⟨_,?_,.pu (.v _)⟩
  have e:(if b>a then b else a)=max a b:=by omega
  simp [execOp,ho,resolve,invoke,builtin,h1,h2,run_max_int2,e]
end
def AV.isNilS:AV->Bool
 | .v (.slice none 0 0)=>true
 | _=>false
variable {X:AV}
theorem isNilS_eq (h:X.isNilS=true):X = .v (.slice none 0 0):=by
 unfold AV.isNilS at h
 split at h
 ·rfl
 cases h
variable {T:TypeId}
theorem WE {h:AHeap} {t:ATm} (k z:Nat) {cs:List AV} (m:List Nat) {ds:List AV} (hk:h k=some (.box T cs)) (hd:cs.zipIdx.map (λp=>if m.getD p.2 0=1 then AV.any else if m.getD p.2 0=2 then .fr (.sl z 0 []) else p.1)=ds)
 (hn:(cs.zipIdx.all λp => !(m.getD p.2 0==2)||p.1.isNilS)=true):Wk h t (λj=>if j=k then some (.box T ds) else h j) t:=by
 subst hd
 intro J w0 ρ a w s
 refine ⟨ρ,s.wf,s.hH,s.bel,s.inv,λj X hj => ?_,λj hl hj => ?_,s.pin,s.tl,s.tm,s.df,λj hj=>by show (if j=k then _ else _)=none;rw [if_neg (λe=>by rw [e] at hj;rw [s.gh k hj] at hk;cases hk)];exact s.gh j hj⟩
 ·by_cases e:j=k
  ·subst e
   rw [if_pos rfl] at hj
   cases hj
   obtain ⟨nm,g1,b,c,n,vs,q0,q1,q2,q3⟩:=s.hp j _ hk
   refine ⟨nm,g1,b,c,n,vs,q0,q1,by simpa using q2,λi hi => ?_⟩
   have hi':i<cs.length:=by simpa using hi
   simp only [List.getElem_map,List.getElem_zipIdx,Nat.zero_add]
   split
   ·exact .anyR
   split
   ·rename_i h2
    have h3:=List.all_eq_true.1 hn (cs[i],i) (by rw [List.mem_iff_getElem];exact ⟨i,by simpa using hi',by simp⟩)
    simp only [h2,beq_self_eq_true,Bool.not_true,Bool.false_or] at h3
    have h4:=q3 i hi'
    rw [isNilS_eq h3] at h4
    rw [h4.v_inv]
    exact .pu (.fr (.sl0 (by simp [maxLen]) (by simp)))
   exact q3 i hi'
  rw [if_neg e] at hj
  exact s.hp j X hj
 by_cases e:j=k
 ·rw [if_pos e] at hj;cases hj
 rw [if_neg e] at hj;exact s.dom j hl hj
def sameK (xs ys:List Int) (k:Nat):Prop:=xs.take k=ys.take k
variable {xs ys:List Int}
theorem sameK_succ (h:k<xs.length) (h':k<ys.length) (hk:sameK xs ys k) (e:xs[k]=ys[k]):sameK xs ys (k+1):=by
 unfold sameK at *;rw [List.take_succ_eq_append_getElem h,List.take_succ_eq_append_getElem h',hk,e]
theorem eqI_differ (h:k<xs.length) (h':k<ys.length) (e:xs[k]≠ys[k]):eqI xs ys=false:=by
 unfold eqI;rw [decide_eq_false_iff_not];rintro rfl;exact e rfl
theorem Zfs (h:xs.length≠ys.length):eqI xs ys=false:=by
 unfold eqI;rw [decide_eq_false_iff_not];rintro rfl;exact h rfl
theorem eqI_end (h:k=xs.length) (h':k=ys.length) (hk:sameK xs ys k):eqI xs ys=true:=by
 unfold sameK at hk;rw [List.take_of_length_le (by omega),List.take_of_length_le (by omega)] at hk
 unfold eqI;rw [decide_eq_true_iff];exact hk
theorem Equal_full (b off n cap b' off' n' cap':Nat) (w:World) (xs ys:List Int) (hx:xs.length=n) (hy:ys.length=n') (hn:n<=9223372036854775807) (hb:b<w.heap.size) (hb':b'<w.heap.size)
 (hc:∀ i,i<n->w.cell? ⟨b,off+i,none⟩=some (.int .i64 (xs.getD i 0))) (hc':∀ i,i<n'->w.cell? ⟨b',off'+i,none⟩=some (.int .i64 (ys.getD i 0))) :
 Calls Tryz.prog 59 #[.slice (some ⟨b,off,none⟩) n cap,.slice (some ⟨b',off',none⟩) n' cap'] w λe w'=>e = .returned (.bool (eqI xs ys))/\Below w.heap.size w w':=by
 by_cases hnn:n=n'
 ·subst hnn
  go_enter func59,ntmps59
  go_wp2_with fail
  go_loopw [13] (λv wr=>∃ k:Nat,k<=n/\v = .int .i64 k/\sameK xs ys k/\Below w.heap.size w wr) (λv _=>n-(intOf v).toNat)
  case atStart=>exact ⟨0,Nat.zero_le _,rfl,rfl,Below.refl _ _⟩
  case round =>
   obtain ⟨k,hk,rfl,hs,hB⟩:=hrel
   have HS:=Lib.hid hs
   have HB:=Lib.hid hB
   clear hs
   by_cases h1:k<n
   ·have g1:wr.cell? ⟨b,off+k,none⟩=some (.int .i64 (xs.getD k 0)):=(hB.cell (p:=⟨b,off+k,none⟩) hb).trans (hc k h1)
    have g2:wr.cell? ⟨b',off'+k,none⟩=some (.int .i64 (ys.getD k 0)):=(hB.cell (p:=⟨b',off'+k,none⟩) hb').trans (hc' k h1)
    have ex:xs.getD k 0=xs[k]'(by omega):=by simp [List.getD,List.getElem?_eq_getElem (show k<xs.length by omega)]
    have ey:ys.getD k 0=ys[k]'(by omega):=by simp [List.getD,List.getElem?_eq_getElem (show k<ys.length by omega)]
    rw [ex] at g1
    rw [ey] at g2
    generalize hX:xs[k]'(by omega)=x at g1
    generalize hY:ys[k]'(by omega)=y at g2
    have HX:=Lib.hid hX
    have HY:=Lib.hid hY
    clear hB ex ey hX hY
    by_cases he:x=y
    ·have HE:=Lib.hid he
     have e1:(x==y)=true:=by simp [he]
     have e2:(x != y)=false:=by rw [bne,e1];rfl
     clear he
     go_wp2_with fail
     go_quiet (fail)
     go_wp2_with fail
     go_roundw
     case rel=>exact ⟨k+1,by omega,by go_num,sameK_succ (by omega) (by omega) HS.out (by rw [HX.out,HY.out];exact HE.out),quietBelow HB.out _⟩
     case measure=>simp [intOf];omega
    have HE:=Lib.hid he
    have e1:(x==y)=false:=by simp [he]
    have e2:(x != y)=true:=by rw [bne,e1];rfl
    clear he
    go_wp2_with fail
    go_quiet (fail)
    go_wp2_with fail
    go_ret
    exact ⟨Zt (by rw [eqI_differ (k:=k) (by omega) (by omega) (by rw [HX.out,HY.out];exact HE.out)]),quietBelow HB.out _⟩
   clear hB
   go_wp2_with fail
   go_ret
   exact ⟨Zt (by rw [eqI_end (k:=k) (by omega) (by omega) HS.out]),HB.out⟩
 have h1:((n:Int)==(n':Int))=false:=by simp;omega
 have h2:((n:Int) != (n':Int))=true:=by rw [bne,h1];rfl
 have E:=Lib.hid (Zfs (xs:=xs) (ys:=ys) (by rw [hx,hy];exact hnn))
 clear hnn
 go_enter func59,ntmps59
 go_wp2_with fail
 go_ret
 exact ⟨Zt (by rw [E.out]),Below.refl _ _⟩
theorem ZcW (a a':Option Addr) (cap n' cap':Nat) (w:World) (ys:List Int) (hy:ys.length=n') (hn:n'<=9223372036854775807) :
 Calls Tryz.prog 59 #[.slice a 0 cap,.slice a' n' cap'] w λe w'=>e = .returned (.bool (eqI [] ys))/\Below w.heap.size w w':=by
 by_cases h0:n'=0
 ·subst h0
  obtain rfl:=List.eq_nil_of_length_eq_zero hy
  go_enter func59,ntmps59
  go_wp2_with fail
  refine wp_loop_rounds 1 ?_
  rw [rounds_succ]
  go_wp2_with fail
  go_ret
  exact ⟨rfl,Below.refl _ _⟩
 have h1:(((0:Nat):Int)==(n':Int))=false:=by simp;omega
 have h1':((0:Int)==(n':Int))=false:=by simp;omega
 have h2:((0:Int) != (n':Int))=true:=by rw [bne,h1'];rfl
 have E:=Lib.hid (Zfs (xs:=[]) (ys:=ys) (by simp;omega))
 clear h0
 go_enter func59,ntmps59
 go_wp2_with fail
 go_ret
 exact ⟨Zt (by rw [E.out]),Below.refl _ _⟩
theorem ZfK (a a':Option Addr) (n cap cap':Nat) (w:World) (x:Int) (xs:List Int) (hx:(x::xs).length=n) (hn:n<=9223372036854775807) :
 Calls Tryz.prog 59 #[.slice a n cap,.slice a' 0 cap'] w λe w'=>e = .returned (.bool (eqI (x::xs) []))/\Below w.heap.size w w':=by
 have h0:0<n:=by simp at hx;omega
 have h1:((n:Int)==(0:Int))=false:=by simp;omega
 have h2:((n:Int) != (0:Int))=true:=by rw [bne,h1];rfl
 have E:=Lib.hid (Zfs (xs:=x::xs) (ys:=[]) (by simp))
 clear hx
 go_enter func59,ntmps59
 go_wp2_with fail
 go_ret
 exact ⟨Zt (by rw [E.out]),Below.refl _ _⟩
theorem Equal_any {lo lo':Nat} {v v':Value} (h:IsInts lo w v xs) (h':IsInts lo' w v' ys) :
 Calls Tryz.prog 59 #[v,v'] w λe w'=>e = .returned (.bool (eqI xs ys))/\Below w.heap.size w w':=by
 obtain ⟨a,cap,rfl,hl,hm,hi,hc⟩:=h
 obtain ⟨a',cap',rfl,hl',hm',hi',hc'⟩:=h'
 unfold maxLen at hm hm'
 rcases hc with rfl | ⟨b,off,rfl,_,hb,hc⟩
 ·exact ZcW _ _ _ _ _ _ _ rfl (by omega)
 rcases hc' with rfl | ⟨b',off',rfl,_,hb',hc'⟩
 ·cases xs with
  | nil=>exact ZcW _ _ _ _ _ _ _ rfl (by simp)
  | cons x xs=>exact ZfK _ _ _ _ _ _ _ _ rfl (by omega)
 exact Equal_full _ _ _ _ _ _ _ _ _ _ _ rfl rfl (by omega) hb hb' hc hc'
end Go.Proofs.YtmpgnibfhjdfpaaGreat
namespace Go.Proofs.YtmpgnibfhjdfpaaGreat
set_option maxHeartbeats 12800000
open Go.RowKit Go.Deep Tryz
def agK {α:Type} (xs ys:List α) (k:Nat):Prop:=∀ i (h:i<xs.length) (h':i<ys.length),i<k->xs[i]=ys[i]
section
variable {α:Type} {xs ys:List α} {k:Nat}
theorem agK_zero (xs ys:List α):agK xs ys 0:=λ_ _ _ h=>absurd h (by omega)
theorem agK_succ (h1:k<xs.length) (h2:k<ys.length) (h:agK xs ys k) (e:xs[k]=ys[k]):agK xs ys (k+1):=λi a b c=>by
 by_cases x:i=k
 ·subst x;exact e
 exact h i a b (by omega)
variable [DecidableEq α]
theorem ag_end (hl:(xs.length:Int)=(ys.length:Int)) (hk:¬ k<xs.length) (h:agK xs ys k):decide (xs=ys)=true:=by
 rw [decide_eq_true_eq];exact List.ext_getElem (by omega) λi a b=>h i a b (by omega)
theorem ag_no (h1:k<xs.length) (h2:k<ys.length) (e:¬ xs[k]=ys[k]):decide (xs=ys)=false:=by
 rw [decide_eq_false_iff_not];rintro rfl;exact e rfl
theorem ag_len (hl:¬ (xs.length:Int)=(ys.length:Int)):decide (xs=ys)=false:=by
 rw [decide_eq_false_iff_not];rintro rfl;exact hl rfl
end
section
variable {P:Program} {J:World->Prop} {o:Oper}
theorem Zcr {T ty:TypeId} {x y:Operand} (xs ys:List Value) {b:Bool} (r:Bool) (ho:o.op = .binOp .neq T x y ty) (hm:P.eqGuardType P.depth T=false) (H:∀ w,(Op.equalIn 10000 T (.agg xs.toArray) (.agg ys.toArray)).run P w = .ok b w) (hr:b = !r) :
 ASpec P J o [(x,.agg (xs.map AV.v)),(y,.agg (ys.map AV.v))] [] (.v (.bool r)) .no :=
 ZF fun ρ B a w _ ha _=>by
  have h1:=ZaM (ha (x,.agg (xs.map AV.v)) (by simp))
  have h2:=ZaM (ha (y,.agg (ys.map AV.v)) (by simp))
  refine ⟨.bool r,?_,.pu (.v _)⟩
  simp only [execOp,ho,h1,h2]
  refine Z7 ?_
  rw [Sem.run_bind,run_eqGuard_agg w .neq T x y _ _ hm,Result.andThen_ok,run_neq_struct,H w,hr]
  simp
end
theorem eqg_th (l m:Th) (w:World):(Op.equalIn 10000 118 (.agg [.int .i64 l.msg,.int .i64 l.coef,.int .i64 l.bd.c,.int .i64 l.bd.n,.int .i64 l.bd.t,.int .i64 l.bd.f].toArray) (.agg [.int .i64 m.msg,.int .i64 m.coef,.int .i64 m.bd.c,.int .i64 m.bd.n,.int .i64 m.bd.t,.int .i64 m.bd.f].toArray)).run Tryz.prog w = .ok (decide (l=m)) w:=by
 rw [run_equalIn_agg w 9999 _ _ _ (by kernel_rfl) (by kernel_rfl)]
 rw [show (Program.fieldsOf Tryz.prog 118).toList=_ from by unfold Program.fieldsOf;rw [underlying118]]
 obtain ⟨a0,a1,⟨a2,a3,a4,a5⟩⟩:=l
 obtain ⟨b0,b1,⟨b2,b3,b4,b5⟩⟩:=m
 by_cases h0:a0=b0
 ·by_cases h1:a1=b1
  ·by_cases h2:a2=b2
   ·by_cases h3:a3=b3
    ·by_cases h4:a4=b4
     ·by_cases h5:a5=b5
      ·simp [go_sem,Op.eqFields,part,asAgg,isAgg,underlying3,run_underlying,h0,h1,h2,h3,h4,h5]
      simp [go_sem,Op.eqFields,part,asAgg,isAgg,underlying3,run_underlying,h0,h1,h2,h3,h4,h5]
     simp [go_sem,Op.eqFields,part,asAgg,isAgg,underlying3,run_underlying,h0,h1,h2,h3,h4]
    simp [go_sem,Op.eqFields,part,asAgg,isAgg,underlying3,run_underlying,h0,h1,h2,h3]
   simp [go_sem,Op.eqFields,part,asAgg,isAgg,underlying3,run_underlying,h0,h1,h2]
  simp [go_sem,Op.eqFields,part,asAgg,isAgg,underlying3,run_underlying,h0,h1]
 simp [go_sem,Op.eqFields,part,asAgg,isAgg,underlying3,run_underlying,h0]
variable {J:World->Prop}
theorem eqIntsS (xs ys:List Int) (hx:InOk xs) (hy:InOk ys):Ctr Tryz.prog J 59 [Zc xs,Zc ys] (bv (decide (xs=ys))):=ctr2 λw v v' _ h h' =>
 (Equal_any (Yf hx (lo:=0) (λ_ _=>Nat.zero_le _) h) (Yf hy (lo:=0) (λ_ _=>Nat.zero_le _) h')).mono λ_ _=>ret_sc
end Go.Proofs.YtmpgnibfhjdfpaaGreat
namespace Go.Proofs.YtmpgnibfhjdfpaaGreat
open Go.RowKit Go.Deep Tryz
set_option maxRecDepth 100000
set_option maxHeartbeats 6400000
variable {J:World->Prop}
theorem eqThsS (xs ys:List Th) (hx:xs.length<=9223372036854775807) (hy:ys.length<=9223372036854775807):Ctr Tryz.prog J 140 [slA 6 cTh xs,slA 6 cTh ys] (bv<|decide<|xs=ys):=by
 refine Zn func140 rfl (pN (Yj Zdj _)<|pN (Yj Zdj _) pZ) (n:=26) rfl (by simp)<|λw0 => jB<|oS bF<|jD<|Zi ?_
 by_cases hs1:(xs.length:Int)=(ys.length:Int)
 refine Za<|W4<|on (dT' hs1)<|jF<|jM<|Za<|oF (iv xs.length)<|oS (iv 0)<|jA<|Zh<|Zw (σ:={k:Nat // k<=xs.length/\agK xs ys k}) (λs=>(ofL [],ofT 26 [(0,slA 6 cTh xs),(1,slA 6 cTh ys),(12,iv xs.length),(13,iv s.1)])) (λs=>xs.length-s.1) ⟨0,Nat.zero_le _,agK_zero _ _⟩ (Zk [] _)<|λs => ?_
 obtain ⟨k,hk0,hs0⟩:=s
 show ETri J w0 (ofL []) (ofT 26 [(0,slA 6 cTh xs),(1,slA 6 cTh ys),(12,iv xs.length),(13,iv k)]) _
 refine Zi ?_
 by_cases hs2:(k:Int)<(xs.length:Int)
 refine Za<|ol (dT hs2)<|jD<|ZM rfl<|Zj<|jC<|Zh<|jB<|oF (iv k)<|jD ?_
 by_cases hs3:(decide<|xs[k]=ys[k])=true
 refine tD<|dS (slA 6 cTh xs)<|dS (iv k)<|dC (xS (k*6) 16 17 U77) I0 I0<|dA (Zl (z:=6) (.tmp 18) rfl U118 rfl (by kernel_rfl) (ZJ lenTh xs k<|by omega) rfl) I0<|dS (slA 6 cTh ys)<|dS (iv k)<|dC (xS (k*6) 20 21 U77) I0 I0<|dA (Zl (z:=6) (.tmp 22) rfl U118 rfl (by kernel_rfl) (ZJ lenTh ys k<|by omega) rfl) I0<|dC (Zcr [.int .i64 xs[k].msg,.int .i64 xs[k].coef,.int .i64 xs[k].bd.c,.int .i64 xs[k].bd.n,.int .i64 xs[k].bd.t,.int .i64 xs[k].bd.f] [.int .i64 ys[k].msg,.int .i64 ys[k].coef,.int .i64 ys[k].bd.c,.int .i64 ys[k].bd.n,.int .i64 ys[k].bd.t,.int .i64 ys[k].bd.f] (r:=false) rfl (by kernel_rfl) (λw=>(eqg_th xs[k] ys[k] w).trans (by rw [hs3];rfl)) rfl) I0 I0<|eD ?_
 exact Zf<|Zu rfl<|Zj<|Zs<|Zf<|Za<|oV ((k+1:Nat):Int)<|oS (iv (k+1:Nat))<|jA<|Zp ⟨k+1,by omega,agK_succ (by omega) (by omega) hs0 (of_decide_eq_true hs3)⟩ (show xs.length-(k+1)<xs.length-k by omega)<|Zk [] _
 have hs3f:(decide<|xs[k]=ys[k])=false:=by simpa using hs3
 refine tD<|dS (slA 6 cTh xs)<|dS (iv k)<|dC (xS (k*6) 16 17 U77) I0 I0<|dA (Zl (z:=6) (.tmp 18) rfl U118 rfl (by kernel_rfl) (ZJ lenTh xs k<|by omega) rfl) I0<|dS (slA 6 cTh ys)<|dS (iv k)<|dC (xS (k*6) 20 21 U77) I0 I0<|dA (Zl (z:=6) (.tmp 22) rfl U118 rfl (by kernel_rfl) (ZJ lenTh ys k<|by omega) rfl) I0<|dC (Zcr [.int .i64 xs[k].msg,.int .i64 xs[k].coef,.int .i64 xs[k].bd.c,.int .i64 xs[k].bd.n,.int .i64 xs[k].bd.t,.int .i64 xs[k].bd.f] [.int .i64 ys[k].msg,.int .i64 ys[k].coef,.int .i64 ys[k].bd.c,.int .i64 ys[k].bd.n,.int .i64 ys[k].bd.t,.int .i64 ys[k].bd.f] (r:=true) rfl (by kernel_rfl) (λw=>(eqg_th xs[k] ys[k] w).trans (by rw [hs3f];rfl)) rfl) I0 I0<|eD ?_
 exact Zf<|jK<|oS bF<|jE<|Ze<|Zb<|Zb<|Ze<|Zb<|Zd results140 (.tmp rfl)<|cB<|(ag_no (k:=k) (by omega) (by omega)<|of_decide_eq_false hs3f).symm
 exact Za<|ol (dF hs2)<|jD<|Zu rfl<|jO<|jC<|Za<|oS bT<|jE<|Zd results140 (.tmp rfl)<|cB<|(ag_end hs1 (by omega) hs0).symm
 exact Za<|W4<|on (dF' hs1)<|jG<|oS bF<|jE<|Zb<|Zd results140 (.tmp rfl)<|cB<|(ag_len hs1).symm
theorem Ze6 {r s:Ru} (hr:RuOk r) (hs:RuOk s):Ctr Tryz.prog J 131 [.agg (cRu r),.agg (cRu s)] (bv<|samP r s):=by
 refine Zn func131 rfl (pN (Zg<|Yr r)<|pN (Zg<|Yr s) pZ) (n:=122) rfl (by simp)<|λw0 => jB<|oX 1 (.agg (cRu r))<|oX 2 (.agg (cRu s))<|oS bF<|jD ?_
 by_cases hs1:r.kind=s.kind
 by_cases hs2:r.frm=s.frm
 by_cases hs3:r.to=s.to
 by_cases hs4:r.pf=s.pf
 by_cases hs5:r.pt=s.pt
 by_cases hs6:(decide<|r.resp=s.resp)=true
 by_cases hs7:(decide<|r.gz=s.gz)=true
 by_cases hs8:(decide<|r.ex=s.ex)=true
 by_cases hs9:(decide<|r.fa=s.fa)=true
 by_cases hs10:r.rd=s.rd
 by_cases hs11:r.wr=s.wr
 by_cases hs12:(decide<|r.send=s.send)=true
 by_cases hs13:r.pos=s.pos
 by_cases hs14:(decide<|r.left=s.left)=true
 by_cases hs15:(decide<|r.right=s.right)=true
 by_cases hs16:(decide<|r.pz=s.pz)=true
 refine Za<|W4<|oe (dT hs1)<|oS bT<|W4<|oe (dT hs2)<|oF bT<|W4<|oe (dT hs3)<|oF bT<|W4<|oe (dT hs4)<|oF bT<|W4<|oe (dT hs5)<|oF bT<|W4<|oK (Zo (eqIntsS r.resp s.resp hr.resp hs.resp) hs6) [Zc r.resp,Zc s.resp] rfl rfl<|oF bT<|W4<|oK (Zo (eqThsS r.gz s.gz hr.lguards hs.lguards) hs7) [slA 6 cTh r.gz,slA 6 cTh s.gz] rfl rfl<|oF bT<|W4<|oK (Zo (eqIntsS r.ex s.ex hr.ex hs.ex) hs8) [Zc r.ex,Zc s.ex] rfl rfl ?_
 refine oF bT<|W4<|oK (Zo (eqIntsS r.fa s.fa hr.fa hs.fa) hs9) [Zc r.fa,Zc s.fa] rfl rfl<|oF bT<|W4<|oe (dT hs10)<|oF bT<|W4<|oe (dT hs11)<|oF bT<|W4<|oK (Zo (eqIntsS r.send s.send hr.send hs.send) hs12) [Zc r.send,Zc s.send] rfl rfl<|oF bT<|W4<|oe (dT hs13)<|oF bT<|W4<|oK (Zo (eqIntsS r.left s.left hr.left hs.left) hs14) [Zc r.left,Zc s.left] rfl rfl<|oF bT<|W4<|oK (Zo (eqIntsS r.right s.right hr.right hs.right) hs15) [Zc r.right,Zc s.right] rfl rfl<|oF bT<|W4<|oK (Zo (eqIntsS r.pz s.pz hr.pz hs.pz) hs16) [Zc r.pz,Zc s.pz] rfl rfl ?_
 refine oF bT<|oF (iv r.dir)<|oF (iv s.dir)<|gC (ZH rfl rfl) I0 I0<|oF (bv<|decide<|r.dir=s.dir)<|jE<|Zd results131 (.tmp rfl) ?_
 exact cB<|by unfold samP;simp only [decide_eq_true hs1,decide_eq_true hs2,decide_eq_true hs3,decide_eq_true hs4,decide_eq_true hs5,hs6,hs7,hs8,hs9,decide_eq_true hs10,decide_eq_true hs11,hs12,decide_eq_true hs13,hs14,hs15,hs16,Bool.true_and,Bool.and_true]
 have hs16f:(decide<|r.pz=s.pz)=false:=by simpa using hs16
 refine Za<|W4<|oe (dT hs1)<|oS bT<|W4<|oe (dT hs2)<|oF bT<|W4<|oe (dT hs3)<|oF bT<|W4<|oe (dT hs4)<|oF bT<|W4<|oe (dT hs5)<|oF bT<|W4<|oK (Zo (eqIntsS r.resp s.resp hr.resp hs.resp) hs6) [Zc r.resp,Zc s.resp] rfl rfl<|oF bT<|W4<|oK (Zo (eqThsS r.gz s.gz hr.lguards hs.lguards) hs7) [slA 6 cTh r.gz,slA 6 cTh s.gz] rfl rfl<|oF bT<|W4<|oK (Zo (eqIntsS r.ex s.ex hr.ex hs.ex) hs8) [Zc r.ex,Zc s.ex] rfl rfl ?_
 refine oF bT<|W4<|oK (Zo (eqIntsS r.fa s.fa hr.fa hs.fa) hs9) [Zc r.fa,Zc s.fa] rfl rfl<|oF bT<|W4<|oe (dT hs10)<|oF bT<|W4<|oe (dT hs11)<|oF bT<|W4<|oK (Zo (eqIntsS r.send s.send hr.send hs.send) hs12) [Zc r.send,Zc s.send] rfl rfl<|oF bT<|W4<|oe (dT hs13)<|oF bT<|W4<|oK (Zo (eqIntsS r.left s.left hr.left hs.left) hs14) [Zc r.left,Zc s.left] rfl rfl<|oF bT<|W4<|oK (Zo (eqIntsS r.right s.right hr.right hs.right) hs15) [Zc r.right,Zc s.right] rfl rfl<|oF bT<|W4<|oK (Zo (eqIntsS r.pz s.pz hr.pz hs.pz) hs16f) [Zc r.pz,Zc s.pz] rfl rfl<|oF bF<|V5<|oF bF<|jE<|Zd results131 (.tmp rfl) ?_
 exact cB<|by unfold samP;simp only [hs16f,Bool.false_and,Bool.and_false]
 have hs15f:(decide<|r.right=s.right)=false:=by simpa using hs15
 refine Za<|W4<|oe (dT hs1)<|oS bT<|W4<|oe (dT hs2)<|oF bT<|W4<|oe (dT hs3)<|oF bT<|W4<|oe (dT hs4)<|oF bT<|W4<|oe (dT hs5)<|oF bT<|W4<|oK (Zo (eqIntsS r.resp s.resp hr.resp hs.resp) hs6) [Zc r.resp,Zc s.resp] rfl rfl<|oF bT<|W4<|oK (Zo (eqThsS r.gz s.gz hr.lguards hs.lguards) hs7) [slA 6 cTh r.gz,slA 6 cTh s.gz] rfl rfl<|oF bT<|W4<|oK (Zo (eqIntsS r.ex s.ex hr.ex hs.ex) hs8) [Zc r.ex,Zc s.ex] rfl rfl ?_
 refine oF bT<|W4<|oK (Zo (eqIntsS r.fa s.fa hr.fa hs.fa) hs9) [Zc r.fa,Zc s.fa] rfl rfl<|oF bT<|W4<|oe (dT hs10)<|oF bT<|W4<|oe (dT hs11)<|oF bT<|W4<|oK (Zo (eqIntsS r.send s.send hr.send hs.send) hs12) [Zc r.send,Zc s.send] rfl rfl<|oF bT<|W4<|oe (dT hs13)<|oF bT<|W4<|oK (Zo (eqIntsS r.left s.left hr.left hs.left) hs14) [Zc r.left,Zc s.left] rfl rfl<|oF bT<|W4<|oK (Zo (eqIntsS r.right s.right hr.right hs.right) hs15f) [Zc r.right,Zc s.right] rfl rfl<|oF bF<|V5<|oF bF<|V5<|oF bF<|jE<|Zd results131 (.tmp rfl) ?_
 exact cB<|by unfold samP;simp only [hs15f,Bool.false_and,Bool.and_false]
 have hs14f:(decide<|r.left=s.left)=false:=by simpa using hs14
 refine Za<|W4<|oe (dT hs1)<|oS bT<|W4<|oe (dT hs2)<|oF bT<|W4<|oe (dT hs3)<|oF bT<|W4<|oe (dT hs4)<|oF bT<|W4<|oe (dT hs5)<|oF bT<|W4<|oK (Zo (eqIntsS r.resp s.resp hr.resp hs.resp) hs6) [Zc r.resp,Zc s.resp] rfl rfl<|oF bT<|W4<|oK (Zo (eqThsS r.gz s.gz hr.lguards hs.lguards) hs7) [slA 6 cTh r.gz,slA 6 cTh s.gz] rfl rfl<|oF bT<|W4<|oK (Zo (eqIntsS r.ex s.ex hr.ex hs.ex) hs8) [Zc r.ex,Zc s.ex] rfl rfl ?_
 refine oF bT<|W4<|oK (Zo (eqIntsS r.fa s.fa hr.fa hs.fa) hs9) [Zc r.fa,Zc s.fa] rfl rfl<|oF bT<|W4<|oe (dT hs10)<|oF bT<|W4<|oe (dT hs11)<|oF bT<|W4<|oK (Zo (eqIntsS r.send s.send hr.send hs.send) hs12) [Zc r.send,Zc s.send] rfl rfl<|oF bT<|W4<|oe (dT hs13)<|oF bT<|W4<|oK (Zo (eqIntsS r.left s.left hr.left hs.left) hs14f) [Zc r.left,Zc s.left] rfl rfl<|oF bF<|V5<|oF bF<|V5<|oF bF<|V5<|oF bF<|jE<|Zd results131 (.tmp rfl) ?_
 exact cB<|by unfold samP;simp only [hs14f,Bool.false_and,Bool.and_false]
 refine Za<|W4<|oe (dT hs1)<|oS bT<|W4<|oe (dT hs2)<|oF bT<|W4<|oe (dT hs3)<|oF bT<|W4<|oe (dT hs4)<|oF bT<|W4<|oe (dT hs5)<|oF bT<|W4<|oK (Zo (eqIntsS r.resp s.resp hr.resp hs.resp) hs6) [Zc r.resp,Zc s.resp] rfl rfl<|oF bT<|W4<|oK (Zo (eqThsS r.gz s.gz hr.lguards hs.lguards) hs7) [slA 6 cTh r.gz,slA 6 cTh s.gz] rfl rfl<|oF bT<|W4<|oK (Zo (eqIntsS r.ex s.ex hr.ex hs.ex) hs8) [Zc r.ex,Zc s.ex] rfl rfl ?_
 refine oF bT<|W4<|oK (Zo (eqIntsS r.fa s.fa hr.fa hs.fa) hs9) [Zc r.fa,Zc s.fa] rfl rfl<|oF bT<|W4<|oe (dT hs10)<|oF bT<|W4<|oe (dT hs11)<|oF bT<|W4<|oK (Zo (eqIntsS r.send s.send hr.send hs.send) hs12) [Zc r.send,Zc s.send] rfl rfl<|oF bT<|W4<|oe (dF hs13)<|oF bF<|V5<|oF bF<|V5<|oF bF<|V5<|oF bF<|V5<|oF bF<|jE<|Zd results131 (.tmp rfl) ?_
 exact cB<|by unfold samP;simp only [decide_eq_false hs13,Bool.false_and,Bool.and_false]
 have hs12f:(decide<|r.send=s.send)=false:=by simpa using hs12
 refine Za<|W4<|oe (dT hs1)<|oS bT<|W4<|oe (dT hs2)<|oF bT<|W4<|oe (dT hs3)<|oF bT<|W4<|oe (dT hs4)<|oF bT<|W4<|oe (dT hs5)<|oF bT<|W4<|oK (Zo (eqIntsS r.resp s.resp hr.resp hs.resp) hs6) [Zc r.resp,Zc s.resp] rfl rfl<|oF bT<|W4<|oK (Zo (eqThsS r.gz s.gz hr.lguards hs.lguards) hs7) [slA 6 cTh r.gz,slA 6 cTh s.gz] rfl rfl<|oF bT<|W4<|oK (Zo (eqIntsS r.ex s.ex hr.ex hs.ex) hs8) [Zc r.ex,Zc s.ex] rfl rfl ?_
 refine oF bT<|W4<|oK (Zo (eqIntsS r.fa s.fa hr.fa hs.fa) hs9) [Zc r.fa,Zc s.fa] rfl rfl<|oF bT<|W4<|oe (dT hs10)<|oF bT<|W4<|oe (dT hs11)<|oF bT<|W4<|oK (Zo (eqIntsS r.send s.send hr.send hs.send) hs12f) [Zc r.send,Zc s.send] rfl rfl<|oF bF<|V5<|oF bF<|V5<|oF bF<|V5<|oF bF<|V5<|oF bF<|V5<|oF bF<|jE<|Zd results131 (.tmp rfl) ?_
 exact cB<|by unfold samP;simp only [hs12f,Bool.false_and,Bool.and_false]
 refine Za<|W4<|oe (dT hs1)<|oS bT<|W4<|oe (dT hs2)<|oF bT<|W4<|oe (dT hs3)<|oF bT<|W4<|oe (dT hs4)<|oF bT<|W4<|oe (dT hs5)<|oF bT<|W4<|oK (Zo (eqIntsS r.resp s.resp hr.resp hs.resp) hs6) [Zc r.resp,Zc s.resp] rfl rfl<|oF bT<|W4<|oK (Zo (eqThsS r.gz s.gz hr.lguards hs.lguards) hs7) [slA 6 cTh r.gz,slA 6 cTh s.gz] rfl rfl<|oF bT<|W4<|oK (Zo (eqIntsS r.ex s.ex hr.ex hs.ex) hs8) [Zc r.ex,Zc s.ex] rfl rfl<|oF bT<|W4<|oK (Zo (eqIntsS r.fa s.fa hr.fa hs.fa) hs9) [Zc r.fa,Zc s.fa] rfl rfl<|oF bT<|W4<|oe (dT hs10)<|oF bT<|W4<|oe (dF hs11)<|oF bF<|V5 ?_
 refine oF bF<|V5<|oF bF<|V5<|oF bF<|V5<|oF bF<|V5<|oF bF<|V5<|oF bF<|jE<|Zd results131 (.tmp rfl) ?_
 exact cB<|by unfold samP;simp only [decide_eq_false hs11,Bool.false_and,Bool.and_false]
 refine Za<|W4<|oe (dT hs1)<|oS bT<|W4<|oe (dT hs2)<|oF bT<|W4<|oe (dT hs3)<|oF bT<|W4<|oe (dT hs4)<|oF bT<|W4<|oe (dT hs5)<|oF bT<|W4<|oK (Zo (eqIntsS r.resp s.resp hr.resp hs.resp) hs6) [Zc r.resp,Zc s.resp] rfl rfl<|oF bT<|W4<|oK (Zo (eqThsS r.gz s.gz hr.lguards hs.lguards) hs7) [slA 6 cTh r.gz,slA 6 cTh s.gz] rfl rfl<|oF bT<|W4<|oK (Zo (eqIntsS r.ex s.ex hr.ex hs.ex) hs8) [Zc r.ex,Zc s.ex] rfl rfl<|oF bT<|W4<|oK (Zo (eqIntsS r.fa s.fa hr.fa hs.fa) hs9) [Zc r.fa,Zc s.fa] rfl rfl<|oF bT<|W4<|oe (dF hs10)<|oF bF<|V5<|oF bF<|V5<|oF bF<|V5<|oF bF<|V5<|oF bF<|V5<|oF bF<|V5 ?_
 refine oF bF<|V5<|oF bF<|jE<|Zd results131 (.tmp rfl) ?_
 exact cB<|by unfold samP;simp only [decide_eq_false hs10,Bool.false_and,Bool.and_false]
 have hs9f:(decide<|r.fa=s.fa)=false:=by simpa using hs9
 refine Za<|W4<|oe (dT hs1)<|oS bT<|W4<|oe (dT hs2)<|oF bT<|W4<|oe (dT hs3)<|oF bT<|W4<|oe (dT hs4)<|oF bT<|W4<|oe (dT hs5)<|oF bT<|W4<|oK (Zo (eqIntsS r.resp s.resp hr.resp hs.resp) hs6) [Zc r.resp,Zc s.resp] rfl rfl<|oF bT<|W4<|oK (Zo (eqThsS r.gz s.gz hr.lguards hs.lguards) hs7) [slA 6 cTh r.gz,slA 6 cTh s.gz] rfl rfl<|oF bT<|W4<|oK (Zo (eqIntsS r.ex s.ex hr.ex hs.ex) hs8) [Zc r.ex,Zc s.ex] rfl rfl<|oF bT<|W4<|oK (Zo (eqIntsS r.fa s.fa hr.fa hs.fa) hs9f) [Zc r.fa,Zc s.fa] rfl rfl<|oF bF<|V5<|oF bF<|V5<|oF bF<|V5<|oF bF<|V5<|oF bF<|V5<|oF bF<|V5<|oF bF<|V5<|oF bF<|V5<|oF bF<|jE ?_
 refine Zd results131 (.tmp rfl) ?_
 exact cB<|by unfold samP;simp only [hs9f,Bool.false_and,Bool.and_false]
 have hs8f:(decide<|r.ex=s.ex)=false:=by simpa using hs8
 refine Za<|W4<|oe (dT hs1)<|oS bT<|W4<|oe (dT hs2)<|oF bT<|W4<|oe (dT hs3)<|oF bT<|W4<|oe (dT hs4)<|oF bT<|W4<|oe (dT hs5)<|oF bT<|W4<|oK (Zo (eqIntsS r.resp s.resp hr.resp hs.resp) hs6) [Zc r.resp,Zc s.resp] rfl rfl<|oF bT<|W4<|oK (Zo (eqThsS r.gz s.gz hr.lguards hs.lguards) hs7) [slA 6 cTh r.gz,slA 6 cTh s.gz] rfl rfl<|oF bT<|W4<|oK (Zo (eqIntsS r.ex s.ex hr.ex hs.ex) hs8f) [Zc r.ex,Zc s.ex] rfl rfl<|oF bF<|V5<|oF bF<|V5<|oF bF<|V5<|oF bF<|V5<|oF bF<|V5<|oF bF<|V5<|oF bF<|V5<|oF bF<|V5<|oF bF<|V5<|oF bF<|jE<|Zd results131 (.tmp rfl) ?_
 exact cB<|by unfold samP;simp only [hs8f,Bool.false_and,Bool.and_false]
 have hs7f:(decide<|r.gz=s.gz)=false:=by simpa using hs7
 refine Za<|W4<|oe (dT hs1)<|oS bT<|W4<|oe (dT hs2)<|oF bT<|W4<|oe (dT hs3)<|oF bT<|W4<|oe (dT hs4)<|oF bT<|W4<|oe (dT hs5)<|oF bT<|W4<|oK (Zo (eqIntsS r.resp s.resp hr.resp hs.resp) hs6) [Zc r.resp,Zc s.resp] rfl rfl<|oF bT<|W4<|oK (Zo (eqThsS r.gz s.gz hr.lguards hs.lguards) hs7f) [slA 6 cTh r.gz,slA 6 cTh s.gz] rfl rfl<|oF bF<|V5<|oF bF<|V5<|oF bF<|V5<|oF bF<|V5<|oF bF<|V5<|oF bF<|V5<|oF bF<|V5<|oF bF<|V5<|oF bF<|V5<|oF bF<|V5<|oF bF<|jE<|Zd results131 (.tmp rfl) ?_
 exact cB<|by unfold samP;simp only [hs7f,Bool.false_and,Bool.and_false]
 have hs6f:(decide<|r.resp=s.resp)=false:=by simpa using hs6
 refine Za<|W4<|oe (dT hs1)<|oS bT<|W4<|oe (dT hs2)<|oF bT<|W4<|oe (dT hs3)<|oF bT<|W4<|oe (dT hs4)<|oF bT<|W4<|oe (dT hs5)<|oF bT<|W4<|oK (Zo (eqIntsS r.resp s.resp hr.resp hs.resp) hs6f) [Zc r.resp,Zc s.resp] rfl rfl<|oF bF<|V5<|oF bF<|V5<|oF bF<|V5<|oF bF<|V5<|oF bF<|V5<|oF bF<|V5<|oF bF<|V5<|oF bF<|V5<|oF bF<|V5<|oF bF<|V5<|oF bF<|V5<|oF bF<|jE<|Zd results131 (.tmp rfl) ?_
 exact cB<|by unfold samP;simp only [hs6f,Bool.false_and,Bool.and_false]
 refine Za<|W4<|oe (dT hs1)<|oS bT<|W4<|oe (dT hs2)<|oF bT<|W4<|oe (dT hs3)<|oF bT<|W4<|oe (dT hs4)<|oF bT<|W4<|oe (dF hs5)<|oF bF<|V5<|oF bF<|V5<|oF bF<|V5<|oF bF<|V5<|oF bF<|V5<|oF bF<|V5<|oF bF<|V5<|oF bF<|V5<|oF bF<|V5<|oF bF<|V5<|oF bF<|V5<|oF bF<|V5<|oF bF<|jE<|Zd results131 (.tmp rfl) ?_
 exact cB<|by unfold samP;simp only [decide_eq_false hs5,Bool.false_and,Bool.and_false]
 refine Za<|W4<|oe (dT hs1)<|oS bT<|W4<|oe (dT hs2)<|oF bT<|W4<|oe (dT hs3)<|oF bT<|W4<|oe (dF hs4)<|oF bF<|V5<|oF bF<|V5<|oF bF<|V5<|oF bF<|V5<|oF bF<|V5<|oF bF<|V5<|oF bF<|V5<|oF bF<|V5<|oF bF<|V5<|oF bF<|V5<|oF bF<|V5<|oF bF<|V5<|oF bF<|V5<|oF bF<|jE<|Zd results131 (.tmp rfl) ?_
 exact cB<|by unfold samP;simp only [decide_eq_false hs4,Bool.false_and,Bool.and_false]
 refine Za<|W4<|oe (dT hs1)<|oS bT<|W4<|oe (dT hs2)<|oF bT<|W4<|oe (dF hs3)<|oF bF<|V5<|oF bF<|V5<|oF bF<|V5<|oF bF<|V5<|oF bF<|V5<|oF bF<|V5<|oF bF<|V5<|oF bF<|V5<|oF bF<|V5<|oF bF<|V5<|oF bF<|V5<|oF bF<|V5<|oF bF<|V5<|oF bF<|V5<|oF bF<|jE<|Zd results131 (.tmp rfl) ?_
 exact cB<|by unfold samP;simp only [decide_eq_false hs3,Bool.false_and,Bool.and_false]
 refine Za<|W4<|oe (dT hs1)<|oS bT<|W4<|oe (dF hs2)<|oF bF<|V5<|oF bF<|V5<|oF bF<|V5<|oF bF<|V5<|oF bF<|V5<|oF bF<|V5<|oF bF<|V5<|oF bF<|V5<|oF bF<|V5<|oF bF<|V5<|oF bF<|V5<|oF bF<|V5<|oF bF<|V5<|oF bF<|V5<|oF bF<|V5<|oF bF<|jE<|Zd results131 (.tmp rfl) ?_
 exact cB<|by unfold samP;simp only [decide_eq_false hs2,Bool.false_and,Bool.and_false]
 refine Za<|W4<|oe (dF hs1)<|oS bF<|V5<|oF bF<|V5<|oF bF<|V5<|oF bF<|V5<|oF bF<|V5<|oF bF<|V5<|oF bF<|V5<|oF bF<|V5<|oF bF<|V5<|oF bF<|V5<|oF bF<|V5<|oF bF<|V5<|oF bF<|V5<|oF bF<|V5<|oF bF<|V5<|oF bF<|V5<|oF bF<|jE<|Zd results131 (.tmp rfl) ?_
 exact cB<|by unfold samP;simp only [decide_eq_false hs1,Bool.false_and,Bool.and_false]
variable {r:Ru}{top:Int}
theorem bare_1 (h:r.kind=1):bare r top={ r with frm:=0,«to» := 0,gz:=[],ex:=[],fa:=[],send:=[],rd := -1,wr := -1 }:=by
 unfold bare
 dsimp only
 rw [if_pos h]
theorem bare_2 (h:r.kind=2):bare r top={ r with frm:=0,«to» := 0,pf:=0,pt:=0,rd := -1,wr := -1 }:=by
 unfold bare
 dsimp only
 rw [if_neg (by omega),if_pos h]
theorem bare_3 (h:r.kind=3):bare r top={ r with frm:=0,«to» := 0,resp:=[],rd := -1,wr := -1 }:=by
 unfold bare
 dsimp only
 rw [if_neg (by omega),if_neg (by omega),if_pos h]
theorem bare_4t (h:r.kind=4) (h4:top=4):bare r top={ r with frm:=0,«to» := 0,pos:=0,left:=[],right:=[],pz:=[] }:=by
 unfold bare
 dsimp only
 rw [if_neg (by omega),if_neg (by omega),if_neg (by omega),if_pos h,if_pos h4]
theorem bare_4n (h:r.kind=4) (h4:¬ top=4):bare r top={ r with frm:=0,«to» := 0,pos:=0,left:=[],right:=[] }:=by
 unfold bare
 dsimp only
 rw [if_neg (by omega),if_neg (by omega),if_neg (by omega),if_pos h,if_neg h4]
theorem bare_5 (h:r.kind=5):bare r top={ r with frm:=0,«to» := 0,pf:=0,pt:=0,dir:=0 }:=by
 unfold bare
 dsimp only
 rw [if_neg (by omega),if_neg (by omega),if_neg (by omega),if_neg (by omega),if_pos h]
theorem bareOk (hk:r.kind=1\/r.kind=2\/r.kind=3\/r.kind=4\/r.kind=5) (h:RuOk r):RuOk (bare r top):=by
 rcases hk with k | k | k | k | k
 ·rw [bare_1 k];exact ⟨h.nm,h.kind,Kx,Kx,h.pf,h.pt,h.resp,(λ_ h=>by cases h),(λ_ h=>by cases h),(λ_ h=>by cases h),Zbd,Zbd,(λ_ h=>by cases h),h.pos,h.left,h.right,h.pz,h.dir,h.lresp,(Nat.zero_le _)⟩
 ·rw [bare_2 k];exact ⟨h.nm,h.kind,Kx,Kx,Kx,Kx,h.resp,h.gz,h.ex,h.fa,Zbd,Zbd,h.send,h.pos,h.left,h.right,h.pz,h.dir,h.lresp,h.lguards⟩
 ·rw [bare_3 k];exact ⟨h.nm,h.kind,Kx,Kx,h.pf,h.pt,(λ_ h=>by cases h),h.gz,h.ex,h.fa,Zbd,Zbd,h.send,h.pos,h.left,h.right,h.pz,h.dir,(Nat.zero_le _),h.lguards⟩
 ·by_cases h4:top=4
  ·rw [bare_4t k h4];exact ⟨h.nm,h.kind,Kx,Kx,h.pf,h.pt,h.resp,h.gz,h.ex,h.fa,h.rd,h.wr,h.send,Kx,(λ_ h=>by cases h),(λ_ h=>by cases h),(λ_ h=>by cases h),h.dir,h.lresp,h.lguards⟩
  rw [bare_4n k h4];exact ⟨h.nm,h.kind,Kx,Kx,h.pf,h.pt,h.resp,h.gz,h.ex,h.fa,h.rd,h.wr,h.send,Kx,(λ_ h=>by cases h),(λ_ h=>by cases h),h.pz,h.dir,h.lresp,h.lguards⟩
 rw [bare_5 k];exact ⟨h.nm,h.kind,Kx,Kx,Kx,Kx,h.resp,h.gz,h.ex,h.fa,h.rd,h.wr,h.send,h.pos,h.left,h.right,h.pz,Kx,h.lresp,h.lguards⟩
theorem WU {X Y:AV} (e:X=Y) (h:Plain Y):Plain X:=e ▸ h
abbrev Zaq:List (Nat × AV):=[(2,bx 1),(4,bx 2)]
abbrev XOth_h2 (x0:Ru):List (Nat × ABlk):=[(1,.box 79 [sv x0.nm,iv x0.kind,iv 0,iv 0,iv x0.pf,iv x0.pt,Zc x0.resp,slA 6 cTh x0.gz,Zc x0.ex,Zc x0.fa,iv x0.rd,iv x0.wr,Zc x0.send,iv 0,nz,nz,Zc x0.pz,iv x0.dir]),(2,.box 79 [sv (⟨#[]⟩),iv 0,iv 0,iv 0,iv 0,iv 0,nz,nz,nz,nz,iv 0,iv 0,nz,iv 0,nz,nz,nz,iv 0])]
theorem ZcZ (hk:r.kind=1\/r.kind=2\/r.kind=3\/r.kind=4\/r.kind=5):CtrA Tryz.prog J 132 [.agg (cRu r),iv top] (.agg (cRu (bare r top))):=by
 refine YU func132 rfl (pN (Zg (Yr r)) (pN (.v _) pZ)) (n:=42) rfl (by simp) (λw0 => ?_)
 refine jB (oX 1 (.agg (cRu r)) (oZ 2 Z79 (jD (Za (oW (oY (oW (oY (kN 42 [(1,.box 79 [sv r.nm,iv r.kind,iv 0,iv 0,iv r.pf,iv r.pt,Zc r.resp,slA 6 cTh r.gz,Zc r.ex,Zc r.fa,iv r.rd,iv r.wr,Zc r.send,iv r.pos,Zc r.left,Zc r.right,Zc r.pz,iv r.dir]),(2,.box 79 [sv (⟨#[]⟩),iv 0,iv 0,iv 0,iv 0,iv 0,nz,nz,nz,nz,iv 0,iv 0,nz,iv 0,nz,nz,nz,iv 0])] [(1,iv top),(2,bx 1),(4,bx 2)] (jC (jB (oF (iv r.kind) (jA (Zh (Zi ?_)))))))))))))))
 by_cases hs1:r.kind=1
 refine Za (oe (dT hs1) (oS bT (jG (oW (oY (oW (oY (oW (oY (oW (oY (kN 42 [(1,.box 79 [sv r.nm,iv r.kind,iv 0,iv 0,iv r.pf,iv r.pt,Zc r.resp,nz,nz,nz,iv r.rd,iv r.wr,nz,iv r.pos,Zc r.left,Zc r.right,Zc r.pz,iv r.dir]),(2,.box 79 [sv (⟨#[]⟩),iv 0,iv 0,iv 0,iv 0,iv 0,nz,nz,nz,nz,iv 0,iv 0,nz,iv 0,nz,nz,nz,iv 0])] Zaq (Zf (Za (oW (oY (oW (oY (ZL ?_)))))))))))))))))))
 refine Zs (jC (kW 42 [(1,.box 79 [sv r.nm,iv r.kind,iv 0,iv 0,iv r.pf,iv r.pt,Zc r.resp,nz,nz,nz,iv (-1),iv (-1),nz,iv r.pos,Zc r.left,Zc r.right,Zc r.pz,iv r.dir]),(2,.box 79 [sv (⟨#[]⟩),iv 0,iv 0,iv 0,iv 0,iv 0,nz,nz,nz,nz,iv 0,iv 0,nz,iv 0,nz,nz,nz,iv 0])] Zaq ?_))
 refine Yp (WE 1 1 [0,0,0,0,0,0,0,0,2,2,0,0,2,0,0,0,0,0] rfl (ds:=[sv r.nm,iv r.kind,iv 0,iv 0,iv r.pf,iv r.pt,Zc r.resp,nz,.fr ((.sl 1 0 [])),.fr ((.sl 1 0 [])),iv (-1),iv (-1),.fr ((.sl 1 0 [])),iv r.pos,Zc r.left,Zc r.right,Zc r.pz,iv r.dir]) (by kernel_rfl) (by kernel_rfl)) ?_
 refine Yp (WE 1 6 [0,0,0,0,0,0,0,2,0,0,0,0,0,0,0,0,0,0] rfl (ds:=[sv r.nm,iv r.kind,iv 0,iv 0,iv r.pf,iv r.pt,Zc r.resp,.fr ((.sl 6 0 [])),.fr ((.sl 1 0 [])),.fr ((.sl 1 0 [])),iv (-1),iv (-1),.fr ((.sl 1 0 [])),iv r.pos,Zc r.left,Zc r.right,Zc r.pz,iv r.dir]) (by kernel_rfl) (by kernel_rfl)) ?_
 refine Za (oW (oY (kN 42 [(2,.box 79 [sv r.nm,iv r.kind,iv 0,iv 0,iv r.pf,iv r.pt,Zc r.resp,.fr ((.sl 6 0 [])),.fr ((.sl 1 0 [])),.fr ((.sl 1 0 [])),iv (-1),iv (-1),.fr ((.sl 1 0 [])),iv r.pos,Zc r.left,Zc r.right,Zc r.pz,iv r.dir])] [(4,bx 2)] (Zf (ZQ ?_)))))
 refine YJ [(2,.box 79 [sv r.nm,iv r.kind,iv 0,iv 0,iv r.pf,iv r.pt,Zc r.resp,.fr ((.sl 6 0 [])),.fr ((.sl 1 0 [])),.fr ((.sl 1 0 [])),iv (-1),iv (-1),.fr ((.sl 1 0 [])),iv r.pos,Zc r.left,Zc r.right,Zc r.pz,iv r.dir])] results132 (.cellS rfl rfl U79 rfl (z:=18) (by kernel_rfl) rfl (by decide)) (by kernel_rfl) rfl rfl ?_ ?_
 ·exact WU (Y := .agg (cRu { r with frm:=0,«to» := 0,gz:=[],ex:=[],fa:=[],send:=[],rd := -1,wr := -1 })) (by kernel_rfl) (Zg (Yr _))
 ·rw [bare_1 hs1];kernel_rfl
 refine Za (oe (dF hs1) (oS bF (jI (Zi ?_))))
 by_cases hs2:r.kind=2
 refine Za (oe (dT hs2) (oS bT (jG (oW (oY (oW (oY (kN 42 [(1,.box 79 [sv r.nm,iv r.kind,iv 0,iv 0,iv 0,iv 0,Zc r.resp,slA 6 cTh r.gz,Zc r.ex,Zc r.fa,iv r.rd,iv r.wr,Zc r.send,iv r.pos,Zc r.left,Zc r.right,Zc r.pz,iv r.dir]),(2,.box 79 [sv (⟨#[]⟩),iv 0,iv 0,iv 0,iv 0,iv 0,nz,nz,nz,nz,iv 0,iv 0,nz,iv 0,nz,nz,nz,iv 0])] Zaq (Zf (Za (oW (oY (oW (oY (ZL (Zs (jC (Za ?_))))))))))))))))))
 refine oW (oY (kN 42 [(2,.box 79 [sv r.nm,iv r.kind,iv 0,iv 0,iv 0,iv 0,Zc r.resp,slA 6 cTh r.gz,Zc r.ex,Zc r.fa,iv (-1),iv (-1),Zc r.send,iv r.pos,Zc r.left,Zc r.right,Zc r.pz,iv r.dir])] [(4,bx 2)] (Zf (ZQ ?_))))
 refine YJ [(2,.box 79 [sv r.nm,iv r.kind,iv 0,iv 0,iv 0,iv 0,Zc r.resp,slA 6 cTh r.gz,Zc r.ex,Zc r.fa,iv (-1),iv (-1),Zc r.send,iv r.pos,Zc r.left,Zc r.right,Zc r.pz,iv r.dir])] results132 (.cellS rfl rfl U79 rfl (z:=18) (by kernel_rfl) rfl (by decide)) (by kernel_rfl) rfl rfl ?_ ?_
 ·exact WU (Y := .agg (cRu { r with frm:=0,«to» := 0,pf:=0,pt:=0,rd := -1,wr := -1 })) (by kernel_rfl) (Zg (Yr _))
 ·rw [bare_2 hs2];kernel_rfl
 refine Za (oe (dF hs2) (oS bF (jI (Zi ?_))))
 by_cases hs3:r.kind=3
 refine Za (oe (dT hs3) (oS bT (jG (oW (oY (kN 42 [(1,.box 79 [sv r.nm,iv r.kind,iv 0,iv 0,iv r.pf,iv r.pt,nz,slA 6 cTh r.gz,Zc r.ex,Zc r.fa,iv r.rd,iv r.wr,Zc r.send,iv r.pos,Zc r.left,Zc r.right,Zc r.pz,iv r.dir]),(2,.box 79 [sv (⟨#[]⟩),iv 0,iv 0,iv 0,iv 0,iv 0,nz,nz,nz,nz,iv 0,iv 0,nz,iv 0,nz,nz,nz,iv 0])] Zaq (Zf (Za (oW (oY (oW (oY (ZL (Zs (jC (kW 42 [(1,.box 79 [sv r.nm,iv r.kind,iv 0,iv 0,iv r.pf,iv r.pt,nz,slA 6 cTh r.gz,Zc r.ex,Zc r.fa,iv (-1),iv (-1),Zc r.send,iv r.pos,Zc r.left,Zc r.right,Zc r.pz,iv r.dir]),(2,.box 79 [sv (⟨#[]⟩),iv 0,iv 0,iv 0,iv 0,iv 0,nz,nz,nz,nz,iv 0,iv 0,nz,iv 0,nz,nz,nz,iv 0])] Zaq ?_))))))))))))))))
 refine Yp (WE 1 1 [0,0,0,0,0,0,2,0,0,0,0,0,0,0,0,0,0,0] rfl (ds:=[sv r.nm,iv r.kind,iv 0,iv 0,iv r.pf,iv r.pt,.fr ((.sl 1 0 [])),slA 6 cTh r.gz,Zc r.ex,Zc r.fa,iv (-1),iv (-1),Zc r.send,iv r.pos,Zc r.left,Zc r.right,Zc r.pz,iv r.dir]) (by kernel_rfl) (by kernel_rfl)) ?_
 refine Za (oW (oY (kN 42 [(2,.box 79 [sv r.nm,iv r.kind,iv 0,iv 0,iv r.pf,iv r.pt,.fr ((.sl 1 0 [])),slA 6 cTh r.gz,Zc r.ex,Zc r.fa,iv (-1),iv (-1),Zc r.send,iv r.pos,Zc r.left,Zc r.right,Zc r.pz,iv r.dir])] [(4,bx 2)] (Zf (ZQ ?_)))))
 refine YJ [(2,.box 79 [sv r.nm,iv r.kind,iv 0,iv 0,iv r.pf,iv r.pt,.fr ((.sl 1 0 [])),slA 6 cTh r.gz,Zc r.ex,Zc r.fa,iv (-1),iv (-1),Zc r.send,iv r.pos,Zc r.left,Zc r.right,Zc r.pz,iv r.dir])] results132 (.cellS rfl rfl U79 rfl (z:=18) (by kernel_rfl) rfl (by decide)) (by kernel_rfl) rfl rfl ?_ ?_
 ·exact WU (Y := .agg (cRu { r with frm:=0,«to» := 0,resp:=[],rd := -1,wr := -1 })) (by kernel_rfl) (Zg (Yr _))
 ·rw [bare_3 hs3];kernel_rfl
 refine Za (oe (dF hs3) (oS bF (jI (Zi ?_))))
 by_cases hs4:r.kind=4
 refine Za (oe (dT hs4) (oS bT (jG (oW (oY (oW (oY (oW (oY (kN 42 (XOth_h2 r) [(1,iv top),(2,bx 1),(4,bx 2)] (jC ?_)))))))))))
 by_cases hs5:top=4
 refine Za (oW (oe (dT hs5) (jH (Za (oW (oY (ZL (Zs (jC (kW 42 [(1,.box 79 [sv r.nm,iv r.kind,iv 0,iv 0,iv r.pf,iv r.pt,Zc r.resp,slA 6 cTh r.gz,Zc r.ex,Zc r.fa,iv r.rd,iv r.wr,Zc r.send,iv 0,nz,nz,nz,iv r.dir]),(2,.box 79 [sv (⟨#[]⟩),iv 0,iv 0,iv 0,iv 0,iv 0,nz,nz,nz,nz,iv 0,iv 0,nz,iv 0,nz,nz,nz,iv 0])] Zaq ?_))))))))))
 refine Yp (WE 1 1 [0,0,0,0,0,0,0,0,0,0,0,0,0,0,2,2,2,0] rfl (ds:=[sv r.nm,iv r.kind,iv 0,iv 0,iv r.pf,iv r.pt,Zc r.resp,slA 6 cTh r.gz,Zc r.ex,Zc r.fa,iv r.rd,iv r.wr,Zc r.send,iv 0,.fr ((.sl 1 0 [])),.fr ((.sl 1 0 [])),.fr ((.sl 1 0 [])),iv r.dir]) (by kernel_rfl) (by kernel_rfl)) ?_
 refine Za (oW (oY (kN 42 [(2,.box 79 [sv r.nm,iv r.kind,iv 0,iv 0,iv r.pf,iv r.pt,Zc r.resp,slA 6 cTh r.gz,Zc r.ex,Zc r.fa,iv r.rd,iv r.wr,Zc r.send,iv 0,.fr ((.sl 1 0 [])),.fr ((.sl 1 0 [])),.fr ((.sl 1 0 [])),iv r.dir])] [(4,bx 2)] (Zf (ZQ ?_)))))
 refine YJ [(2,.box 79 [sv r.nm,iv r.kind,iv 0,iv 0,iv r.pf,iv r.pt,Zc r.resp,slA 6 cTh r.gz,Zc r.ex,Zc r.fa,iv r.rd,iv r.wr,Zc r.send,iv 0,.fr ((.sl 1 0 [])),.fr ((.sl 1 0 [])),.fr ((.sl 1 0 [])),iv r.dir])] results132 (.cellS rfl rfl U79 rfl (z:=18) (by kernel_rfl) rfl (by decide)) (by kernel_rfl) rfl rfl ?_ ?_
 ·exact WU (Y := .agg (cRu { r with frm:=0,«to» := 0,pos:=0,left:=[],right:=[],pz:=[] })) (by kernel_rfl) (Zg (Yr _))
 ·rw [bare_4t hs4 hs5];kernel_rfl
 refine Za (oW (oe (dF hs5) (jI (Zj (Zs (jC (kW 42 (XOth_h2 r) Zaq ?_)))))))
 refine Yp (WE 1 1 [0,0,0,0,0,0,0,0,0,0,0,0,0,0,2,2,0,0] rfl (ds:=[sv r.nm,iv r.kind,iv 0,iv 0,iv r.pf,iv r.pt,Zc r.resp,slA 6 cTh r.gz,Zc r.ex,Zc r.fa,iv r.rd,iv r.wr,Zc r.send,iv 0,.fr ((.sl 1 0 [])),.fr ((.sl 1 0 [])),Zc r.pz,iv r.dir]) (by kernel_rfl) (by kernel_rfl)) ?_
 refine Za (oW (oY (kN 42 [(2,.box 79 [sv r.nm,iv r.kind,iv 0,iv 0,iv r.pf,iv r.pt,Zc r.resp,slA 6 cTh r.gz,Zc r.ex,Zc r.fa,iv r.rd,iv r.wr,Zc r.send,iv 0,.fr ((.sl 1 0 [])),.fr ((.sl 1 0 [])),Zc r.pz,iv r.dir])] [(4,bx 2)] (Zf (ZQ ?_)))))
 refine YJ [(2,.box 79 [sv r.nm,iv r.kind,iv 0,iv 0,iv r.pf,iv r.pt,Zc r.resp,slA 6 cTh r.gz,Zc r.ex,Zc r.fa,iv r.rd,iv r.wr,Zc r.send,iv 0,.fr ((.sl 1 0 [])),.fr ((.sl 1 0 [])),Zc r.pz,iv r.dir])] results132 (.cellS rfl rfl U79 rfl (z:=18) (by kernel_rfl) rfl (by decide)) (by kernel_rfl) rfl rfl ?_ ?_
 ·exact WU (Y := .agg (cRu { r with frm:=0,«to» := 0,pos:=0,left:=[],right:=[] })) (by kernel_rfl) (Zg (Yr _))
 ·rw [bare_4n hs4 hs5];kernel_rfl
 refine Za (oe (dF hs4) (oS bF (jI (jB (oC (ZH rfl (dT (by omega))) I0 I0 (oS bT (jH (Za (oW (oY (oW (oY (oW (oY (ZL (Zs (jC ?_)))))))))))))))))
 refine Za (oW (oY (kN 42 [(2,.box 79 [sv r.nm,iv r.kind,iv 0,iv 0,iv 0,iv 0,Zc r.resp,slA 6 cTh r.gz,Zc r.ex,Zc r.fa,iv r.rd,iv r.wr,Zc r.send,iv r.pos,Zc r.left,Zc r.right,Zc r.pz,iv 0])] [(4,bx 2)] (Zf (ZQ ?_)))))
 refine YJ [(2,.box 79 [sv r.nm,iv r.kind,iv 0,iv 0,iv 0,iv 0,Zc r.resp,slA 6 cTh r.gz,Zc r.ex,Zc r.fa,iv r.rd,iv r.wr,Zc r.send,iv r.pos,Zc r.left,Zc r.right,Zc r.pz,iv 0])] results132 (.cellS rfl rfl U79 rfl (z:=18) (by kernel_rfl) rfl (by decide)) (by kernel_rfl) rfl rfl ?_ ?_
 ·exact WU (Y := .agg (cRu { r with frm:=0,«to» := 0,pf:=0,pt:=0,dir:=0 })) (by kernel_rfl) (Zg (Yr _))
 rw [bare_5 (by omega)];kernel_rfl
theorem plainR_el (lo:Nat) (w:World) (kind:Int) (h:I64 kind):RuEl lo w [.string ⟨#[]⟩,.int .i64 kind,.int .i64 0,.int .i64 0,.int .i64 0,.int .i64 0,.slice none 0 0,.slice none 0 0,.slice none 0 0,.slice none 0 0,.int .i64 (-1),.int .i64 (-1),.slice none 0 0,.int .i64 0,.slice none 0 0,.slice none 0 0,.slice none 0 0,.int .i64 0] (plainR kind) :=
 ⟨_,_,_,_,_,_,_,_,rfl,by show (⟨#[]⟩:ByteArray).size<=maxLen;simp [ByteArray.size,maxLen],h,Kx,Kx,Kx,Kx,Ww _ _,ths_nil _ _,Ww _ _,Ww _ _,Zbd,Zbd,Ww _ _,Kx,Ww _ _,Ww _ _,Ww _ _,Kx⟩
variable {lo:Nat}{w:World}
theorem th_puo {F ok:Nat->Prop} (g:Th) (vs:List Value) (h:ThEl lo w vs g):∀ j (hj:j<(cTh g).length),Pu F w ok (cTh g)[j] (vs.getD j undef):=by
 obtain ⟨rfl,_⟩:=h
 intro j hj
 match j,hj with
 | 0,_=>exact .v _
 | 1,_=>exact .v _
 | 2,_=>exact .v _
 | 3,_=>exact .v _
 | 4,_=>exact .v _
 | 5,_=>exact .v _
theorem ru_puo {F ok:Nat->Prop} (hok:∀ b,lo<=b->b<w.heap.size->ok b) (r:Ru) (vs:List Value) (h:RuEl lo w vs r):∀ j (hj:j<(cRu r).length),Pu F w ok (cRu r)[j] (vs.getD j undef):=by
 obtain ⟨v6,v7,v8,v9,v12,v14,v15,v16,rfl,h0,h1,h2,h3,h4,h5,h6,h7,h8,h9,h10,h11,h12,h13,h14,h15,h16,h17⟩:=h
 intro j hj
 match j,hj with
 | 0,_=>exact .v _
 | 1,_=>exact .v _
 | 2,_=>exact .v _
 | 3,_=>exact .v _
 | 4,_=>exact .v _
 | 5,_=>exact .v _
 | 6,_=>exact YT hok h6
 | 7,_=>exact sl_pu lenTh hok th_puo h7
 | 8,_=>exact YT hok h8
 | 9,_=>exact YT hok h9
 | 10,_=>exact .v _
 | 11,_=>exact .v _
 | 12,_=>exact YT hok h12
 | 13,_=>exact .v _
 | 14,_=>exact YT hok h14
 | 15,_=>exact YT hok h15
 | 16,_=>exact YT hok h16
 | 17,_=>exact .v _
 | j+18,hj=>exact absurd hj (by rw [lenRu];omega)
theorem samePl_c {r s:Ru} (hr:RuOk r) (hs:RuOk s):Ctr Tryz.prog J 131 [.agg (cRu s),.agg [sv (⟨#[]⟩),iv r.kind,iv 0,iv 0,iv 0,iv 0,nz,nz,nz,nz,iv (-1),iv (-1),nz,iv 0,nz,nz,nz,iv 0]] (bv (samP s (plainR r.kind))):=ctr2 λw v v' _ h h'=>by
 obtain ⟨us,rfl,hl',hu⟩:=Yt h'
 have e:=cells18 hl'
 rw [(hu 0 (by show 0<18;omega)).v_inv,(hu 1 (by show 1<18;omega)).v_inv,(hu 2 (by show 2<18;omega)).v_inv,(hu 3 (by show 3<18;omega)).v_inv,(hu 4 (by show 4<18;omega)).v_inv,(hu 5 (by show 5<18;omega)).v_inv,(hu 6 (by show 6<18;omega)).v_inv,(hu 7 (by show 7<18;omega)).v_inv,(hu 8 (by show 8<18;omega)).v_inv,(hu 9 (by show 9<18;omega)).v_inv,(hu 10 (by show 10<18;omega)).v_inv,(hu 11 (by show 11<18;omega)).v_inv,(hu 12 (by show 12<18;omega)).v_inv,(hu 13 (by show 13<18;omega)).v_inv,(hu 14 (by show 14<18;omega)).v_inv,(hu 15 (by show 15<18;omega)).v_inv,(hu 16 (by show 16<18;omega)).v_inv,(hu 17 (by show 17<18;omega)).v_inv] at e
 have hp:RuEl 0 w us (plainR r.kind):=by rw [e];exact plainR_el 0 w r.kind hr.kind
 exact Ze6 (J:=λ_=>True) hs hp.ok w #[v,.agg us.toArray] (λ_ _=>T0) rfl λj hj=>(match j,hj with
  | 0,_=>h
  | 1,_ => .agg (by rw [lenRu];simpa using hl') λj hj=>by have:=ru_puo (F:=λ_=>True) (ok:=λb=>b<w.heap.size) (λ_ _ hb=>hb) (plainR r.kind) us hp j hj;simpa [List.getD_eq_getElem?_getD] using this)
theorem ZaC (hk:r.kind=1\/r.kind=2\/r.kind=3\/r.kind=4\/r.kind=5) (HR:RuOk r):Ctr Tryz.prog J 121 [.agg (cRu r),iv top] (bv<|othB r top):=by
 refine Zn func121 rfl (pN (Zg<|Yr r)<|pN (.v _) pZ) (n:=12) rfl (by simp)<|λw0 => jB<|oA (ZC (X := .agg (cRu r)) (.tmp 0) rfl rfl rfl) I0<|oS bF<|jD ?_
 refine tD<|dA (Zl (z:=18) (.tmp 2) rfl U79 rfl (by kernel_rfl) rfl rfl) I0<|dS (iv top)<|dD (Kp (c := .func 132) (xs := #[.tmp 5,.tmp 6]) (ZcZ hk) rfl (by kernel_rfl) rfl (Xs:=[.agg (cRu r),iv top]) rfl rfl) I0 I0 I0<|dW<|dS (iv r.kind)<|dD (YQ [(.tmp 9,.int .i64 r.kind),(.const (.int .i64 (-1)),.int .i64 (-1)),(.const (.int .i64 (-1)),.int .i64 (-1))] #[.string (⟨#[]⟩),.int .i64 r.kind,.int .i64 0,.int .i64 0,.int .i64 0,.int .i64 0,.slice none 0 0,.slice none 0 0,.slice none 0 0,.slice none 0 0,.int .i64 (-1),.int .i64 (-1),.slice none 0 0,.int .i64 0,.slice none 0 0,.slice none 0 0,.slice none 0 0,.int .i64 0] rfl rfl (by kernel_rfl) rfl) I0 I0 I0<|dk (samePl_c HR<|bareOk hk HR) [.agg (cRu<|bare r top),.agg [sv (⟨#[]⟩),iv r.kind,iv 0,iv 0,iv 0,iv 0,nz,nz,nz,nz,iv (-1),iv (-1),nz,iv 0,nz,nz,nz,iv 0]] rfl rfl<|dS (bv<|samP (bare r top)<|plainR r.kind)<|eD ?_
 exact Zf<|ZQ<|Zd results121 (.tmp rfl)<|rfl
end Go.Proofs.YtmpgnibfhjdfpaaGreat
namespace Go.Proofs.YtmpgnibfhjdfpaaGreat
end Go.Proofs.YtmpgnibfhjdfpaaGreat
namespace Go.Proofs.YtmpgnibfhjdfpaaGreat
open Go.RowKit Go.Deep Tryz
def orL:List Int->Int
 | []=>0
 | x::xs=>if x=0 then orL xs else x
set_option maxHeartbeats 12800000
theorem OrE_full (b off n cap:Nat) (w:World) (xs:List Int) (hx:xs.length=n) (hn:n<=9223372036854775807)
 (hc:∀ i,i<n->w.cell? ⟨b,off+i,none⟩=some (.int .i64 (xs.getD i 0))) :
 Calls Tryz.prog 94 #[.slice (some ⟨b,off,none⟩) n cap] w λe w'=>e = .returned (.int .i64 (orL xs))/\w=w':=by
 have HC:=Lib.hid hc
 have HX:=Lib.hid hx
 clear hc hx
 go_enter func94,ntmps94
 go_wp2_with fail
 go_loop [8] (λu=>∃ k:Nat,k<=n/\u = .int .i64 k/\orL (xs.drop k)=orL xs) (λu=>n-(intOf u).toNat)
 case atStart=>exact ⟨0,Nat.zero_le _,rfl,rfl⟩
 case round =>
  obtain ⟨k,hk,rfl,hs⟩:=hrel
  have HS:=Lib.hid hs
  clear hs
  by_cases hlt:k<n
  ·have g1:=HC.out k hlt
   have HD:=Lib.hid (show orL (xs.drop k)=if xs.getD k 0=0 then orL (xs.drop (k+1)) else xs.getD k 0 by
    have hd:xs.drop k=xs[k]'(by rw [HX.out];exact hlt)::xs.drop (k+1):=List.drop_eq_getElem_cons _
    rw [hd,orL,show xs.getD k 0=xs[k]'(by rw [HX.out];exact hlt) by simp [List.getD,List.getElem?_eq_getElem (show k<xs.length by rw [HX.out];exact hlt)]])
   generalize hX:xs.getD k 0=x at g1 HD
   clear hX
   by_cases x0:x=0
   ·subst x0
    go_wp2_with fail
    go_round
    case rel=>exact ⟨k+1,by omega,by go_num,by rw [<- HS.out,HD.out,if_pos rfl]⟩
    case measure=>simp [intOf];omega
   have x3:(x != 0)=true:=by simpa using x0
   have XX:=Lib.hid x0
   clear x0
   go_wp2_with fail
   go_ret
   exact ⟨ZA (by rw [<- HS.out,HD.out,if_neg XX.out]),rfl⟩
  have HE:=Lib.hid (show orL xs=0 by rw [<- HS.out,List.drop_eq_nil_of_le (by rw [HX.out];omega),orL])
  go_wp2_with fail
  go_ret
  exact ⟨ZA (by rw [HE.out]),rfl⟩
variable {w:World}{g n:Nat}
theorem ZaN {t:TypeId} {cs:Array Value} (xs:List Int) (hg:w.heap[g]? = some (.cells cs t (0,0))) (hcs:cs=(xs.map (Value.int .i64)).toArray) (hn:n=xs.length) (hb:n<=1000) :
 Calls Tryz.prog 94 #[.slice (some ⟨g,0,none⟩) n n] w λe w'=>e = .returned (.int .i64 (orL xs))/\w=w' :=
 OrE_full g 0 n n w xs hn.symm (by omega) λi hi=>by
  subst hcs hn
  simp [World.cell?,hg,hi]
theorem orL_or (a:Int) (xs:List Int):orL (a::xs)=orE a (orL xs):=rfl
variable {lo:Nat}{cs:List Value}{r:Ru}
theorem Zd3 (h:RuEl lo w cs r):∃ v6 v7 v8 v9 v12 v14 v15 v16,cs=[.string r.nm,.int .i64 r.kind,.int .i64 r.frm,.int .i64 r.to,.int .i64 r.pf,.int .i64 r.pt,v6,v7,v8,v9,.int .i64 r.rd,.int .i64 r.wr,v12,.int .i64 r.pos,v14,v15,v16,.int .i64 r.dir] /\
 IsInts lo w v6 r.resp/\IsSl 6 ThEl lo w v7 r.gz/\IsInts lo w v8 r.ex/\IsInts lo w v9 r.fa/\IsInts lo w v12 r.send/\IsInts lo w v14 r.left/\IsInts lo w v15 r.right/\IsInts lo w v16 r.pz:=by
 obtain ⟨v6,v7,v8,v9,v12,v14,v15,v16,rfl,h0,h1,h2,h3,h4,h5,h6,h7,h8,h9,h10,h11,h12,h13,h14,h15,h16,h17⟩:=h
 exact ⟨v6,v7,v8,v9,v12,v14,v15,v16,rfl,h6,h7,h8,h9,h12,h14,h15,h16⟩
variable {P:Program}
theorem make_n (t e:TypeId) (z:Value) (s bytes:Nat) (ht:P.underlying t=some (.slice e)) (hinfo:(P.info? e).map (λi=>(i.zero,i.size,i.bytes))=some (some z,s,bytes))
 (n:Nat) (hbytes:bytes*n<=281474976710656) (h63:n<=9223372036854775807) (w:World) :
 (Instr.makeSlice t (.int .i64 (n:Int)) (.int .i64 (n:Int))).run P w = .ok (.slice (some ⟨w.heap.size,0,none⟩) n n) (w.alloc (.cells (madeCells z.cells (n*s)) e)):=by
 obtain ⟨i,hi,hzz⟩:=Option.map_eq_some_iff.1 hinfo
 simp only [Prod.mk.injEq] at hzz
 obtain ⟨hz,rfl,rfl⟩:=hzz
 have hb':(i.bytes:Int)*(n:Int)<=281474976710656:=by
  have h:((i.bytes*n:Nat):Int)<=281474976710656:=by omega
  rwa [Int.natCast_mul] at h
 have hr:=run_make (P:=P) w t e i z ht hi hz .i64 .i64 n n (by omega) (Int.le_refl _) hb' (by omega)
 simp only [Int.toNat_natCast] at hr
 exact hr
theorem made_get (z:Array Value) (m j:Nat) (v:Value) (hj:j<m) (hz:z[j % z.size]! = v):(madeCells z m)[j]? = some v:=by
 subst hz;simp [madeCells,hj]
def up (f:Nat->Int) (i:Nat) (v:Int):Nat->Int:=λj=>if j=i then v else f j
theorem Yx (f:Nat->Int) (i:Nat) (v:Int):up f i v i=v:=by simp [up]
variable {i j:Nat}
theorem Ka (f:Nat->Int) (v:Int) (h:j≠i):up f i v j=f j:=by simp [up,h]
def OwnF (lo:Nat) (w:World) (g m:Nat) (f:Nat->Int):Prop :=
 lo<=g/\∃ cur t,w.heap[g]? = some (.cells cur t (0,0))/\∀ j,j<m->cur[j]? = some (.int .i64 (f j))
variable {m:Nat}
theorem OwnF.lt {f:Nat->Int} (h:OwnF lo w g m f):g<w.heap.size:=by
 obtain ⟨_,cur,t,hg,_⟩:=h;exact (Array.getElem?_eq_some_iff.1 hg).1
theorem OwnF.cell {lo:Nat} {w:World} {g m:Nat} {f:Nat->Int} (h:OwnF lo w g m f) (j:Nat) (hj:j<m):w.cell? ⟨g,j,none⟩=some (.int .i64 (f j)):=by
 obtain ⟨_,cur,t,hg,hc⟩:=h
 have:=hc j hj
 simp only [World.cell?,hg]
 simpa using this
theorem OwnF.frozen {lo:Nat} {w:World} {g m:Nat} {f:Nat->Int} (h:OwnF lo w g m f) (j:Nat):w.frozen? ⟨g,j,none⟩=false:=by
 obtain ⟨_,cur,t,hg,hc⟩:=h
 simp [World.frozen?,hg]
variable {w':World}
theorem OwnF.but {f:Nat->Int} (h:OwnF lo w g m f) (hb:w'.heap[g]? = w.heap[g]?):OwnF lo w' g m f:=by
 obtain ⟨h1,cur,t,hg,hc⟩:=h;exact ⟨h1,cur,t,by rw [hb];exact hg,hc⟩
theorem OwnF.below {f:Nat->Int} (h:OwnF lo w g m f) (hb:Below w.heap.size w w'):OwnF lo w' g m f:=h.but (hb.block g h.lt)
theorem OwnF.set {f:Nat->Int} (h:OwnF lo w g m f) (i:Nat) (v:Int):OwnF lo (w.setCell ⟨g,i,none⟩ (.int .i64 v)) g m (up f i v):=by
 obtain ⟨h1,cur,t,hg,hc⟩:=h
 refine ⟨h1,cur.setIfInBounds i (.int .i64 v),t,heap_setCell_same w g i cur t _ hg,λj hj => ?_⟩
 have hcj:=hc j hj
 have hjc:j<cur.size:=(Array.getElem?_eq_some_iff.1 hcj).1
 by_cases e:i=j
 ·subst e
  rw [Yx]
  simp [hjc]
 rw [Array.getElem?_setIfInBounds_ne e,hcj,Ka _ _ (Ne.symm e)]
theorem OwnF.setOther {f:Nat->Int} (h:OwnF lo w g m f) (a:Addr) (u:Value) (hne:a.block≠g):OwnF lo (w.setCell a u) g m f :=
 h.but (Below.heap_setCell _ _ _ _ (λe=>hne e.symm))
theorem OwnF.grown {f:Nat->Int} {r:Option Nat} (h:OwnF lo w g m f) (hg:w.grownBy w' r) (hr:r≠some g):OwnF lo w' g m f :=
 h.but (hg.block g h.lt (Ne.symm hr))
structure ElT (P:Program) (T E:TypeId) (z:Value) (size bytes:Nat):Prop where
 ht:P.underlying T=some (.slice E)
 info:(P.info? E).map (λi=>(i.zero,i.size,i.bytes))=some (some z,size,bytes)
 hz:z.cells.size=size
 h0:0<size
theorem KJ {T E:TypeId} {z:Value} {size bytes:Nat} (K:ElT P T E z size bytes) {W:World} {ops:Array Oper} {rest:List Oper} {o:Oper} {a:Act} {Q:Exit->Act->World->Prop}
 (hgd:o.guard=none) (s x:Operand) (ho:o.op = .call { callee := .builtin .append,args := #[s,x],argTypes := #[T,T] })
 (base:Nat) (v:Value) (n:Nat) (xs news:List Value) (Hn:Nat) (hs:a.eval s=v) (hx:a.eval x = .slice (some ⟨Hn,0,none⟩) 1 1) (hH:W.heap.size=Hn) (hown:W.ownsRow base E size v n xs)
 (hl:news.length=size) (h1:∀ u∈news,u.oneCell'=true) (hn:(n+1)*bytes<=140737488355328) (h63:n+1<=maxLen) (hbase:base<=Hn) {B:Array Value} (hB:B=news.toArray)
 (h:∀ g cap w',w'.ownsRow base E size (.slice (some ⟨g,0,none⟩) (n+1) cap) (n+1) (xs++news)->W.grownBy w' v.ownBlock->(v.ownBlock=some g\/Hn<g)->base<=g->g<w'.heap.size->Hn<w'.heap.size->wpList P ops Q rest (a.put o.dst (.slice (some ⟨g,0,none⟩) (n+1) cap)) w') :
 wpList P ops Q (o::rest) a (W.alloc (.cells B E)):=by
 subst hB hH
 obtain ⟨i,hi,hzz⟩:=Option.map_eq_some_iff.1 K.info
 simp only [Prod.mk.injEq] at hzz
 obtain ⟨hz,hsz,hby⟩:=hzz
 refine wpList_append_lies (W.alloc (.cells news.toArray E)) hgd s x T ho base E i z size bytes K.ht hi hz hsz hby K.hz K.h0 v n xs hs (hown.alloc _) ⟨W.heap.size,0,none⟩ 1 1 news hx (by omega)
  (World.news_of_block (heap_alloc_new _ _)) h1 (by decide) h63 hn (by simp;omega) (W.heap.size+1) (by simp) λg cap w' g1 g2 g3 g4 => ?_
 have hgr:W.grownBy w' v.ownBlock:=by
  have ha:=World.grownBy_alloc W (.cells news.toArray E) v.ownBlock
  exact ⟨g2.os.trans ha.os,g2.tape.trans ha.tape,g2.output.trans ha.output,Nat.le_trans ha.size g2.size,λk hk hne=>(g2.block k (by simp;omega) hne).trans (ha.block k hk hne)⟩
 refine h g cap w' g1 hgr ?_ ?_ g4 (by have:=g2.size;simp at this;omega)
 ·rcases g3 with g3 | g3
  ·exact .inl g3
  exact .inr (by omega)
 rcases g3 with g3 | g3
 ·exact (hown.lt g g3).1
 omega
variable {base c:Nat}{e:TypeId}{a:Option Addr}
theorem row_cut {xs:List Value} (h:w.ownsRow base e 1 (.slice a (n+1) c) (n+1) xs):w.ownsRow base e 1 (.slice a n c) n (xs.take n):=by
 obtain ⟨hl,h2⟩:=h
 refine ⟨by rw [List.length_take];omega,?_⟩
 rcases h2 with ⟨_,h0⟩ | ⟨g,cap,cur,hv,hb,hg,hn,hm,hs,ht⟩
 ·omega
 simp only [Value.slice.injEq] at hv
 obtain ⟨rfl,_,rfl⟩:=hv
 exact .inr ⟨g,c,cur,rfl,hb,hg,by omega,hm,hs,by rw [<- ht,List.take_take,Nat.mul_one,Nat.mul_one,Nat.min_eq_left (by omega)]⟩
variable {size:Nat}{v:Value}
theorem K4 {xs:List Value} (h:w.ownsRow base e size v n xs):∃ a c,v = .slice a n c:=by
 rcases h.2 with ⟨rfl,rfl⟩ | ⟨g,cap,_,rfl,_⟩
 ·exact ⟨_,_,rfl⟩
 exact ⟨_,_,rfl⟩
theorem row_last {xs:List Value} (h:w.ownsRow base e 1 (.slice a (n+1) c) (n+1) (xs)):∃ g,a=some ⟨g,0,none⟩/\base<=g/\g<w.heap.size/\n<c/\c<=maxLen/\∀ j,j<n+1->w.cell? ⟨g,j,none⟩=xs[j]? := by
 obtain ⟨hl,h2⟩:=h
 rcases h2 with ⟨_,h0⟩ | ⟨g,cap,cur,hv,hb,hg,hn,hm,hs,ht⟩
 ·omega
 simp only [Value.slice.injEq] at hv
 obtain ⟨rfl,_,rfl⟩:=hv
 refine ⟨g,rfl,hb,(Array.getElem?_eq_some_iff.1 hg).1,by omega,hm,λj hj => ?_⟩
 rw [<- ht,List.getElem?_take_of_lt (by omega)]
 simp only [World.cell?,hg]
 simp
def thC (g:Th):List Value:=[.int .i64 g.msg,.int .i64 g.coef,.int .i64 g.bd.c,.int .i64 g.bd.n,.int .i64 g.bd.t,.int .i64 g.bd.f]
def thI (g:Th):Prop:=I64 g.msg/\I64 g.coef/\I64 g.bd.c/\I64 g.bd.n/\I64 g.bd.t/\I64 g.bd.f
theorem flat_get:∀ (l:List Th) (i:Nat) (hi:i<l.length) (j:Nat),j<6->(l.flatMap thC)[i*6+j]? = (thC l[i])[j]?
 | [],i,hi,_,_=>absurd hi (by simp)
 | x::xs,0,_,j,hj=>by
   rw [List.flatMap_cons,List.getElem?_append_left (by simp [thC];omega)]
   simp
 | x::xs,i+1,hi,j,hj=>by
   rw [List.flatMap_cons,List.getElem?_append_right (by simp [thC];omega),show (i+1)*6+j-(thC x).length=i*6+j by simp [thC];omega]
   exact flat_get xs i (by simpa using hi) j hj
def OwnTh (lo:Nat) (w:World) (v:Value) (l:List Th):Prop:=w.ownsRow lo 118 6 v l.length (l.flatMap thC)/\∀ g∈l,thI g
theorem OwnTh.nil (lo:Nat) (w:World):OwnTh lo w (.slice none 0 0) []:=⟨World.ownsRow_nil _ _ _ _,by simp⟩
variable {l:List Th}
theorem OwnTh.still (h:OwnTh lo w v l) (hb:Below w.heap.size w w'):OwnTh lo w' v l:=⟨Zd7 h.1 hb,h.2⟩
theorem OwnTh.sl (h:OwnTh lo w v l):IsSl 6 ThEl lo w v l:=by
 obtain ⟨⟨hl,h2⟩,hI⟩:=h
 rcases h2 with ⟨rfl,h0⟩ | ⟨g,cap,cur,rfl,hb,hg,hn,hm,hc,ht⟩
 ·exact ⟨none,0,by rw [h0],by omega,by simp [maxLen],λ_=>rfl,.inl (List.eq_nil_of_length_eq_zero h0)⟩
 refine ⟨_,_,rfl,hn,hm,by simp,.inr ⟨g,0,rfl,hb,(Array.getElem?_eq_some_iff.1 hg).1,λi hi=>⟨thC l[i],rfl,λj hj => ?_,rfl,hI _ (List.getElem_mem hi)⟩⟩⟩
 have hcell:w.cell? ⟨g,0+i*6+j,none⟩=cur[i*6+j]? := by
  simp only [World.cell?,hg];simp
 rw [hcell,<- Array.getElem?_toList,show cur.toList[i*6+j]? = (cur.toList.take (l.length*6))[i*6+j]? by rw [List.getElem?_take_of_lt (by omega)],ht]
 exact flat_get l i hi j hj
theorem elTh:ElT Tryz.prog 77 118 (.agg #[.int .i64 0,.int .i64 0,.int .i64 0,.int .i64 0,.int .i64 0,.int .i64 0]) 6 48:=⟨underlying77,by kernel_rfl,rfl,by decide⟩
theorem Zdp:(Tryz.prog.info? 118).map (·.size)=some 6:=by kernel_rfl
theorem ZcH {gs l0:List Th} (h:j<gs.length):(gs.take (j+1)).foldl addT l0=addT ((gs.take j).foldl addT l0) gs[j]:=by
 rw [List.take_succ_eq_append_getElem h,List.foldl_append];rfl
variable {rs:List Ru}
theorem ZcN (h:i<rs.length):diffG (rs.take (i+1))=rs[i].gz.foldl addT (diffG (rs.take i)):=by
 unfold diffG;rw [List.take_succ_eq_append_getElem h,List.foldl_append];rfl
theorem YG (h:IsSl 18 RuEl lo w v rs) (h8:rs.length<=8) (h2:∀ r∈rs,r.gz.length<=2) :
 Calls Tryz.prog 96 #[v] w λe w'=>∃ v',e = .returned v'/\OwnTh w.heap.size w' v' (diffG rs)/\Below w.heap.size w w':=by
 have H:=Lib.hid h
 have H2:=Lib.hid h2
 rcases Wo h with ⟨rfl,a,c,rfl⟩ | ⟨b,off,c,rfl,hbw,_⟩
 ·clear h
  go_enter func96,ntmps96
  go_wp2_with fail
  refine wp_loop_rounds 1 ?_
  rw [rounds_succ]
  go_wp2_with fail
  go_ret
  exact ⟨_,rfl,OwnTh.nil _ _,Below.refl _ _⟩
 generalize hN:rs.length=n at h8
 have HN:=Lib.hid hN
 rw [hN] at H
 clear h h2 hN
 go_enter func96,ntmps96
 go_wp2_with fail
 go_loopw [3,10] (λv u wr=>∃ (i:Nat) (a:Option Addr) (c:Nat) (l:List Th),i<=n/\u = .int .i64 i/\v = .slice a l.length c/\l=diffG (rs.take i)/\l.length<=2*i/\OwnTh w.heap.size wr (.slice a l.length c) l/\Below w.heap.size w wr) (λ_ u _=>n-(intOf u).toNat)
 case atStart=>exact ⟨0,none,0,[],Nat.zero_le _,rfl,rfl,rfl,by simp,OwnTh.nil _ _,Below.refl _ _⟩
 case round =>
  obtain ⟨i,a,ca,l,hi,rfl,rfl,hl,hlen,hO,hB⟩:=hrel
  have HO:=Lib.hid hO
  have HB:=Lib.hid hB
  have HLI:=Lib.hid hl
  clear hO hB hl
  by_cases h1:i<n
  ·have hix:i<rs.length:=by rw [HN.out];exact h1
   obtain ⟨b',off',cs,hab,_,_,hcl,hcc,hel⟩:=H.out.at i hix
   cases hab
   have HL:=Lib.hid hcl
   obtain ⟨-,-,-,-,-,pc⟩:=Zcy hel
   have PC:=Lib.hid pc
   have R1:=Lib.hid (rangeBelow (rangeOf hcl hcc) HB.out)
   obtain ⟨_,u7,_,_,_,_,_,_,hcs,_,k7,_⟩:=Zd3 hel
   have p7:cs[7]? = some u7:=by rw [hcs];rfl
   obtain ⟨a7,c7,rfl⟩:=k7.shape
   have P7:=Lib.hid p7
   have hg2:rs[i].gz.length<=2:=H2.out _ (List.getElem_mem hix)
   have DS:=Lib.hid (ZcN hix)
   generalize rs[i].gz=gs at k7 P7 hg2 DS
   have K7:=Lib.hid k7
   clear hcl hcc hel pc hcs p7 k7
   go_upto_region 4 with (fail)
   refine wp_region_lit ?_
   refine wpList_step λK hK => ?_
   go_simp
   refine hK _ _ ?_
   clear hK K
   refine ld_mid underlying79 ZaF (by rfl) (.tmp 12) (by rfl) b (off+i*18) cs (by rfl) HL.out R1.out ?_
   refine wpList_step λK hK => ?_
   go_simp
   refine hK _ _ ?_
   clear hK K
   refine Zbl (T:=79) ZaF (by rfl) (.tmp 5) (.tmp 13) (by rfl) wr.heap.size cs (by rfl) (by rfl) HL.out (Kf _ _ rfl) (by rfl) PC.out (λZ hZ hbl hsz _ => ?_)
   have ZB:=Lib.hid (show Below w.heap.size w Z from hbl _ _ HB.out.size (HB.out.trans ((Zm wr _).mono HB.out.size)))
   have ZR:=Lib.hid (show Below wr.heap.size wr Z from hbl _ _ (Nat.le_refl _) (Zm wr _))
   have z7:Z.cell? ⟨wr.heap.size,7,none⟩=some (.slice a7 gs.length c7):=Yn hZ 7 (by simpa using P7.out)
   have ZO:=Lib.hid (HO.out.still ZR.out)
   clear hZ hbl hsz ZR
   refine wpList_nil ?_
   simp only [Act.put]
   generalize hM:gs.length=m at z7 hg2
   have HM:=Lib.hid hM
   rw [hM] at K7
   clear hM
   go_wp2_with fail
   go_loopw [3,17] (λv u wr'=>∃ (j:Nat) (a:Option Addr) (c:Nat) (l':List Th),j<=m/\u = .int .i64 j/\v = .slice a l'.length c/\l'=(gs.take j).foldl addT l/\l'.length<=l.length+j/\OwnTh w.heap.size wr' (.slice a l'.length c) l'/\Below w.heap.size w wr') (λ_ u _=>m-(intOf u).toNat)
   case atStart=>exact ⟨0,a,ca,l,Nat.zero_le _,rfl,rfl,rfl,Nat.le_refl _,ZO.out,ZB.out⟩
   case round =>
    obtain ⟨j,aj,cj,l',hj,rfl,rfl,hl',hlen',hOj,hBj⟩:=hrel
    have HOj:=Lib.hid hOj
    have HBj:=Lib.hid hBj
    have HLJ:=Lib.hid hl'
    clear hOj hBj hl'
    by_cases hjm:j<m
    ·have hjx:j<gs.length:=by rw [HM.out];exact hjm
     obtain ⟨bg,og,csg,hag,_,hbgw,hcl,hcc,hel⟩:=K7.out.at j hjx
     have hbg2:=hbgw
     cases hag
     obtain ⟨hel1,hI⟩:csg=thC gs[j]/\thI gs[j]:=hel
     have HI:=Lib.hid hI
     have RG:=Lib.hid (rangeBelow (rangeOf hcl hcc) HBj.out)
     have IS:=Lib.hid (ZcH (l0:=l) hjx)
     rw [hel1] at RG
     clear hel1 hcl hcc hI
     generalize gs[j]=x at RG HI IS
     go_upto_region 7 with (fail)
     refine wp_region_lit ?_
     refine wpList_step λK hK => ?_
     go_simp
     refine hK _ _ ?_
     clear hK K
     refine ld_mid underlying118 Zdp (by rfl) (.tmp 19) (by rfl) bg (og+j*6) (thC x) (by rfl) (by rfl) RG.out ?_
     refine wpList_step λK hK => ?_
     go_simp
     refine hK _ _ ?_
     clear hK K
     obtain ⟨X,hX⟩:∃ X:World,X=wr:=⟨_,rfl⟩
     rw [<- hX] at HOj HBj ⊢
     clear hX
     refine Zbl (T:=118) Zdp (by rfl) (.tmp 7) (.tmp 20) (by rfl) X.heap.size (thC x) (by rfl) (by rfl) (by rfl) (Kf _ _ rfl) (by rfl) (by intro v hv;simp [thC] at hv;rcases hv with rfl | rfl | rfl | rfl | rfl | rfl<;>rfl) (λY hY hbl hsz _ => ?_)
     have YB:=Lib.hid (show Below w.heap.size w Y from hbl _ _ HBj.out.size (HBj.out.trans ((Zm X _).mono HBj.out.size)))
     have YR:=Lib.hid (show Below X.heap.size X Y from hbl _ _ (Nat.le_refl _) (Zm X _))
     have y0:Y.cell? ⟨X.heap.size,0,none⟩=some (.int .i64 x.msg):=Yn hY 0 (by rfl)
     have y1:Y.cell? ⟨X.heap.size,1,none⟩=some (.int .i64 x.coef):=Yn hY 1 (by rfl)
     have y2:Y.cell? ⟨X.heap.size,2,none⟩=some (.int .i64 x.bd.c):=Yn hY 2 (by rfl)
     have y3:Y.cell? ⟨X.heap.size,3,none⟩=some (.int .i64 x.bd.n):=Yn hY 3 (by rfl)
     have y4:Y.cell? ⟨X.heap.size,4,none⟩=some (.int .i64 x.bd.t):=Yn hY 4 (by rfl)
     have y5:Y.cell? ⟨X.heap.size,5,none⟩=some (.int .i64 x.bd.f):=Yn hY 5 (by rfl)
     have YO:=Lib.hid (HOj.out.still YR.out)
     have hYs:X.heap.size<Y.heap.size:=by rw [hsz];simp
     have HYS:=Lib.hid hYs
     clear hY hbl hsz YR RG
     refine wpList_nil ?_
     simp only [Act.put]
     by_cases hin:x∈l'
     ·have hd:decide (x∈l')=true:=decide_eq_true hin
      have HD:=Lib.hid hd
      have HADD:=Lib.hid (show addT l' x=l' from if_pos hin)
      clear hin hd
      go_wp2_with (go_at_call 124;(with_reducible refine (Zad x.msg x.coef x.bd.c x.bd.n x.bd.t x.bd.f YO.out.sl).mono ?_);rw [HD.out];rintro e w2 ⟨rfl,hb2⟩;have HB2:=Lib.hid hb2;clear hb2)
      go_roundw
      case rel=>exact ⟨j+1,aj,cj,l',by omega,by go_num,rfl,by rw [IS.out,<- HLJ.out,HADD.out],by omega,YO.out.still HB2.out,Zq YB.out HB2.out⟩
      case measure=>simp [intOf];omega
     have hd:decide (x∈l')=false:=decide_eq_false hin
     have HD:=Lib.hid hd
     have HADD:=Lib.hid (show addT l' x=l'++[x] from if_neg hin)
     clear hin hd
     go_wp2_with (first | (go_at_call 124;(with_reducible refine (Zad x.msg x.coef x.bd.c x.bd.n x.bd.t x.bd.f YO.out.sl).mono ?_);rw [HD.out];rintro e w2 ⟨rfl,hb2⟩;have HB2:=Lib.hid hb2;have HO2:=Lib.hid (YO.out.still hb2);have h20:=keep1 y0 hb2;have h21:=keep1 y1 hb2;have h22:=keep1 y2 hb2;have h23:=keep1 y3 hb2;have h24:=keep1 y4 hb2;have h25:=keep1 y5 hb2;clear hb2) | (at_builtin;refine KJ elTh (by rfl) (.tmp 25) (.tmp 27) (by rfl) w.heap.size _ l'.length _ (thC x) w2.heap.size (by rfl) (by rfl) (by rfl) HO2.out.1 (by rfl) (by intro v hv;simp [thC] at hv;rcases hv with rfl | rfl | rfl | rfl | rfl | rfl<;>rfl) (by omega) (by unfold maxLen;omega) ((Zq YB.out HB2.out).size) (by rfl) ?_;intro g cap w3 hown hgrow hat hlo hlt hsz))
     go_roundw
     case rel =>
      refine ⟨j+1,some ⟨g,0,none⟩,cap,l'++[x],by omega,by go_num,by simp,by rw [IS.out,<- HLJ.out,HADD.out],by simp;omega,⟨?_,?_⟩,?_⟩
      ·rw [List.length_append,List.flatMap_append];simpa using hown
      ·intro y hy
       rcases List.mem_append.1 hy with hy | hy
       ·exact HO2.out.2 y hy
       rw [List.mem_singleton.1 hy];exact HI.out
      exact (Zq YB.out HB2.out).grown hgrow (Zq YB.out HB2.out).size (ZbO HO2.out.1)
     case measure=>simp [intOf];omega
    obtain rfl:j=m:=by omega
    go_wp2_with fail
    go_roundw
    case rel =>
     have e2:l'=diffG (rs.take (i+1)):=by rw [HLJ.out,DS.out,List.take_of_length_le (by rw [HM.out];exact Nat.le_refl _),HLI.out]
     exact ⟨i+1,aj,cj,l',by omega,by go_num,rfl,e2,by omega,HOj.out,HBj.out⟩
    case measure=>simp [intOf];omega
  obtain rfl:i=n:=by omega
  go_wp2_with fail
  go_ret
  have e2:diffG (rs.take i)=diffG rs:=by rw [List.take_of_length_le (by rw [HN.out];exact Nat.le_refl _)]
  exact ⟨_,rfl,by rw [<- e2,<- HLI.out];exact HO.out,HB.out⟩
end Go.Proofs.YtmpgnibfhjdfpaaGreat
