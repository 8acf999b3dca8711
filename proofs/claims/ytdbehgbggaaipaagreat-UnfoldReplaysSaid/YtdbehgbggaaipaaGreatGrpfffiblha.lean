import Derived.LoopTactic
import Derived.Lib.Hide
import Derived.Outline
import Derived.Laws.Small
import Derived.Deep.QuietTactic
import Derived.BigQuiet
import Derived.Test.YtdbehgbggaaipaaGreatGrpdebfmneh
import Derived.Test.YtdbehgbggaaipaaGreatGrpjljjncbf
import Derived.Test.YtdbehgbggaaipaaGreatGrpomndejbf
import Derived.Test.YtdbehgbggaaipaaGreatGrpmplibfba
import Derived.Test.YtdbehgbggaaipaaGreatGrpmknfboop
set_option linter.all false
namespace Go.Proofs.YtdbehgbggaaipaaGreat
open Go.RowKit Go.Deep
set_option maxHeartbeats 12800000
variable {rs:List Ru}{s:ByteArray}{k:Nat}
theorem hasR_succ (h:k<rs.length) (hk:hasR (rs.take k) s=false) (e:(rs[k].nm.toList==s.toList)=false):hasR (rs.take (k+1)) s=false:=by
 unfold hasR at *;rw [List.take_succ_eq_append_getElem h,List.any_append,hk];simpa using e
theorem hasR_yes (h:k<rs.length) (e:(rs[k].nm.toList==s.toList)=true):hasR rs s=true:=by
 unfold hasR;rw [List.any_eq_true];exact ⟨rs[k],List.getElem_mem h,e⟩
theorem hasR_end (h:k=rs.length) (hk:hasR (rs.take k) s=false):hasR rs s=false:=by
 rwa [List.take_of_length_le (by omega)] at hk
variable {lo:Nat}{w:World}
theorem ZaO {cs:List Value} {r:Ru} (h:RuEl lo w cs r):cs.length=18∧cs[0]? = some (.string r.nm)∧r.nm.size≤maxLen∧cs[1]? = some (.int .i64 r.kind)∧I64 r.kind∧∀ v∈cs,v.oneCell'=true:=by
 obtain ⟨v6,v7,v8,v9,v12,v14,v15,v16,rfl,h0,h1,h2,h3,h4,h5,h6,h7,h8,h9,h10,h11,h12,h13,h14,h15,h16,h17⟩:=h
 obtain ⟨a6,c6,rfl⟩:=h6.shape
 obtain ⟨a7,c7,rfl⟩:=h7.shape
 obtain ⟨a8,c8,rfl⟩:=h8.shape
 obtain ⟨a9,c9,rfl⟩:=h9.shape
 obtain ⟨a12,c12,rfl⟩:=h12.shape
 obtain ⟨a14,c14,rfl⟩:=h14.shape
 obtain ⟨a15,c15,rfl⟩:=h15.shape
 obtain ⟨a16,c16,rfl⟩:=h16.shape
 exact ⟨rfl,rfl,h0,rfl,h1,by simp [Value.oneCell']⟩
theorem Zd4 (b off n cap:Nat) (w:World) (rs:List Ru) (s:ByteArray) (hx:rs.length=n) (hn:n≤9223372036854775807)
 (hc:∀ i (hi:i<rs.length),∃ cs:List Value,cs.length=18∧(∀ j,j<18→w.cell? ⟨b,off+i*18+j,none⟩=cs[j]?)∧RuEl 0 w cs rs[i]) :
 Calls Tryz.prog 106 #[.slice (some ⟨b,off,none⟩) n cap,.string s] w fun e w'=>e = .returned (.bool (hasR rs s))∧Below w.heap.size w w':=by
 have HC:=Lib.hid hc
 have HX:=Lib.hid hx
 clear hc hx
 go_enter Tryz.func106,Tryz.ntmps106
 go_wp2_with fail
 go_loopw [9] (fun v wr=>∃ k:Nat,k≤n∧v = .int .i64 k∧hasR (rs.take k) s=false∧Below w.heap.size w wr) (fun v _=>n-(intOf v).toNat)
 case atStart=>exact ⟨0,Nat.zero_le _,rfl,rfl,Below.refl _ _⟩
 case round =>
  obtain ⟨k,hk,rfl,hs,hB⟩:=hrel
  have HS:=Lib.hid hs
  have HB:=Lib.hid hB
  clear hs hB
  by_cases h1:k<n
  ·have hkx:k<rs.length:=by rw [HX.out];exact h1
   obtain ⟨cs,hl,r1,hel⟩:=HC.out k hkx
   have HL:=Lib.hid hl
   obtain ⟨-,p0,-,-,-,pc⟩:=ZaO hel
   have P0:=Lib.hid p0
   have PC:=Lib.hid pc
   have R1:=Lib.hid (rangeBelow (rangeOf hl r1) HB.out)
   clear r1 hel hl p0 pc
   go_upto_region 3 with (fail)
   refine wp_region_lit ?_
   refine wpList_step fun K hK => ?_
   go_simp
   refine hK _ _ ?_
   clear hK K
   refine ZaG Tryz.underlying57 Yr (by rfl) (.tmp 11) (by rfl) b (off+k*18) cs (by rfl) HL.out R1.out ?_
   refine wpList_step fun K hK => ?_
   go_simp
   refine hK _ _ ?_
   clear hK K
   refine KB (T:=57) Yr (by rfl) (.tmp 6) (.tmp 12) (by rfl) wr.heap.size cs (by rfl) (by rfl) HL.out (ZY _ _ rfl) (by rfl) PC.out (fun Z hZ hbl hsz _ => ?_)
   have ZB:=Lib.hid (show Below w.heap.size w Z from hbl _ _ HB.out.size (HB.out.trans ((Zd wr _).mono HB.out.size)))
   have z0:=Lib.hid (ZH hZ 0 (by simpa using P0.out))
   clear hZ hbl hsz
   by_cases he:(rs[k].nm.toList==s.toList)=true
   ·have HE:=Lib.hid he
    have z:=z0.out
    go_wp2_with fail
    go_ret
    exact ⟨Zi (hasR_yes hkx HE.out).symm,ZB.out⟩
   have he':(rs[k].nm.toList==s.toList)=false:=by simpa using he
   have HE:=Lib.hid he'
   clear he
   have z:=z0.out
   go_wp2_with fail
   go_roundw
   case rel=>exact ⟨k+1,by omega,by go_num,hasR_succ hkx HS.out HE.out,ZB.out⟩
   case measure=>simp [intOf];omega
  go_wp2_with fail
  go_ret
  exact ⟨Zi (hasR_end (by rw [HX.out];omega) HS.out).symm,HB.out⟩
variable {v:Value}
theorem ZbL (s:ByteArray) (h:IsSl 18 RuEl lo w v rs) :
 Calls Tryz.prog 106 #[v,.string s] w fun e w'=>e = .returned (.bool (hasR rs s))∧Below w.heap.size w w':=by
 obtain ⟨a,cap,rfl,hl,hm,_,hc⟩:=h.mono RuEl.mono (Nat.zero_le lo)
 unfold maxLen at hm
 rcases hc with rfl | ⟨b,off,rfl,_,_,hc⟩
 ·go_enter Tryz.func106,Tryz.ntmps106
  go_wp2_with fail
  refine wp_loop_rounds 1 ?_
  rw [rounds_succ]
  go_wp2_with fail
  go_ret
  exact ⟨rfl,Below.refl _ _⟩
 exact Zd4 _ _ _ _ _ _ _ rfl (by omega) hc
variable {J:World→Prop}
section
variable {P:Program} {o:Oper} {k:IntKind} {a b:Int} {ts:Array TypeId} {x y:Operand}
theorem Zdv (x y:Operand) (ho:o.op = .call { callee := .builtin .max,args := #[x,y],argTypes:=ts }):ASpec P J o [(x,.v (.int k a)),(y,.v (.int k b))] [] (.v (.int k (max a b))) .no :=
 ZF fun ρ B a' w _ ha _=>by
  have h1:=(ha (x,.v (.int k a)) (by simp)).v_inv
  have h2:=(ha (y,.v (.int k b)) (by simp)).v_inv
  refine ⟨_,?_,.pu (.v _)⟩
  have e:(if b>a then b else a)=max a b:=by omega
  simp [execOp,ho,resolve,invoke,builtin,h1,h2,run_max_int2,e]
end
def AV.isNilS:AV→Bool
 | .v (.slice none 0 0)=>true
 | _=>false
theorem isNilS_eq {X:AV} (h:X.isNilS=true):X = .v (.slice none 0 0):=by
 unfold AV.isNilS at h
 split at h
 ·rfl
 cases h
theorem WO {h:AHeap} {t:ATm} (k z:Nat) {T:TypeId} {cs:List AV} (m:List Nat) {ds:List AV} (hk:h k=some (.box T cs)) (hd:cs.zipIdx.map (fun p=>if m.getD p.2 0=1 then AV.any else if m.getD p.2 0=2 then .fr (.sl z 0 []) else p.1)=ds)
 (hn:(cs.zipIdx.all fun p => !(m.getD p.2 0==2)||p.1.isNilS)=true):Wk h t (fun j=>if j=k then some (.box T ds) else h j) t:=by
 subst hd
 intro J w0 ρ a w s
 refine ⟨ρ,s.wf,s.hH,s.bel,s.inv,fun j X hj => ?_,fun j hl hj => ?_,s.pin,s.tl,s.tm,s.df,fun j hj=>by show (if j=k then _ else _)=none;rw [if_neg (fun e=>by rw [e] at hj;rw [s.gh k hj] at hk;cases hk)];exact s.gh j hj⟩
 ·by_cases e:j=k
  ·subst e
   rw [if_pos rfl] at hj
   cases hj
   obtain ⟨nm,g1,b,c,n,vs,q0,q1,q2,q3⟩:=s.hp j _ hk
   refine ⟨nm,g1,b,c,n,vs,q0,q1,by simpa using q2,fun i hi => ?_⟩
   have hi':i<cs.length:=by simpa using hi
   simp only [List.getElem_map,List.getElem_zipIdx,Nat.zero_add]
   split
   ·exact .anyR
   split
   ·rename_i h2
    have h3:=List.all_eq_true.1 hn (cs[i],i) (by rw [List.mem_iff_getElem];exact ⟨i,by simpa using hi',by simp⟩)
    simp only [h2,beq_self_eq_true,Bool.not_true,Bool.false_or] at h3
    have h4:=q3 i hi'
    rw [isNilS_eq h3] at h4
    rw [h4.v_inv]
    exact .pu (.fr (.sl0 (by simp [maxLen]) (by simp)))
   exact q3 i hi'
  rw [if_neg e] at hj
  exact s.hp j X hj
 by_cases e:j=k
 ·rw [if_pos e] at hj;cases hj
 rw [if_neg e] at hj;exact s.dom j hl hj
def samK {α:Type} (xs ys:List α) (k:Nat):Prop:=xs.take k=ys.take k
theorem ZdC {α:Type} {xs ys:List α} (h:k<xs.length) (h':k<ys.length) (hk:samK xs ys k) (e:xs[k]=ys[k]):samK xs ys (k+1):=by
 unfold samK at *;rw [List.take_succ_eq_append_getElem h,List.take_succ_eq_append_getElem h',hk,e]
section
variable {α:Type} [DecidableEq α]
theorem KO {xs ys:List α} (h:k<xs.length) (h':k<ys.length) (e:xs[k]≠ys[k]):decide (xs=ys)=false:=by
 rw [decide_eq_false_iff_not];rintro rfl;exact e rfl
theorem Zco {xs ys:List α} (h:xs.length≠ys.length):decide (xs=ys)=false:=by
 rw [decide_eq_false_iff_not];rintro rfl;exact h rfl
theorem eq_end {xs ys:List α} (h:k=xs.length) (h':k=ys.length) (hk:samK xs ys k):decide (xs=ys)=true:=by
 unfold samK at hk;rw [List.take_of_length_le (by omega),List.take_of_length_le (by omega)] at hk
 rw [decide_eq_true_iff];exact hk
end
theorem Zeb (b off n cap b' off' n' cap':Nat) (w:World) (xs ys:List Int) (hx:xs.length=n) (hy:ys.length=n') (hn:n≤9223372036854775807)
 (hc:∀ i,i<n→w.cell? ⟨b,off+i,none⟩=some (.int .i64 (xs.getD i 0))) (hc':∀ i,i<n'→w.cell? ⟨b',off'+i,none⟩=some (.int .i64 (ys.getD i 0))) :
 Calls Tryz.prog 88 #[.slice (some ⟨b,off,none⟩) n cap,.slice (some ⟨b',off',none⟩) n' cap'] w fun e w'=>e = .returned (.bool (decide (xs=ys)))∧∃ q,w'=w.drewN q:=by
 have HC:=Lib.hid hc
 have HC':=Lib.hid hc'
 have HX:=Lib.hid hx
 have HY:=Lib.hid hy
 clear hc hc' hx hy
 by_cases hnn:n=n'
 ·subst hnn
  go_enter Tryz.func88,Tryz.ntmps88
  go_wp2_with fail
  go_loopw [13] (fun v wr=>∃ (k q:Nat),k≤n∧v = .int .i64 k∧samK xs ys k∧wr=w.drewN q) (fun v _=>n-(intOf v).toNat)
  case atStart=>exact ⟨0,0,Nat.zero_le _,rfl,rfl,rfl⟩
  case round =>
   obtain ⟨k,q,hk,rfl,hs,rfl⟩:=hrel
   have HS:=Lib.hid hs
   clear hs
   by_cases h1:k<n
   ·have hkx:k<xs.length:=by rw [HX.out];exact h1
    have hky:k<ys.length:=by rw [HY.out];exact h1
    have g1:=HC.out k h1
    have g2:=HC'.out k h1
    rw [show xs.getD k 0=xs[k] by simp [List.getD,List.getElem?_eq_getElem hkx]] at g1
    rw [show ys.getD k 0=ys[k] by simp [List.getD,List.getElem?_eq_getElem hky]] at g2
    generalize hX:xs[k]=x at g1
    generalize hY:ys[k]=y at g2
    have HXk:=Lib.hid hX
    have HYk:=Lib.hid hY
    clear hX hY
    by_cases he:x=y
    ·have HE:=Lib.hid he
     have e1:(x==y)=true:=by simp [he]
     have e2:(x != y)=false:=by rw [bne,e1];rfl
     clear he
     go_wp2_with fail
     go_quiet (fail)
     go_wp2_with fail
     go_roundw
     case rel=>exact ⟨k+1,q+nq,by omega,by go_num,ZdC hkx hky HS.out (by rw [HXk.out,HYk.out];exact HE.out),by first | rfl | rw [World.drewN_drewN]⟩
     case measure=>simp [intOf];omega
    have HE:=Lib.hid he
    have e1:(x==y)=false:=by simp [he]
    have e2:(x != y)=true:=by rw [bne,e1];rfl
    clear he
    go_wp2_with fail
    go_quiet (fail)
    go_wp2_with fail
    go_ret
    exact ⟨Zi (by rw [KO hkx hky (by rw [HXk.out,HYk.out];exact HE.out)]),q+nq,by first | rfl | rw [World.drewN_drewN]⟩
   have HE:=Lib.hid (eq_end (k:=k) (by rw [HX.out];omega) (by rw [HY.out];omega) HS.out)
   go_wp2_with fail
   go_ret
   exact ⟨Zi (by rw [HE.out]),q,rfl⟩
 have h1:((n:Int)==(n':Int))=false:=by simp;omega
 have h2:((n:Int) != (n':Int))=true:=by rw [bne,h1];rfl
 have E:=Lib.hid (Zco (xs:=xs) (ys:=ys) (by rw [HX.out,HY.out];exact hnn))
 clear hnn
 go_enter Tryz.func88,Tryz.ntmps88
 go_wp2_with fail
 go_ret
 exact ⟨Zi (by rw [E.out]),0,rfl⟩
theorem Za4 (a a':Option Addr) (cap n' cap':Nat) (w:World) (ys:List Int) (hy:ys.length=n') (hn:n'≤9223372036854775807) :
 Calls Tryz.prog 88 #[.slice a 0 cap,.slice a' n' cap'] w fun e w'=>e = .returned (.bool (decide ([]=ys)))∧∃ q,w'=w.drewN q:=by
 by_cases h0:n'=0
 ·subst h0
  obtain rfl:=List.eq_nil_of_length_eq_zero hy
  go_enter Tryz.func88,Tryz.ntmps88
  go_wp2_with fail
  refine wp_loop_rounds 1 ?_
  rw [rounds_succ]
  go_wp2_with fail
  go_ret
  exact ⟨rfl,0,rfl⟩
 have h1':((0:Int)==(n':Int))=false:=by simp;omega
 have h2:((0:Int) != (n':Int))=true:=by rw [bne,h1'];rfl
 have E:=Lib.hid (Zco (xs:=[]) (ys:=ys) (by simp;omega))
 clear h0
 go_enter Tryz.func88,Tryz.ntmps88
 go_wp2_with fail
 go_ret
 exact ⟨Zi (by rw [E.out]),0,rfl⟩
theorem Zc4 (a a':Option Addr) (n cap cap':Nat) (w:World) (x:Int) (xs:List Int) (hx:(x::xs).length=n) (hn:n≤9223372036854775807) :
 Calls Tryz.prog 88 #[.slice a n cap,.slice a' 0 cap'] w fun e w'=>e = .returned (.bool (decide (x::xs=[])))∧∃ q,w'=w.drewN q:=by
 have h0:0<n:=by simp at hx;omega
 have h1:((n:Int)==(0:Int))=false:=by simp;omega
 have h2:((n:Int) != (0:Int))=true:=by rw [bne,h1];rfl
 have E:=Lib.hid (Zco (xs:=x::xs) (ys:=[]) (by simp))
 clear hx
 go_enter Tryz.func88,Tryz.ntmps88
 go_wp2_with fail
 go_ret
 exact ⟨Zi (by rw [E.out]),0,rfl⟩
variable {lo':Nat}{v':Value}
theorem ZbR {xs ys:List Int} (h:IsInts lo w v xs) (h':IsInts lo' w v' ys) :
 Calls Tryz.prog 88 #[v,v'] w fun e w'=>e = .returned (.bool (decide (xs=ys)))∧∃ q,w'=w.drewN q:=by
 obtain ⟨a,cap,rfl,hl,hm,hi,hc⟩:=h
 obtain ⟨a',cap',rfl,hl',hm',hi',hc'⟩:=h'
 unfold maxLen at hm hm'
 rcases hc with rfl | ⟨b,off,rfl,_,_,hc⟩
 ·exact Za4 _ _ _ _ _ _ _ rfl (by omega)
 rcases hc' with rfl | ⟨b',off',rfl,_,_,hc'⟩
 ·cases xs with
  | nil=>exact Za4 _ _ _ _ _ _ _ rfl (by simp)
  | cons x xs=>exact Zc4 _ _ _ _ _ _ _ _ rfl (by omega)
 exact Zeb _ _ _ _ _ _ _ _ _ _ _ rfl rfl (by omega) hc hc'
theorem ZeY (b off n cap b' off' n' cap':Nat) (w:World) (xs ys:List Th) (hx:xs.length=n) (hy:ys.length=n') (hn:n≤9223372036854775807)
 (hc:∀ i (hi:i<xs.length),∃ cs:List Value,cs.length=6∧(∀ j,j<6→w.cell? ⟨b,off+i*6+j,none⟩=cs[j]?)∧ThEl 0 w cs xs[i]) (hc':∀ i (hi:i<ys.length),∃ cs:List Value,cs.length=6∧(∀ j,j<6→w.cell? ⟨b',off'+i*6+j,none⟩=cs[j]?)∧ThEl 0 w cs ys[i]) :
 Calls Tryz.prog 127 #[.slice (some ⟨b,off,none⟩) n cap,.slice (some ⟨b',off',none⟩) n' cap'] w fun e w'=>e = .returned (.bool (decide (xs=ys)))∧∃ q,w'=w.drewN q:=by
 have HC:=Lib.hid hc
 have HC':=Lib.hid hc'
 have HX:=Lib.hid hx
 have HY:=Lib.hid hy
 clear hc hc' hx hy
 by_cases hnn:n=n'
 ·subst hnn
  go_enter Tryz.func127,Tryz.ntmps127
  go_wp2_with fail
  go_loopw [13] (fun v wr=>∃ (k q:Nat),k≤n∧v = .int .i64 k∧samK xs ys k∧wr=w.drewN q) (fun v _=>n-(intOf v).toNat)
  case atStart=>exact ⟨0,0,Nat.zero_le _,rfl,rfl,rfl⟩
  case round =>
   obtain ⟨k,q,hk,rfl,hs,rfl⟩:=hrel
   have HS:=Lib.hid hs
   clear hs
   by_cases h1:k<n
   ·have hkx:k<xs.length:=by rw [HX.out];exact h1
    have hky:k<ys.length:=by rw [HY.out];exact h1
    obtain ⟨cs,_,r1,p1,_⟩:=HC.out k hkx
    obtain ⟨cs',_,r2,p2,_⟩:=HC'.out k hky
    generalize hX:xs[k]=x at p1
    generalize hY:ys[k]=y at p2
    have HXk:=Lib.hid hX
    have HYk:=Lib.hid hY
    obtain ⟨x1,x2,⟨x3,x4,x5,x6⟩⟩:=x
    obtain ⟨y1,y2,⟨y3,y4,y5,y6⟩⟩:=y
    subst p1 p2
    clear hX hY
    have g0:w.cell? ⟨b,off+k*6,none⟩=some (.int .i64 x1):=r1 0 (by omega)
    have j0:w.cell? ⟨b',off'+k*6,none⟩=some (.int .i64 y1):=r2 0 (by omega)
    have g1:w.cell? ⟨b,off+k*6+1,none⟩=some (.int .i64 x2):=r1 1 (by omega)
    have j1:w.cell? ⟨b',off'+k*6+1,none⟩=some (.int .i64 y2):=r2 1 (by omega)
    have g2:w.cell? ⟨b,off+k*6+2,none⟩=some (.int .i64 x3):=r1 2 (by omega)
    have j2:w.cell? ⟨b',off'+k*6+2,none⟩=some (.int .i64 y3):=r2 2 (by omega)
    have g3:w.cell? ⟨b,off+k*6+3,none⟩=some (.int .i64 x4):=r1 3 (by omega)
    have j3:w.cell? ⟨b',off'+k*6+3,none⟩=some (.int .i64 y4):=r2 3 (by omega)
    have g4:w.cell? ⟨b,off+k*6+4,none⟩=some (.int .i64 x5):=r1 4 (by omega)
    have j4:w.cell? ⟨b',off'+k*6+4,none⟩=some (.int .i64 y5):=r2 4 (by omega)
    have g5:w.cell? ⟨b,off+k*6+5,none⟩=some (.int .i64 x6):=r1 5 (by omega)
    have j5:w.cell? ⟨b',off'+k*6+5,none⟩=some (.int .i64 y6):=r2 5 (by omega)
    clear r1 r2
    by_cases e0:x1=y1
    ·subst e0
     by_cases e1:x2=y2
     ·subst e1
      by_cases e2:x3=y3
      ·subst e2
       by_cases e3:x4=y4
       ·subst e3
        by_cases e4:x5=y5
        ·subst e4
         by_cases e5:x6=y6
         ·subst e5
          go_wp2_with fail
          go_quiet (fail)
          go_wp2_with fail
          go_roundw
          case rel=>exact ⟨k+1,q+nq,by omega,by go_num,ZdC hkx hky HS.out (by rw [HXk.out,HYk.out]),by first | rfl | rw [World.drewN_drewN]⟩
          case measure=>simp [intOf];omega
         have e5':(x6==y6)=false:=by simp [e5]
         have HE:=Lib.hid (show (⟨x1,x2,⟨x3,x4,x5,x6⟩⟩:Th)≠⟨x1,x2,⟨x3,x4,x5,y6⟩⟩ by intro h;simp only [Th.mk.injEq,Ln.mk.injEq] at h;simp_all)
         clear e5
         go_wp2_with fail
         go_quiet (fail)
         go_wp2_with fail
         go_ret
         exact ⟨Zi (by rw [KO hkx hky (by rw [HXk.out,HYk.out];exact HE.out)]),q+nq,by first | rfl | rw [World.drewN_drewN]⟩
        have e4':(x5==y5)=false:=by simp [e4]
        have HE:=Lib.hid (show (⟨x1,x2,⟨x3,x4,x5,x6⟩⟩:Th)≠⟨x1,x2,⟨x3,x4,y5,y6⟩⟩ by intro h;simp only [Th.mk.injEq,Ln.mk.injEq] at h;simp_all)
        clear e4
        go_wp2_with fail
        go_quiet (fail)
        go_wp2_with fail
        go_ret
        exact ⟨Zi (by rw [KO hkx hky (by rw [HXk.out,HYk.out];exact HE.out)]),q+nq,by first | rfl | rw [World.drewN_drewN]⟩
       have e3':(x4==y4)=false:=by simp [e3]
       have HE:=Lib.hid (show (⟨x1,x2,⟨x3,x4,x5,x6⟩⟩:Th)≠⟨x1,x2,⟨x3,y4,y5,y6⟩⟩ by intro h;simp only [Th.mk.injEq,Ln.mk.injEq] at h;simp_all)
       clear e3
       go_wp2_with fail
       go_quiet (fail)
       go_wp2_with fail
       go_ret
       exact ⟨Zi (by rw [KO hkx hky (by rw [HXk.out,HYk.out];exact HE.out)]),q+nq,by first | rfl | rw [World.drewN_drewN]⟩
      have e2':(x3==y3)=false:=by simp [e2]
      have HE:=Lib.hid (show (⟨x1,x2,⟨x3,x4,x5,x6⟩⟩:Th)≠⟨x1,x2,⟨y3,y4,y5,y6⟩⟩ by intro h;simp only [Th.mk.injEq,Ln.mk.injEq] at h;simp_all)
      clear e2
      go_wp2_with fail
      go_quiet (fail)
      go_wp2_with fail
      go_ret
      exact ⟨Zi (by rw [KO hkx hky (by rw [HXk.out,HYk.out];exact HE.out)]),q+nq,by first | rfl | rw [World.drewN_drewN]⟩
     have e1':(x2==y2)=false:=by simp [e1]
     have HE:=Lib.hid (show (⟨x1,x2,⟨x3,x4,x5,x6⟩⟩:Th)≠⟨x1,y2,⟨y3,y4,y5,y6⟩⟩ by intro h;simp only [Th.mk.injEq,Ln.mk.injEq] at h;simp_all)
     clear e1
     go_wp2_with fail
     go_quiet (fail)
     go_wp2_with fail
     go_ret
     exact ⟨Zi (by rw [KO hkx hky (by rw [HXk.out,HYk.out];exact HE.out)]),q+nq,by first | rfl | rw [World.drewN_drewN]⟩
    have e0':(x1==y1)=false:=by simp [e0]
    have HE:=Lib.hid (show (⟨x1,x2,⟨x3,x4,x5,x6⟩⟩:Th)≠⟨y1,y2,⟨y3,y4,y5,y6⟩⟩ by intro h;simp only [Th.mk.injEq,Ln.mk.injEq] at h;simp_all)
    clear e0
    go_wp2_with fail
    go_quiet (fail)
    go_wp2_with fail
    go_ret
    exact ⟨Zi (by rw [KO hkx hky (by rw [HXk.out,HYk.out];exact HE.out)]),q+nq,by first | rfl | rw [World.drewN_drewN]⟩
   have HE:=Lib.hid (eq_end (k:=k) (by rw [HX.out];omega) (by rw [HY.out];omega) HS.out)
   go_wp2_with fail
   go_ret
   exact ⟨Zi (by rw [HE.out]),q,rfl⟩
 have h1:((n:Int)==(n':Int))=false:=by simp;omega
 have h2:((n:Int) != (n':Int))=true:=by rw [bne,h1];rfl
 have E:=Lib.hid (Zco (xs:=xs) (ys:=ys) (by rw [HX.out,HY.out];exact hnn))
 clear hnn
 go_enter Tryz.func127,Tryz.ntmps127
 go_wp2_with fail
 go_ret
 exact ⟨Zi (by rw [E.out]),0,rfl⟩
theorem ZbQ (a a':Option Addr) (cap n' cap':Nat) (w:World) (ys:List Th) (hy:ys.length=n') (hn:n'≤9223372036854775807) :
 Calls Tryz.prog 127 #[.slice a 0 cap,.slice a' n' cap'] w fun e w'=>e = .returned (.bool (decide ([]=ys)))∧∃ q,w'=w.drewN q:=by
 by_cases h0:n'=0
 ·subst h0
  obtain rfl:=List.eq_nil_of_length_eq_zero hy
  go_enter Tryz.func127,Tryz.ntmps127
  go_wp2_with fail
  refine wp_loop_rounds 1 ?_
  rw [rounds_succ]
  go_wp2_with fail
  go_ret
  exact ⟨rfl,0,rfl⟩
 have h1':((0:Int)==(n':Int))=false:=by simp;omega
 have h2:((0:Int) != (n':Int))=true:=by rw [bne,h1'];rfl
 have E:=Lib.hid (Zco (xs:=[]) (ys:=ys) (by simp;omega))
 clear h0
 go_enter Tryz.func127,Tryz.ntmps127
 go_wp2_with fail
 go_ret
 exact ⟨Zi (by rw [E.out]),0,rfl⟩
theorem Zea (a a':Option Addr) (n cap cap':Nat) (w:World) (x:Th) (xs:List Th) (hx:(x::xs).length=n) (hn:n≤9223372036854775807) :
 Calls Tryz.prog 127 #[.slice a n cap,.slice a' 0 cap'] w fun e w'=>e = .returned (.bool (decide (x::xs=[])))∧∃ q,w'=w.drewN q:=by
 have h0:0<n:=by simp at hx;omega
 have h1:((n:Int)==(0:Int))=false:=by simp;omega
 have h2:((n:Int) != (0:Int))=true:=by rw [bne,h1];rfl
 have E:=Lib.hid (Zco (xs:=x::xs) (ys:=[]) (by simp))
 clear hx
 go_enter Tryz.func127,Tryz.ntmps127
 go_wp2_with fail
 go_ret
 exact ⟨Zi (by rw [E.out]),0,rfl⟩
theorem Zcp {xs ys:List Th} (h:IsSl 6 ThEl lo w v xs) (h':IsSl 6 ThEl lo' w v' ys) :
 Calls Tryz.prog 127 #[v,v'] w fun e w'=>e = .returned (.bool (decide (xs=ys)))∧∃ q,w'=w.drewN q:=by
 obtain ⟨a,cap,rfl,hl,hm,_,hc⟩:=h.mono ThEl.mono (Nat.zero_le lo)
 obtain ⟨a',cap',rfl,hl',hm',_,hc'⟩:=h'.mono ThEl.mono (Nat.zero_le lo')
 unfold maxLen at hm hm'
 rcases hc with rfl | ⟨b,off,rfl,_,_,hc⟩
 ·exact ZbQ _ _ _ _ _ _ _ rfl (by omega)
 rcases hc' with rfl | ⟨b',off',rfl,_,_,hc'⟩
 ·cases xs with
  | nil=>exact ZbQ _ _ _ _ _ _ _ rfl (by simp)
  | cons x xs=>exact Zea _ _ _ _ _ _ _ _ rfl (by omega)
 exact ZeY _ _ _ _ _ _ _ _ _ _ _ rfl rfl (by omega) hc hc'
end Go.Proofs.YtdbehgbggaaipaaGreat
