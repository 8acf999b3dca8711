import Derived.LoopTactic
import Derived.Lib.Hide
import Derived.Outline
import Derived.Test.YtabgfofjgkibmaaProg
import Derived.Laws.StructEq
import Derived.Laws.Tables
import Derived.Deep.OwnRows
import Derived.Laws.Small
import Derived.Deep.QuietTactic
import Derived.BigQuiet
import Derived.Test.YtabgfofjgkibmaaGrpdgndkbjf
import Derived.Test.YtabgfofjgkibmaaGrpnnocpcek
import Derived.Test.YtabgfofjgkibmaaGrpnedhclko
import Derived.Test.YtabgfofjgkibmaaGrpfiakmkfi
set_option linter.all false
namespace Go.Proofs.Ytabgfofjgkibmaa
open Go.RowKit Go.Deep
set_option maxHeartbeats 12800000
theorem hasR_succ {rs:List Ru} {s:ByteArray} {k:Nat} (h:k<rs.length) (hk:hasR (rs.take k) s=false) (e:(rs[k].nm.toList==s.toList)=false):hasR (rs.take (k+1)) s=false:=by
  unfold hasR at *;rw [List.take_succ_eq_append_getElem h,List.any_append,hk];simpa using e
theorem hasR_yes {rs:List Ru} {s:ByteArray} {k:Nat} (h:k<rs.length) (e:(rs[k].nm.toList==s.toList)=true):hasR rs s=true:=by
  unfold hasR;rw [List.any_eq_true];exact ⟨rs[k],List.getElem_mem h,e⟩
theorem hasR_end {rs:List Ru} {s:ByteArray} {k:Nat} (h:k=rs.length) (hk:hasR (rs.take k) s=false):hasR rs s=false:=by
  rwa [List.take_of_length_le (by omega)] at hk
theorem rule_cells {lo:Nat} {w:World} {cs:List Value} {r:Ru} (h:RuEl lo w cs r):cs.length=18∧cs[0]? = some (.string r.nm)∧r.nm.size≤maxLen∧cs[1]? = some (.int .i64 r.kind)∧I64 r.kind∧∀ v∈cs,v.oneCell'=true:=by
  obtain ⟨v6,v7,v8,v9,v12,v14,v15,v16,rfl,h0,h1,h2,h3,h4,h5,h6,h7,h8,h9,h10,h11,h12,h13,h14,h15,h16,h17⟩:=h
  obtain ⟨a6,c6,rfl⟩:=h6.shape
  obtain ⟨a7,c7,rfl⟩:=h7.shape
  obtain ⟨a8,c8,rfl⟩:=h8.shape
  obtain ⟨a9,c9,rfl⟩:=h9.shape
  obtain ⟨a12,c12,rfl⟩:=h12.shape
  obtain ⟨a14,c14,rfl⟩:=h14.shape
  obtain ⟨a15,c15,rfl⟩:=h15.shape
  obtain ⟨a16,c16,rfl⟩:=h16.shape
  exact ⟨rfl,rfl,h0,rfl,h1,by simp [Value.oneCell']⟩
theorem hasRule_full (b off n cap:Nat) (w:World) (rs:List Ru) (s:ByteArray) (hx:rs.length=n) (hn:n≤9223372036854775807)
    (hc:∀ i (hi:i<rs.length),∃ cs:List Value,cs.length=18∧(∀ j,j<18→w.cell? ⟨b,off+i*18+j,none⟩=cs[j]?)∧RuEl 0 w cs rs[i]) :
    Calls Try.prog 73 #[.slice (some ⟨b,off,none⟩) n cap,.string s] w fun e w'=>e = .returned (.bool (hasR rs s))∧Below w.heap.size w w':=by
  have HC:=Lib.hid hc
  have HX:=Lib.hid hx
  clear hc hx
  go_enter Try.func73,Try.ntmps73
  go_wp2_with fail
  go_loopw [9] (fun v wr=>∃ k:Nat,k≤n∧v = .int .i64 k∧hasR (rs.take k) s=false∧Below w.heap.size w wr) (fun v _=>n-(intOf v).toNat)
  case atStart=>exact ⟨0,Nat.zero_le _,rfl,rfl,Below.refl _ _⟩
  case round =>
    obtain ⟨k,hk,rfl,hs,hB⟩:=hrel
    have HS:=Lib.hid hs
    have HB:=Lib.hid hB
    clear hs hB
    by_cases h1:k<n
    · have hkx:k<rs.length:=by rw [HX.out];exact h1
      obtain ⟨cs,hl,r1,hel⟩:=HC.out k hkx
      have HL:=Lib.hid hl
      obtain ⟨-,p0,-,-,-,pc⟩:=rule_cells hel
      have P0:=Lib.hid p0
      have PC:=Lib.hid pc
      have R1:=Lib.hid (rangeBelow (rangeOf hl r1) HB.out)
      clear r1 hel hl p0 pc
      go_upto_region 3 with (fail)
      refine wp_region_lit ?_
      refine wpList_step fun K hK => ?_
      go_simp
      refine hK _ _ ?_
      clear hK K
      refine ld_mid Try.underlying55 Yr (by rfl) (.tmp 11) (by rfl) b (off+k*18) cs (by rfl) HL.out R1.out ?_
      refine wpList_step fun K hK => ?_
      go_simp
      refine hK _ _ ?_
      clear hK K
      refine Kx (T:=55) Yr (by rfl) (.tmp 6) (.tmp 12) (by rfl) wr.heap.size cs (by rfl) (by rfl) HL.out (Z6 _ _ rfl) (by rfl) PC.out (fun Z hZ hbl hsz _ => ?_)
      have ZB:=Lib.hid (show Below w.heap.size w Z from hbl _ _ HB.out.size (HB.out.trans ((Zf wr _).mono HB.out.size)))
      have z0:=Lib.hid (ZS hZ 0 (by simpa using P0.out))
      clear hZ hbl hsz
      by_cases he:(rs[k].nm.toList==s.toList)=true
      · have HE:=Lib.hid he
        have z:=z0.out
        go_wp2_with fail
        go_ret
        exact ⟨Zi (hasR_yes hkx HE.out).symm,ZB.out⟩
      have he':(rs[k].nm.toList==s.toList)=false:=by simpa using he
      have HE:=Lib.hid he'
      clear he
      have z:=z0.out
      go_wp2_with fail
      go_roundw
      case rel=>exact ⟨k+1,by omega,by go_num,hasR_succ hkx HS.out HE.out,ZB.out⟩
      case measure=>simp [intOf];omega
    go_wp2_with fail
    go_ret
    exact ⟨Zi (hasR_end (by rw [HX.out];omega) HS.out).symm,HB.out⟩
theorem hasRule_any {lo:Nat} {w:World} {v:Value} {rs:List Ru} (s:ByteArray) (h:IsSl 18 RuEl lo w v rs) :
    Calls Try.prog 73 #[v,.string s] w fun e w'=>e = .returned (.bool (hasR rs s))∧Below w.heap.size w w':=by
  obtain ⟨a,cap,rfl,hl,hm,_,hc⟩:=h.mono RuEl.mono (Nat.zero_le lo)
  unfold maxLen at hm
  rcases hc with rfl | ⟨b,off,rfl,_,_,hc⟩
  · go_enter Try.func73,Try.ntmps73
    go_wp2_with fail
    refine wp_loop_rounds 1 ?_
    rw [rounds_succ]
    go_wp2_with fail
    go_ret
    exact ⟨rfl,Below.refl _ _⟩
  exact hasRule_full _ _ _ _ _ _ _ rfl (by omega) hc
section
variable {P:Program} {J:World→Prop} {o:Oper}
theorem Y0 {T:TypeId} {parts:Array (Nat × Operand)} (args:List (Operand × Value)) (cells:Array Value) {cs:List AV} (ho:o.op = .build T parts) (hp:parts.toList.map (·.2)=args.map (·.1))
    (hb:P.built T ((parts.toList.zip args).map fun p=>(p.1.1,p.2.2))=some cells) (hc:cells.toList.map AV.v=cs):ASpec P J o (args.map fun p=>(p.1,.v p.2)) [] (.agg cs) .no :=
  ZI fun ρ B a w _ ha _=>by
    subst hc
    have hl:parts.toList.length=args.length:=by simpa using congrArg List.length hp
    have e:(parts.map fun (i,x)=>(i,a.eval x)).toList=(parts.toList.zip args).map fun p=>(p.1.1,p.2.2):=by
      rw [Array.toList_map]
      refine List.ext_getElem (by simp at hl ⊢;omega) fun i h1 h2 => ?_
      have h3:i<parts.toList.length:=by simpa using h1
      have h4:i<args.length:=by omega
      have h5:parts.toList[i].2=args[i].1:=by
        have h7:(parts.toList.map (·.2))[i]'(by simpa using h3)=(args.map (·.1))[i]'(by simpa using h4):=by simp only [hp]
        simpa only [List.getElem_map] using h7
      have h6:=(ha (args[i].1,.v args[i].2) (List.mem_map_of_mem (f:=fun p:Operand × Value=>(p.1,AV.v p.2)) (List.getElem_mem h4))).v_inv
      simp only [List.getElem_map,List.getElem_zip]
      rw [← h6,← h5]
    refine ⟨.agg cells,?_,.pu (.agg (by simp) fun j hj => ?_)⟩
    · simp only [execOp,ho]
      refine Yb (run_build w T _ cells ?_)
      rw [e];exact hb
    simp only [List.getElem_map,Array.getElem_toList]
    have:j<cells.size:=by simpa using hj
    simp only [Array.getD,this,dif_pos]
    exact .v _
end
theorem Yn {h:AHeap} {t:ATm} (k0 i k:Nat) (fr:Bool) (e z:Nat) {T:TypeId} {cs ds:List AV} (hk:h k=none) (hb:h k0=some (.box T cs)) (hi:cs[i]? = some (.v (.slice none 0 0))) (hd:cs.set i (.own k)=ds) (hs:k<hand:=by decide) :
    Wk h t (fun j=>if j=k then some (.row fr e z 0 []) else if j=k0 then some (.box T ds) else h j) t:=by
  subst hd
  intro J w0 ρ a w s
  have hρ:=s.dom k hs hk
  have hkk:k0≠k:=by rintro rfl;rw [hb] at hk;cases hk
  refine ⟨upd ρ k .nil,?_⟩
  have hok:∀ b,okOf ρ b→okOf (upd ρ k .nil) b:=fun b hb j c n hj=>by
    by_cases e:j=k
    · subst e;rw [Yo] at hj;cases hj
    rw [Ym e] at hj;exact hb _ _ _ hj
  have hn:∀ j nm,ρ j=some nm→upd ρ k .nil j=some nm:=fun j nm hj=>by rw [Ym (by rintro rfl;rw [hρ] at hj;cases hj)];exact hj
  have hp:∀ X x,Pu (w0.heap.size ≤ ·) w (okOf ρ) X x→Pu (w0.heap.size ≤ ·) w (okOf (upd ρ k .nil)) X x:=fun X x hx=>hx.weak hok
  have hat:∀ j b c n,upd ρ k .nil j=some (.at b c n)→ρ j=some (.at b c n):=fun j b c n hj=>by
    by_cases e:j=k
    · subst e;rw [Yo] at hj;cases hj
    rw [Ym e] at hj;exact hj
  refine ⟨⟨fun j k b c d m n hj hk=>s.wf.inj _ _ _ _ _ _ _ (hat _ _ _ _ hj) (hat _ _ _ _ hk),fun k b c n hk=>s.wf.lo _ _ _ _ (hat _ _ _ _ hk)⟩,s.hH,s.bel,s.inv,fun j X hj => ?_,fun j hl hj => ?_,fun j hj=>(Ym (fun e=>by omega)).trans (s.pin j hj),s.tl,fun j hj=>(s.tm j hj).keep hp hn,s.df,fun j hj=>by show (if j=k then _ else if j=k0 then _ else _)=none;rw [if_neg (by have:=hand_far;omega),if_neg (fun e=>by rw [e] at hj;rw [s.gh k0 hj] at hb;cases hb)];exact s.gh j hj⟩
  · by_cases e:j=k
    · subst e
      rw [if_pos rfl] at hj
      cases hj
      exact ⟨.nil,Yo _ _ _,blk_nil _ _ _ _ _ _⟩
    rw [if_neg e] at hj
    by_cases e0:j=k0
    · subst e0
      rw [if_pos rfl] at hj
      cases hj
      obtain ⟨nm,g1,g2⟩:=s.hp j _ hb
      obtain ⟨b,c,n,vs,q0,q1,q2,q3⟩:=g2
      refine ⟨nm,hn _ _ g1,b,c,n,vs,q0,q1,by simpa using q2,fun l hl => ?_⟩
      have hl':l<cs.length:=by simpa using hl
      rw [List.getElem_set]
      split
      · rename_i e1
        subst e1
        have h1:=q3 i hl'
        have h2:cs[i] = .v (.slice none 0 0):=by
          rw [List.getElem?_eq_getElem hl'] at hi
          exact Option.some.inj hi
        rw [h2] at h1
        rw [h1.v_inv]
        exact .own (nm := .nil) (Yo _ _ _)
      exact (q3 l hl').keep hp hn
    rw [if_neg e0] at hj
    obtain ⟨nm,g1,g2⟩:=s.hp j X hj
    exact ⟨nm,hn _ _ g1,g2.keep (fun fr X x hx=>hx.weak fun b hb=>⟨hok _ hb.1,hb.2⟩) hp hn fun _ _ _ _=>rfl⟩
  by_cases e:j=k
  · rw [if_pos e] at hj;cases hj
  rw [if_neg e] at hj
  rw [Ym e]
  by_cases e0:j=k0
  · rw [if_pos e0] at hj;cases hj
  rw [if_neg e0] at hj;exact s.dom j hl hj
section
variable {P:Program} {J:World→Prop} {o:Oper}
def AV.isSl:AV→Bool
  | .sl _ _ _=>true
  | .fr (.sl _ _ _)=>true
  | _=>false
theorem pu_slice {F ok:Nat→Prop} {w:World} {z n:Nat} {cs:List AV} {v:Value} (h:Pu F w ok (.sl z n cs) v):∃ a m c,v = .slice a m c:=by
  cases h with
  | sl0 _ _=>exact ⟨_,_,_,rfl⟩
  | sl _ _ _ _ _ _ _=>exact ⟨_,_,_,rfl⟩
theorem rel_slice {ρ:Names} {B:Nat} {w:World} {X:AV} {v:Value} (h:Rel ρ B w X v) (hX:X.isSl=true):∃ a m c,v = .slice a m c:=by
  cases h with
  | pu h =>
    cases h with
    | any _=>cases hX
    | v _=>cases hX
    | agg _ _=>cases hX
    | tup _ _=>cases hX
    | fr h =>
      rename_i X
      cases X with
      | sl z n cs=>exact pu_slice h
      | _=>cases hX
    | sl0 h1 h2=>exact ⟨_,_,_,rfl⟩
    | sl _ _ _ _ _ _ _=>exact ⟨_,_,_,rfl⟩
    | el _ _ _ _=>cases hX
    | clo _ _=>cases hX
    | old _=>cases hX
  | _=>cases hX
end
variable {J:World→Prop}
section
variable {P:Program} {o:Oper}
theorem sp_makeFunc {f:FuncId} {xs:Array Operand} {Xs:List AV} (ho:o.op = .makeFunc (.func f) #[] xs) (hl:xs.size=Xs.length):ASpec P J o (xs.toList.zip Xs) [] (.clo f Xs) .no :=
  ZI fun ρ B a w _ ha _=>by
    refine ⟨.func (.func f) #[] (xs.map a.eval),?_,.clo (by simpa using hl) fun j hj => ?_⟩
    · simp only [execOp,ho]
      exact Yb (w':=w) (by simp [Instr.makeFunc])
    have hj2:j<xs.size:=by omega
    have hm:(xs[j],Xs[j])∈xs.toList.zip Xs:=by
      rw [List.mem_iff_getElem]
      exact ⟨j,by simp;omega,by simp⟩
    have:=ha _ hm
    simpa [Array.getD,hj2] using this
theorem sp_callClo {c:Operand} {xs:Array Operand} {ats:Array TypeId} {f:FuncId} {Xs Ys Cs:List AV} {u U:AV} (rd:List (Nat × ABlk)) (hC:Ctr P J f (Ys++Cs) u) (ho:o.op = .call { callee := .value c,args:=xs,argTypes:=ats })
    (hf : (P.funcs[f]?).map (fun fn => (fn.name == "runtime.NumGoroutine") || fn.body.isNone) = some false) (hl : xs.size = Xs.length) (hv : Xs.map (AV.view rd) = Ys) (hfl : Xs.all AV.flat2 = true) (hcl : (AV.clo f Cs).flat2 = true) (hcv : Cs.map (AV.viewC rd) = Cs) (hU : u.res = U) :
    ASpec P J o ((c,.clo f Cs)::xs.toList.zip Xs) rd U .no:=by
  subst hv hU
  intro ρ B a w K Q hwf hB hJ ha hr _ hk
  have hcc:=(ha (c,.clo f Cs) (by simp)).view hwf hr hcl
  simp only [AV.view,hcv] at hcc
  generalize hx:a.eval c=x at hcc
  cases hcc with
  | clo hcl' hcp =>
  rename_i caps
  refine upon_call ho hx hf ?_
  have hsz:(xs.map a.eval).size=Xs.length:=by simpa using hl
  refine (hC w (xs.map a.eval++caps) (fun w' h=>hJ w' (below_beyond h)) (by simp [hl,hcl']) fun j hj => ?_).mono fun e w' ⟨v,he,hp,hb⟩=>⟨v,he,hk ρ w' v ⟨rfl,hb.os,hb.tape,hb.output,hb.size,fun b hb' _=>hb.block b hb',fun _ _=>rfl,(fun _ _ h=>by cases h),(fun _ _ h=>by cases h),.pu (hp.mono (fun b hb' hw=>⟨⟨fun k c n hk => ?_,Nat.le_trans hB hb'.1,hb'.2⟩,hw,rfl⟩) fun b _ h=>Nat.le_trans hB h).res⟩⟩
  · have hj0:j<Xs.length+Cs.length:=by simpa using hj
    by_cases hjx:j<Xs.length
    · have hj2:j<xs.size:=by omega
      rw [List.getElem_append_left (by simpa using hjx),List.getElem_map]
      have hm:(xs[j],Xs[j])∈(c,AV.clo f Cs)::xs.toList.zip Xs:=by
        refine List.mem_cons_of_mem _ ?_
        rw [List.mem_iff_getElem]
        exact ⟨j,by simp;omega,by simp⟩
      have:=(ha _ hm).view hwf hr (List.all_eq_true.1 hfl _ (List.getElem_mem hjx))
      have e:(xs.map a.eval++caps).getD j undef=a.eval xs[j]:=by
        simp [Array.getD,hj2];omega
      rw [e];exact this
    rw [List.getElem_append_right (by simp;omega)]
    have hjc:j-Xs.length<Cs.length:=by omega
    have:=hcp (j-Xs.length) hjc
    have e:(xs.map a.eval++caps).getD j undef=caps.getD (j-Xs.length) undef:=by
      have h1:¬ j<xs.size:=by omega
      have h2:j-xs.size<caps.size:=by omega
      have h3:j<xs.size+caps.size:=by omega
      have h4:j-Xs.length=j-xs.size:=by omega
      simp [Array.getD,Array.getElem_append,h1,h2,h3,h4]
    rw [e]
    simpa using this
  have:=(hwf.lo _ _ _ _ hk).2;have:=hb'.1;omega
theorem sp_storeRow {T e':TypeId} {z zz n k off:Nat} {fr:Bool} {X:AV} {cs ds:List AV} (x y:Operand) (ho:o.op = .store T x y) (hz:(P.info? T).map (·.size)=some zz) (hX:X.cellsOf.all (fun c=>c.cell&&c.pu1)=true) (hn:fr=true→∀ d∈X.cellsOf,d.isNew=true) (hl:X.cellsOf.length=zz) (hr:off+zz≤cs.length) (hd:setAll cs off (Yh fr X.cellsOf)=ds) :
    ASpec P J o [(x,.box k off),(y,X)] [(k,.row fr e' z n cs)] (.v undef) (.st k (.row fr e' z n ds)):=by
  intro ρ B a w K Q hwf hB _ ha hr' _ hk
  obtain ⟨b,c,m,h1,h2⟩:=(ha (x,.box k off) (by simp)).box_inv
  have hy:=ha (y,X) (by simp)
  have hX1:X.cellsOf.all AV.cell=true:=List.all_eq_true.2 fun d hd=>by have:=List.all_eq_true.1 hX d hd;simp only [Bool.and_eq_true] at this;exact this.1
  have hX2:∀ d∈X.cellsOf,d.pu1=true:=fun d hd=>by have:=List.all_eq_true.1 hX d hd;simp only [Bool.and_eq_true] at this;exact this.2
  obtain ⟨h3,h4,h5⟩:=hy.cells hX1
  obtain ⟨nm,h1',xs,⟨h6,h7⟩,hxl,hrel⟩:=hr' (k,.row fr e' z n cs) (by simp)
  rw [h1] at h1';cases h1'
  rcases h7 with ⟨hv,_⟩ | ⟨g,cap,cur,hv,hBg,hg,hnc,hm,hs,ht⟩
  · cases hv
  simp only [Nm.val,Value.slice.injEq,Option.some.injEq,Addr.mk.injEq,and_true] at hv
  obtain ⟨rfl,rfl,rfl⟩:=hv
  have hsz:(a.eval y).cells.size=zz:=h3.trans hl
  have hncur:m*z≤cur.size:=by rw [hs];exact Nat.mul_le_mul_right _ hnc
  have hth:w.there b off zz:=fun j hj=>⟨by simp only [World.cell?,hg];simp;omega,frozenB hg _⟩
  obtain ⟨cur',hg',hs',hget⟩:=YU (a.eval y).cells.toList off w cur hg (by simp;omega)
  have hrun:=run_storeC (P:=P) hz (a.eval y) hsz h4 hth
  unfold Oper.wp
  simp only [execOp,ho,h2,Sem.run_bind,hrun,Result.andThen_ok,Sem.run_pure]
  obtain ⟨q1,q2,q3⟩:=setCells_os b (a.eval y).cells.toList off w
  have hlo:=hwf.lo _ _ _ _ h1
  have hkeepP:∀ {fr:Bool} {X:AV} {x:Value},Pu (B ≤ ·) w (okR ρ fr B w) X x→Pu (B ≤ ·) (w.setCells b off (a.eval y).cells.toList) (okR ρ fr B (w.setCells b off (a.eval y).cells.toList)) X x:=fun h=>h.mono (fun _ hb hw=>have:=okOf_setCells (off:=off) (vs:=(a.eval y).cells.toList) h1 hb.1 hw;⟨⟨this.1,fun e=>⟨(hb.2 e).1,soft_eq this.2.2 (hb.2 e).2⟩⟩,this.2⟩) fun _ _ h=>h
  refine hk ρ _ undef ⟨rfl,q1,q2,q3,by rw [Yl];exact Nat.le_refl _,fun b' _ hne=>YI (fun e=>by subst e;exact hne k c m rfl h1) _ _ _,fun _ _=>rfl,fun _ _ _=>rfl,fun k' X' he => ?_,.pu (.v _)⟩
  cases he
  refine ⟨_,h1,fun b' c' n' e=>by cases e;exact ⟨by rw [Yl];exact hlo.2,hlo.1,.inr ⟨_,_,h1⟩⟩,cur'.toList.take (m*z),⟨?_,.inr ⟨b,c,cur',rfl,hBg,hg',hnc,hm,by rw [hs',hs],rfl⟩⟩,?_,fun j hj => ?_⟩
  · simp;omega
  · subst hd;rw [Kk];simp;omega
  subst hd
  have hjc:j<cs.length:=by rw [Kk] at hj;exact hj
  have hjm:j<m*z:=by omega
  have hcur:=hget j
  have hval:(cur'.toList.take (m*z)).getD j undef=(cur'[j]?).getD undef:=by
    rw [List.getD_eq_getElem?_getD,List.getElem?_take,if_pos hjm,Array.getElem?_toList]
  rw [hval]
  have hlen:(Yh fr X.cellsOf).length=X.cellsOf.length:=Yy _ _
  rcases setAll_get (Yh fr X.cellsOf) cs off (by omega) j hj with ⟨e1,e2,e3⟩ | ⟨e1,e2,e3⟩
  · rw [e3,hcur,if_pos ⟨e1,by simp;omega⟩]
    have hj':j-off<X.cellsOf.length:=by omega
    have hp:=(h5 (j-off) hj').pu1 (hX2 _ (List.getElem_mem _))
    have:=hkeepP (Pu.row hn e2 hj' hp)
    rw [Array.getD_eq_getD_getElem?] at this
    simpa using this
  rw [e3,hcur,if_neg (by simp;omega)]
  have:=hkeepP (hrel j e2)
  have hx:xs.getD j undef=(cur[j]?).getD undef:=by
    rw [List.getD_eq_getElem?_getD,← ht,List.getElem?_take,if_pos hjm,Array.getElem?_toList]
  rw [hx] at this
  exact this
def AV.asVal (α:Nat→Option Addr × Nat × Nat) (k:Nat):AV→Value
  | .v x=>x
  | _ => .slice (α k).1 (α k).2.1 (α k).2.2
def AV.solid:AV→Bool
  | .v _=>true
  | .own _=>true
  | X=>X.isSl
def pickV (α:Nat→Option Addr × Nat × Nat) (Xs:List AV):Value ⊕ Nat→Value
  | .inl z=>z
  | .inr k=>(Xs.getD k .any).asVal α k
def pickA (Xs:List AV):Value ⊕ Nat→AV
  | .inl z => .v z
  | .inr k=>Xs.getD k .any
theorem rel_solid {ρ:Names} {B:Nat} {w:World} {X:AV} {v:Value} (h:Rel ρ B w X v) (hX:X.solid=true):∃ a:Option Addr × Nat × Nat,v=X.asVal (fun _=>a) 0:=by
  cases X with
  | v x=>exact ⟨(none,0,0),h.v_inv⟩
  | sl z n cs=>obtain ⟨a,m,c,e⟩:=rel_slice h hX;exact ⟨(a,m,c),e⟩
  | fr X=>obtain ⟨a,m,c,e⟩:=rel_slice h hX;exact ⟨(a,m,c),e⟩
  | own k =>
    obtain ⟨nm,_,e⟩:=h.own_inv
    cases nm with
    | nil=>exact ⟨(none,0,0),e⟩
    | «at» b c n=>exact ⟨(some ⟨b,0,none⟩,n,c),e⟩
  | _=>cases hX
theorem asVal_at {α:Nat→Option Addr × Nat × Nat} {X:AV} {k:Nat}:X.asVal (fun _=>α k) 0=X.asVal α k:=by cases X<;>rfl
theorem sp_bldN {T:TypeId} {parts:Array (Nat × Operand)} (idx:List Nat) (ops:List Operand) (Xs:List AV) (R:List (Value ⊕ Nat)) (ho:o.op = .build T parts) (hp:parts.toList=idx.zip ops) (h1:idx.length=Xs.length) (h2:ops.length=Xs.length) (hX:Xs.all AV.solid=true)
    (H:∀ α,P.built T (idx.zip ((List.range Xs.length).map fun k=>(Xs.getD k .any).asVal α k))=some (R.map (pickV α Xs)).toArray) (hR:R.all (fun r=>match r with | .inl _=>true | .inr k=>decide (k<Xs.length))=true) {ds:List AV} (hd:R.map (pickA Xs)=ds) :
    ASpec P J o (ops.zip Xs) [] (.agg ds) .no :=
  ZI fun ρ B a w _ ha _=>by
    subst hd
    have hop:∀ k,k<Xs.length→Rel ρ B w (Xs.getD k .any) (a.eval (ops.getD k (.const undef))):=fun k hk=>by
      have hk2:k<ops.length:=by omega
      have hm:(ops[k],Xs[k])∈ops.zip Xs:=by
        rw [List.mem_iff_getElem]
        exact ⟨k,by simp;omega,by simp⟩
      have:=ha _ hm
      simpa [List.getD_eq_getElem?_getD,hk,hk2] using this
    have hso:∀ k,k<Xs.length→(Xs.getD k .any).solid=true:=fun k hk=>by
      have:=List.all_eq_true.1 hX _ (List.getElem_mem hk)
      simpa [List.getD_eq_getElem?_getD,hk] using this
    obtain ⟨α,hα⟩:=choose_lt (n:=Xs.length) (p:=fun k (r:Option Addr × Nat × Nat)=>a.eval (ops.getD k (.const undef))=(Xs.getD k .any).asVal (fun _=>r) 0) fun k hk=>rel_solid (hop k hk) (hso k hk)
    refine ⟨.agg (R.map (pickV α Xs)).toArray,?_,.agg (by simp) fun j hj => ?_⟩
    · simp only [execOp,ho]
      refine Yb (run_build w T _ _ ?_)
      rw [← H α]
      congr 1
      rw [Array.toList_map,hp]
      apply List.ext_getElem
      · simp;omega
      intro k g1 g2
      have hk:k<Xs.length:=by simp at g2;omega
      have hk2:k<ops.length:=by omega
      have:=hα k hk
      rw [asVal_at] at this
      simp only [List.getElem_map,List.getElem_zip,List.getElem_range,Prod.mk.injEq,true_and]
      rw [← this]
      simp [List.getD_eq_getElem?_getD,hk2]
    have hj':j<R.length:=by simpa using hj
    simp only [List.getElem_map]
    have e:(R.map (pickV α Xs)).toArray.getD j undef=pickV α Xs R[j]:=by simp [Array.getD,hj']
    rw [e]
    have hr:=List.all_eq_true.1 hR _ (List.getElem_mem hj')
    generalize R[j]=r at hr
    cases r with
    | inl z=>exact .pu (.v z)
    | inr k =>
      have hk:k<Xs.length:=by simpa using hr
      have h3:=hα k hk
      rw [asVal_at] at h3
      simp only [pickA,pickV]
      rw [← h3]
      exact hop k hk
end
section
variable {P:Program} {w0:Wb} {h:AHeap} {t:ATm}
end
section
variable {P:Program} {o:Oper}
end
section
variable {P:Program} {w0:Wb} {ops:Array Oper} {o:Oper} {rest:List Oper} {Q:Exit→Act→World→Prop}
end
section
variable {ρ:Names} {B:Nat} {w w':World}
end
section
variable {P:Program} {o:Oper}
end
section
variable {w0:Wb} {ρ:Names} {h:AHeap} {t:ATm} {a:Act} {w:World} {k0 k:Nat} {nm:Nm}
end
section
variable {P:Program} {w0:Wb} {h:AHeap} {t:ATm}
end
def lent (k:Nat) (nm:Nm):Names:=⟨fun j=>if j=k then some nm else none,fun b=>∃ c n,nm = .at b c n⟩
theorem KH (k:Nat) (nm:Nm):lent k nm k=some nm:=if_pos rfl
theorem lent_at {k j:Nat} {nm x:Nm} (h:lent k nm j=some x):j=k∧x=nm:=by
  dsimp only [lent] at h
  split at h
  · rename_i e;exact ⟨e,(Option.some.inj h).symm⟩
  cases h
def CtrW (P:Program) (J:World→Prop) (f:FuncId) (args:List AV) (k:Nat) (Y Y':ABlk) (u:AV):Prop :=
  ∀ (w:World) (vs:Array Value) (nm:Nm),(∀ w',Beyond (lent k nm) w w'→J w')→vs.size=args.length→(∀ b c n,nm = .at b c n→b<w.heap.size)→BlkR (lent k nm) w w.heap.size nm Y →
    (∀ j (hj:j<args.length),Rel (lent k nm) w.heap.size w args[j] (vs.getD j undef)) →
    Calls P f vs w fun e w'=>∃ v,e = .returned v∧Beyond (lent k nm) w w'∧BlkR (lent k nm) w' w.heap.size nm Y'∧Rel (lent k nm) w.heap.size w' u v
def RetW (w0:Wb) (k:Nat) (Y':ABlk) (u:AV) (e:Ending) (w':World):Prop :=
  ∃ v ρ nm,e = .returned v∧(∀ j,j<hand→Names.f ρ j=none)∧(∀ j,hand≤j→Names.f ρ j=w0.N j)∧ρ.H=w0.H∧ρ k=some nm∧BlkR ρ w' w0.heap.size nm Y'∧Rel ρ w0.heap.size w' u v∧Bel w0 w'
section
variable {P:Program} {w0:Wb} {h:AHeap} {t:ATm} {k:Nat} {Y':ABlk}
theorem Sat.back {ρ:Names} {a:Act} {w:World} (s:Sat J w0 ρ h t a w) (hk:hand≤k) (hY:(h k).map (ABlk.wk (keepL []) h)=some Y') {X u:AV} {x:Value} (hr:Rel ρ w0.heap.size w X x) (hu:X.wk3 (keepL []) h=u):RetW w0 k Y' u (.returned x) w:=by
  subst hu
  obtain ⟨Y,hY0,rfl⟩:=Option.map_eq_some_iff.1 hY
  obtain ⟨nm,h1,h2⟩:=s.hp k Y hY0
  have hkb:keepL [] k=true:=by unfold keepL;rw [Bool.or_eq_true];exact .inr (Nat.ble_eq ▸ hk)
  refine ⟨x,kept (keepL []) ρ,nm,rfl,fun j hj=>kept_no ?_,fun j hj=>(Kz (by unfold keepL;rw [Bool.or_eq_true];exact .inr (Nat.ble_eq ▸ hj))).trans (s.pin j hj),s.hH,(Kz hkb).trans h1,?_,rel_wk3 s.wf s.hp hr,s.bel⟩
  · unfold keepL
    simp only [List.any_nil,Bool.false_or]
    cases e:Nat.ble hand j with
    | false=>rfl
    | true=>have:=Nat.le_of_ble_eq_true e;omega
  cases Y with
  | box T cs =>
    obtain ⟨b,c,n,vs,rfl,q1,q2,q3⟩:=h2
    exact ⟨b,c,n,vs,rfl,q1,by simpa using q2,fun j hj=>by rw [List.getElem_map];exact Y2 s.wf s.hp (q3 j (by simpa using hj))⟩
  | row fr e z n cs =>
    obtain ⟨xs,q1,q2,q3⟩:=h2
    refine ⟨xs,q1,q2,fun j hj=>(q3 j hj).weak fun b hb=>⟨fun k c n hk => ?_,hb.2⟩⟩
    dsimp only [kept] at hk
    split at hk
    · exact hb.1 _ _ _ hk
    cases hk
theorem tri_back0 {fn:Func} (hr:fn.results = #[]) (hk:hand≤k) (hY:(h k).map (ABlk.wk (keepL []) h)=some Y'):ETri J w0 h t (bodyPost P fn (RetW w0 k Y' (.v (.tuple #[]))) .ret):=fun ρ a w s=>by
  refine ⟨s.df,.tuple #[],?_,s.back hk hY (.pu (.v _)) rfl⟩
  unfold results
  rw [hr]
  simp
theorem Ki {fn:Func} {u:AV} (H:ETri J w0 h t (bodyPost P fn (RetW w0 k Y' u) .ret)):ETri J w0 h t (bodyPost P fn (RetW w0 k Y' u) .normal):=H
theorem ctrW_of_tri {f:FuncId} {fn:Func} {c:Code} {args:List AV} {Y:ABlk} {u:AV} (hk:hand≤k) (hf:P.funcs[f]? = some fn) (hb:fn.body=some c) {n:Nat} (hnt:fn.ntmps=n) (hna:args.length≤n)
    (H:∀ w0,ETri J w0 (ofL [(k,Y)]) (ofT n ((List.range args.length).zip args)) (c.wp P (bodyPost P fn (RetW w0 k Y' u)))) (hkf:k<far:=by decide):CtrW P J f args k Y Y' u:=fun w vs nm hJ hl hnm hY hv=>by
  have hlo:∀ j b c m,lent k nm j=some (.at b c m)→(w.heap.size≤b∨(lent k nm).H b∨far≤j)∧b<w.heap.size:=fun j b c m hj=>by
    obtain ⟨_,e⟩:=lent_at hj
    exact ⟨.inr (.inl ⟨c,m,e.symm⟩),hnm _ _ _ e.symm⟩
  refine (calls_of_wp hf hb (H ⟨w,(lent k nm).H,lent k nm⟩ (lent k nm) _ w ⟨⟨fun j j' b c d m m' h1 h2 => ?_,hlo⟩,rfl,Bel.refl _,(fun w' h=>hJ w' ⟨h.os,h.tape,h.output,h.size,fun b hb hok=>h.block b hb fun ⟨c,m,e⟩=>hok k c m hkf (by rw [KH,e])⟩),fun j X hj => ?_,fun j hj _ => ?_,fun _ _=>rfl,by simp [hl,hnt,ofT];omega,fun i hi => ?_,rfl,fun j hj => ?_⟩)).mono fun e w' ⟨v,ρ,nm',q1,q2,q3,q4,q5,q6,q7,q8⟩ => ?_
  · exact (lent_at h1).1.trans (lent_at h2).1.symm
  · simp only [ofL,List.find?_cons,List.find?_nil] at hj
    by_cases e:k=j
    · subst e
      simp only [beq_self_eq_true,Option.map_some,Option.some.injEq] at hj
      subst hj
      exact ⟨nm,KH _ _,hY⟩
    rw [show (k==j)=false by simpa using e] at hj
    cases hj
  · exact if_neg (by omega)
  · simp only [ofT]
    cases hf:((List.range args.length).zip args).find? fun p=>p.1==i with
    | none=>exact .anyR
    | some p =>
      have hm:=List.mem_of_find?_eq_some hf
      have hk':p.1=i:=by have:=List.find?_some hf;simpa using this
      obtain ⟨j,hj,e⟩:=List.getElem_of_mem hm
      simp only [List.getElem_zip,List.getElem_range] at e
      subst e
      dsimp only at hk'
      subst hk'
      have hj1:j<args.length:=by simp at hj;omega
      simp only [Option.map_some,Option.getD_some]
      have hj2:j<vs.size:=by omega
      have e:(vs++Array.replicate (fn.ntmps-vs.size) undef).getD j undef=vs.getD j undef:=by simp [Array.getD,hj2,Array.getElem_append_left hj2];omega
      rw [e]
      exact hv j hj1
  · simp only [ofL,List.find?_cons,List.find?_nil]
    rw [show (k==j)=false by simpa using (show k≠j by omega)];rfl
  have hρ:ρ=lent k nm:=by
    obtain ⟨f,H⟩:=ρ
    have e1:f=(lent k nm).f:=by
      funext j
      by_cases hj:j<hand
      · exact (q2 j hj).trans (if_neg (by omega)).symm
      exact q3 j (by omega)
    have e2:H=(lent k nm).H:=q4
    rw [e1,e2]
  subst hρ
  rw [KH] at q5
  cases q5
  refine ⟨v,q1,⟨q8.os,q8.tape,q8.output,q8.size,fun b hb hok=>q8.block b hb fun ⟨c,m,e⟩=>hok k c m hkf (by rw [KH,e])⟩,q6,q7⟩
end
theorem Rel.viewG {ρ:Names} {B:Nat} {w:World} {rd:List (Nat × ABlk)} {ok:Nat→Prop} (ho:∀ b,okOf ρ b→b<w.heap.size→ok b) (hr:∀ p∈rd,∃ nm,ρ p.1=some nm∧BlkR ρ w B nm p.2) (hn:∀ p∈rd,∀ b c n,ρ p.1=some (.at b c n)→ok b) {X:AV} {x:Value} (h:Rel ρ B w X x) (hf:X.flat1=true):Pu (fun _=>True) w ok (X.view1 rd) x:=by
  cases h with
  | pu h =>
    have lift:∀ {X:AV} {x:Value} {ok':Nat→Prop},(∀ b,ok' b→okOf ρ b)→Pu (B ≤ ·) w ok' X x→Pu (fun _=>True) w ok X x:=fun hs h=>h.mono (fun b hb hw=>⟨ho b (hs b hb) hw,hw,rfl⟩) fun _ _ _=>trivial
    cases h with
    | fr h=>exact lift (fun _ h=>h.1) h
    | old h=>exact lift (fun _ h=>h.1) h
    | any x=>exact .any x
    | v x=>exact .v x
    | agg hl h=>exact lift (fun _ h=>h) (Pu.agg hl h)
    | tup hl h=>exact lift (fun _ h=>h) (Pu.tup hl h)
    | clo hl h=>exact lift (fun _ h=>h) (Pu.clo hl h)
    | sl0 h2 hz=>exact .sl0 h2 hz
    | sl hc h1 h2 hb hw hq h=>exact lift (fun _ h=>h) (Pu.sl hc h1 h2 hb hw hq h)
    | el hb hw hq h=>exact lift (fun _ h=>h) (Pu.el hb hw hq h)
  | box h=>exact .any _
  | own h =>
    rename_i k nm
    simp only [AV.view1]
    split
    · rename_i q fr e z n cs hq
      have hmem:=List.mem_of_find?_eq_some hq
      obtain ⟨nm',h1,h2⟩:=hr _ hmem
      have hqk:q=k:=by have:=List.find?_some hq;simpa using this
      have hn':=hn _ hmem
      rw [hqk,h] at h1
      cases h1
      refine erow_sl h2 (fun b c m e=>hn' b c m (by rw [hqk,h,e])) (fun b hb hw=>ho b hb.1 hw) fun _ _ _=>trivial
    exact .any _
  | bsl h=>exact .any _
  | agg hl h=>cases hf
  | tup hl h=>cases hf
  | clo hl h=>cases hf
def AV.viewW1 (k kc:Nat) (rd:List (Nat × ABlk)):AV→AV
  | .box j o=>if j=k then .box kc o else .any
  | .own j=>if j=k then .own kc else AV.view1 rd (.own j)
  | X=>X.view1 rd
def AV.viewW (k kc:Nat) (rd:List (Nat × ABlk)):AV→AV
  | .agg cs => .agg (cs.map (AV.viewW1 k kc rd))
  | X=>X.viewW1 k kc rd
def AV.renW1 (kc k:Nat):AV→AV
  | .box j o=>if j=kc then .box k o else .any
  | .own j=>if j=kc then .own k else .any
  | .v x => .v x
  | .fr X => .fr X
  | _ => .any
def AV.renW2 (kc k:Nat):AV→AV
  | .agg cs => .agg (cs.map (AV.renW1 kc k))
  | X=>X.renW1 kc k
def AV.renW3 (kc k:Nat):AV→AV
  | .tup cs => .tup (cs.map (AV.renW2 kc k))
  | X=>X.renW2 kc k
section
variable {ρ:Names} {B B':Nat} {w':World} {k kc:Nat} {nm:Nm}
theorem rel_renW1 (hp:∀ X x,Pu (B ≤ ·) w' (okOf (lent kc nm)) (.fr X) x→Pu (B' ≤ ·) w' (okOf ρ) (.fr X) x) (hk:ρ k=some nm) {X:AV} {x:Value} (h:Rel (lent kc nm) B w' X x):Rel ρ B' w' (X.renW1 kc k) x:=by
  cases h with
  | pu h =>
    cases h with
    | v _=>exact .pu (.v _)
    | fr h=>exact .pu (hp _ _ (.fr h))
    | _=>exact .anyR
  | box h =>
    obtain ⟨rfl,e⟩:=lent_at h
    simp only [AV.renW1,if_true]
    exact .box (by rw [hk,e])
  | own h =>
    obtain ⟨rfl,e⟩:=lent_at h
    simp only [AV.renW1,if_true]
    rw [e]
    exact .own hk
  | _=>exact .anyR
theorem rel_renW2 (hp:∀ X x,Pu (B ≤ ·) w' (okOf (lent kc nm)) (.fr X) x→Pu (B' ≤ ·) w' (okOf ρ) (.fr X) x) (hk:ρ k=some nm) {X:AV} {x:Value} (h:Rel (lent kc nm) B w' X x):Rel ρ B' w' (X.renW2 kc k) x:=by
  cases X with
  | agg cs =>
    obtain ⟨vs,rfl,hl,hc⟩:=h.agg_inv
    exact .agg (by simpa using hl) fun j hj=>by rw [List.getElem_map];exact rel_renW1 hp hk (hc j (by simpa using hj))
  | _=>exact rel_renW1 hp hk h
theorem rel_renW3 (hp:∀ X x,Pu (B ≤ ·) w' (okOf (lent kc nm)) (.fr X) x→Pu (B' ≤ ·) w' (okOf ρ) (.fr X) x) (hk:ρ k=some nm) {X:AV} {x:Value} (h:Rel (lent kc nm) B w' X x):Rel ρ B' w' (X.renW3 kc k) x:=by
  cases X with
  | tup cs =>
    obtain ⟨vs,rfl,hl,hc⟩:=h.tup_inv
    exact .tup (by simpa using hl) fun j hj=>by rw [List.getElem_map];exact rel_renW2 hp hk (hc j (by simpa using hj))
  | _=>exact rel_renW2 hp hk h
end
def AV.safeN1:AV→Bool
  | .v _=>true
  | .fr _=>true
  | .any=>true
  | _=>false
section
variable {ρ ρ':Names} {B B':Nat} {w':World}
theorem rel_safeN1 (hp:∀ X x,Pu (B ≤ ·) w' (okOf ρ) (.fr X) x→Pu (B' ≤ ·) w' (okOf ρ') (.fr X) x) {X:AV} {x:Value} (hs:X.safeN1=true) (h:Rel ρ B w' X x):Rel ρ' B' w' X x:=by
  cases h with
  | pu h =>
    cases h with
    | v _=>exact .pu (.v _)
    | any _=>exact .anyR
    | fr h=>exact .pu (hp _ _ (.fr h))
    | _=>cases hs
  | _=>cases hs
end
def AV.flatW:AV→Bool
  | .agg cs=>cs.all AV.flat1
  | .tup _=>false
  | .clo _ _=>false
  | _=>true
inductive PlainW:AV→Prop
  | pl {X:AV} (h:Plain X):PlainW X
  | box (k o:Nat):PlainW (.box k o)
  | own (k:Nat):PlainW (.own k)
  | agg {cs:List AV} (h:∀ j (hj:j<cs.length),PlainW cs[j]):PlainW (.agg cs)
theorem PlainW.pu {F F' ok:Nat→Prop} {w:World} {Z:AV} (hp:PlainW Z):∀ {x:Value},Pu F w ok Z x→Pu F' w ok Z x:=by
  induction hp with
  | pl h=>exact fun hx=>hx.plain h
  | box k o=>intro x hx;cases hx
  | own k=>intro x hx;cases hx
  | agg h ih=>intro x hx;cases hx with | agg hl hc=>exact .agg hl fun j hj=>ih j hj (hc j hj)
section
variable {ρ:Names} {B:Nat} {w:World} {rd:List (Nat × ABlk)} {k kc:Nat} {nm:Nm}
theorem okN_lent {ρ:Names} {k kc b:Nat} {nm:Nm} (hk1:ρ k=some nm) (hf:Nat.blt k far=true) (h:okN ρ b):okN (lent kc nm) b:=fun j c n _ hj=>by
  obtain ⟨_,e⟩:=lent_at hj
  exact h k c n (by rw [Nat.blt_eq] at hf;exact hf) (by rw [hk1,e])
theorem lent_ok (hwf:WF ρ B w) (hk:ρ k=some nm) (hnk:∀ p∈rd,p.1≠k):(∀ b,okOf ρ b→b<w.heap.size→b<w.heap.size∧okOf (lent kc nm) b)∧∀ p∈rd,∀ b c n,ρ p.1=some (.at b c n)→b<w.heap.size∧okOf (lent kc nm) b:=by
  refine ⟨fun b hb hw=>⟨hw,fun j c n hj => ?_⟩,fun p hp b c n h=>⟨(hwf.lo _ _ _ _ h).2,fun j c' n' hj => ?_⟩⟩
  · obtain ⟨_,e⟩:=lent_at hj
    exact hb k c n (by rw [hk,e])
  obtain ⟨_,e⟩:=lent_at hj
  rw [← e] at hk
  exact hnk p hp (hwf.inj _ _ _ _ _ _ _ h hk)
theorem YM (hwf:WF ρ B w) (hk:ρ k=some nm) (hnk:∀ p∈rd,p.1≠k) (hr:∀ p∈rd,∃ nm,ρ p.1=some nm∧BlkR ρ w B nm p.2) {X:AV} {x:Value} (h:Rel ρ B w X x) (hf:X.flat1=true) (hp:PlainW (X.viewW1 k kc rd)):Rel (lent kc nm) w.heap.size w (X.viewW1 k kc rd) x:=by
  obtain ⟨o1,o2⟩:=lent_ok (kc:=kc) hwf hk hnk
  have one:∀ {X:AV} {x:Value},Rel ρ B w X x→X.flat1=true→PlainW (X.view1 rd)→Rel (lent kc nm) w.heap.size w (X.view1 rd) x:=fun {X x} h hf hp=>by
    exact .pu ((hp.pu (h.viewG o1 hr o2 hf)).weak fun _ h=>h.2)
  cases X with
  | box j o =>
    simp only [AV.viewW1]
    split
    · rename_i e
      subst e
      obtain ⟨b,c,n,h1,rfl⟩:=h.box_inv
      rw [hk] at h1
      cases h1
      exact .box (KH _ _)
    exact .anyR
  | own j =>
    simp only [AV.viewW1] at hp ⊢
    split
    · rename_i e
      subst e
      obtain ⟨nm',h1,rfl⟩:=h.own_inv
      rw [hk] at h1
      cases h1
      exact .own (KH _ _)
    rename_i e
    rw [if_neg e] at hp
    exact one h rfl hp
  | agg cs=>cases hf
  | tup cs=>cases hf
  | clo f cs=>cases hf
  | v y=>exact one h rfl hp
  | any=>exact .anyR
  | sl z n cs=>exact one h rfl hp
  | el cs o=>exact one h rfl hp
  | fr X=>exact one h rfl hp
  | old n X=>exact one h rfl hp
  | bsl k o m=>exact one h rfl hp
theorem rel_viewW (hwf:WF ρ B w) (hk:ρ k=some nm) (hnk:∀ p∈rd,p.1≠k) (hr:∀ p∈rd,∃ nm,ρ p.1=some nm∧BlkR ρ w B nm p.2) {X:AV} {x:Value} (h:Rel ρ B w X x) (hf:X.flatW=true) (hp:PlainW (X.viewW k kc rd)):Rel (lent kc nm) w.heap.size w (X.viewW k kc rd) x:=by
  cases X with
  | agg cs =>
    obtain ⟨vs,rfl,hl,hc⟩:=h.agg_inv
    simp only [AV.viewW] at hp ⊢
    have hpl:∀ j (hj:j<(cs.map (AV.viewW1 k kc rd)).length),PlainW (cs.map (AV.viewW1 k kc rd))[j]:=by
      cases hp with
      | pl h=>cases h with | agg h=>exact fun j hj => .pl (h j hj)
      | agg h=>exact h
    exact .agg (by simpa using hl) fun j hj=>by
      have hj':j<cs.length:=by simpa using hj
      have h2:=hpl j hj
      rw [List.getElem_map] at h2 ⊢
      exact YM hwf hk hnk hr (hc j hj') (List.all_eq_true.1 hf _ (List.getElem_mem hj')) h2
  | tup cs=>cases hf
  | clo f cs=>cases hf
  | v y=>exact YM hwf hk hnk hr h rfl hp
  | any=>exact .anyR
  | box j o=>exact YM hwf hk hnk hr h rfl hp
  | own j=>exact YM hwf hk hnk hr h rfl hp
  | sl z n cs=>exact YM hwf hk hnk hr h rfl hp
  | el cs o=>exact YM hwf hk hnk hr h rfl hp
  | fr X=>exact YM hwf hk hnk hr h rfl hp
  | old n X=>exact YM hwf hk hnk hr h rfl hp
  | bsl k o m=>exact YM hwf hk hnk hr h rfl hp
end
def maskC (m:List Bool) (xs:Nat→Value) (cs:List AV):List AV:=cs.zipIdx.map fun p=>if m.getD p.2 false then .v (xs p.2) else p.1
theorem maskC_len (m:List Bool) (xs:Nat→Value) (cs:List AV):(maskC m xs cs).length=cs.length:=by simp [maskC]
theorem maskC_get (m:List Bool) (xs:Nat→Value) (cs:List AV) (j:Nat) (hj:j<(maskC m xs cs).length) (hj':j<cs.length):(maskC m xs cs)[j]=if m.getD j false then .v (xs j) else cs[j]:=by
  simp [maskC]
section
variable {P:Program} {o:Oper}
theorem sp_callWB {c:Operand} {xs:Array Operand} {ats:Array TypeId} {f:FuncId} {Xs Ys:List AV} {u:AV} {T:TypeId} {cs c0 ds:List AV} {k:Nat} (kc:Nat) (m:List Bool) (rd:List (Nat × ABlk)) (hC:∀ xs',CtrW P J f Ys kc (.box T (maskC m xs' c0)) (.box T (maskC m xs' ds)) u)
    (ho : o.op = .call { callee := .value c, args := xs, argTypes := ats }) (hf : (P.funcs[f]?).map (fun fn => (fn.name == "runtime.NumGoroutine") || fn.body.isNone) = some false) (hl : xs.size = Xs.length) (hv : Xs.map (AV.viewW k kc rd) = Ys) (hfl : Xs.all AV.flatW = true) (hpl : ∀ X ∈ Ys, PlainW X) (hnk : rd.all (fun p => !(p.1 == k)) = true)
    (h0:cs.map (AV.view1 rd)=c0) (h0f:cs.all AV.flat1=true) (h0p:∀ xs',∀ X∈maskC m xs' c0,Plain X) (hd2:(cs.zipIdx.map fun p=>if m.getD p.2 false then some p.1 else none)=(ds.zipIdx.map fun p=>if m.getD p.2 false then some p.1 else none)) (hd3:(ds.zipIdx.all fun p=>m.getD p.2 false||p.1.safeN1)=true) {U:AV} (hu:u.renW3 kc k=U) (hkf:Nat.blt k far=true:=by rfl) :
    ASpec P J o ((c,.v (.func (.func f) #[] #[]))::xs.toList.zip Xs) ((k,.box T cs)::rd) U (.st k (.box T ds)):=by
  subst hv h0 hu
  intro ρ B a w K Q hwf hB hJ ha hr _ hk
  obtain ⟨nm,hk1,b,c',n',vs,rfl,g2,g3,g4⟩:=hr (k,.box T cs) (by simp)
  have hrd:∀ p∈rd,∃ nm,ρ p.1=some nm∧BlkR ρ w B nm p.2:=fun p hp=>hr p (List.mem_cons_of_mem _ hp)
  have hnk':∀ p∈rd,p.1≠k:=fun p hp=>by simpa using List.all_eq_true.1 hnk p hp
  obtain ⟨o1,o2⟩:=lent_ok (kc:=kc) hwf hk1 hnk'
  have hlo:=hwf.lo _ _ _ _ hk1
  have hlen:cs.length=ds.length:=by have:=congrArg List.length hd2;simpa using this
  refine upon_call ho (ha (c,.v (.func (.func f) #[] #[])) (by simp)).v_inv hf ?_
  rw [Array.append_empty]
  refine (hC (fun j=>vs.getD j undef) w (xs.map a.eval) (.at b c' n') (fun w' hb=>hJ w' ⟨hb.os,hb.tape,hb.output,hb.size,fun b' h1 h2=>hb.keep b' h1 (okN_lent hk1 hkf h2)⟩) (by simpa using hl) (fun b' c n e=>by cases e;exact hlo.2)
    ⟨b,c',n',vs,rfl,g2,by rw [maskC_len];simpa using g3,fun j hj => ?_⟩ fun j hj => ?_).mono fun e w' ⟨v,he,hb,hY,hrel⟩=>⟨v,he,hk ρ w' v ?_⟩
  · have hj':j<(cs.map (AV.view1 rd)).length:=by rw [maskC_len] at hj;exact hj
    have hpj:=h0p (fun j=>vs.getD j undef) _ (List.getElem_mem hj)
    rw [maskC_get _ _ _ _ hj hj'] at hpj ⊢
    split
    · exact .pu (.v _)
    rename_i hm
    rw [if_neg hm] at hpj
    rw [List.getElem_map] at hpj ⊢
    have hjc:j<cs.length:=by simpa using hj'
    exact .pu ((((g4 j hjc).viewG o1 hrd o2 (List.all_eq_true.1 h0f _ (List.getElem_mem hjc))).plain hpj).weak fun _ h=>h.2)
  · have hj1:j<Xs.length:=by simpa using hj
    have hj2:j<xs.size:=by omega
    have hpj:=hpl _ (List.getElem_mem hj)
    rw [List.getElem_map] at hpj ⊢
    have hm:(xs[j],Xs[j])∈(c,AV.v (.func (.func f) #[] #[]))::xs.toList.zip Xs:=by
      refine List.mem_cons_of_mem _ ?_
      rw [List.mem_iff_getElem]
      exact ⟨j,by simp;omega,by simp⟩
    have:=rel_viewW (kc:=kc) hwf hk1 hnk' hrd (ha _ hm) (List.all_eq_true.1 hfl _ (List.getElem_mem hj1)) hpj
    simpa [Array.getD,hj2] using this
  have hnew:∀ X x,Pu (w.heap.size ≤ ·) w' (okOf (lent kc (.at b c' n'))) (.fr X) x→Pu (B ≤ ·) w' (okOf ρ) (.fr X) x:=fun X x h=>by
    cases h with
    | fr h=>exact .fr (h.mono (fun b' hb1 hw=>⟨⟨fun j c n hj=>by have:=(hwf.lo _ _ _ _ hj).2;have:=hb1.2.1;omega,Nat.le_trans hB hb1.2.1,hb1.2.2⟩,hw,rfl⟩) fun b _ h=>Nat.le_trans hB h)
  have hsame:∀ b',b'<w.heap.size→b'≠b→w'.heap[b']? = w.heap[b']? := fun b' h1 h2=>hb.keep b' h1 fun j c n _ hj=>by
    obtain ⟨_,e⟩:=lent_at hj
    cases e
    exact h2 rfl
  have hkeep:∀ X x,Pu (B ≤ ·) w (okOf ρ) X x→Pu (B ≤ ·) w' (okOf ρ) X x:=fun X x h=>h.mono (fun b' hb1 hw=>⟨hb1,Nat.lt_of_lt_of_le hw hb.size,hsame b' hw fun e=>by subst e;exact hb1 _ _ _ hk1⟩) fun _ _ h=>h
  refine ⟨rfl,hb.os,hb.tape,hb.output,hb.size,fun b' h1 h2=>hsame b' h1 fun e=>by subst e;exact h2 k c' n' rfl hk1,fun _ _=>rfl,fun _ _ _=>rfl,fun k' X he' => ?_,rel_renW3 hnew hk1 hrel⟩
  cases he'
  refine ⟨_,hk1,fun b' c n e=>by cases e;exact ⟨Nat.lt_of_lt_of_le hlo.2 hb.size,hlo.1,.inr ⟨_,_,hk1⟩⟩,?_⟩
  obtain ⟨b2,c2,n2,vs',e2,q1,q2,q3⟩:=hY
  cases e2
  rw [maskC_len] at q2
  refine ⟨b,c',n',vs',rfl,q1,q2,fun j hj => ?_⟩
  have hjm:j<(maskC m (fun j=>vs.getD j undef) ds).length:=by rw [maskC_len];exact hj
  have h1:=q3 j hjm
  rw [maskC_get _ _ _ _ hjm hj] at h1
  by_cases hm:m.getD j false=true
  · rw [if_pos hm] at h1
    rw [h1.v_inv]
    have hjc:j<cs.length:=by omega
    have e3:cs[j]=ds[j]:=by
      have:=congrArg (fun l=>l[j]?) hd2
      simp only [List.getElem?_map] at this
      have hm':m[j]?.getD false=true:=by rw [← List.getD_eq_getElem?_getD];exact hm
      simpa [hjc,hj,hm'] using this
    rw [← e3]
    exact (g4 j hjc).keep hkeep fun _ _ h=>h
  rw [if_neg hm] at h1
  have h3:=List.all_eq_true.1 hd3 (ds[j],j) (by rw [List.mem_iff_getElem];exact ⟨j,by simpa using hj,by simp⟩)
  simp only [Bool.or_eq_true] at h3
  exact rel_safeN1 hnew (h3.resolve_left hm) h1
def AV.isV:AV→Bool
  | .v _=>true
  | _=>false
end
structure One (w0:Wb) (g:Nat):Prop where
  H:∀ b,w0.H b→b=g
  N:w0.N hand=some (.at g 0 0)
def two (k:Nat) (nm:Nm) (g:Nat):Names:=⟨fun j=>if j=k then some nm else if j=hand then some (.at g 0 0) else none,fun b=>b=g⟩
section
variable {ρ:Names} {k0 k g:Nat} {nm:Nm}
end
section
variable {ρ ρ':Names} {B B':Nat} {w:World} {k0 k:Nat} {nm:Nm}
end
section
variable {P:Program} {w0:Wb} {h:AHeap} {t:ATm}
theorem mapM_three {f:ResultVar→Sem Value} {r r' r'':ResultVar} {w:World} {v v' v'':Value} (h:(f r).run P w = .ok v w) (h':(f r').run P w = .ok v' w) (h'':(f r'').run P w = .ok v'' w):(#[r,r',r''].mapM f).run P w = .ok #[v,v',v''] w:=by
  rw [Array.mapM_eq_mapM_toList];simp [List.mapM_cons,h,h',h'']
end
section
variable {P:Program} {o:Oper}
def AV.rdB:AV→Bool
  | .v _=>true
  | .sl _ _ _=>true
  | .el _ _=>true
  | .fr _=>true
  | .old _ _=>true
  | .any=>true
  | _=>false
theorem Rel.rd {ρ:Names} {B:Nat} {w:World} {X:AV} {x:Value} (h:Rel ρ B w X x) (hr:X.rdB=true):Pu (B ≤ ·) w (okOf ρ) X x:=by
  cases h with
  | pu h=>exact h
  | _=>cases hr
theorem ZK {T:TypeId} {X:AV} (x:Operand) (ho:o.op = .box T x) (hc:X.cellsOf.all AV.cell=true) (hp:X.cellsOf.all AV.rdB=true):ASpec P J o [(x,X)] [] (.el X.cellsOf 0) .no:=by
  intro ρ B a w K Q hwf hB _ ha hr hn hk
  have h:=ha (x,X) (by simp)
  obtain ⟨h1,h2,h3⟩:=h.cells hc
  unfold Oper.wp
  rw [show (execOp a.eval o).run P w = .ok (.value (.pointer (some ⟨w.heap.size,0,none⟩))) (w.alloc (.cells (a.eval x).cells T)) by
    simp only [execOp,ho]
    exact Yb (by simp [Instr.box,newVar,newRow])]
  have hok:∀ b,okOf ρ b→b<w.heap.size→okOf ρ b∧b<(w.alloc (.cells (a.eval x).cells T)).heap.size∧(w.alloc (.cells (a.eval x).cells T)).heap[b]? = w.heap[b]? := fun b hb hw=>⟨hb,by simp;omega,heap_alloc_old w _ hw⟩
  refine hk ρ _ _ ⟨rfl,rfl,rfl,rfl,by simp,fun b hb _=>heap_alloc_old w _ hb,fun _ _=>rfl,(fun _ _ h=>by cases h),(fun _ _ h=>by cases h),.pu (.el (b:=w.heap.size) (off:=0) (f:=fun j=>(a.eval x).cells.getD j undef) (fun j c n hj=>by have:=(hwf.lo _ _ _ _ hj).2;omega) (by simp) (fun j hj => ?_) fun j hj => ?_)⟩
  · have hj':j<(a.eval x).cells.size:=by rw [h1];exact hj
    rw [Nat.zero_add,ZS (heap_alloc_new w _) j (v:=(a.eval x).cells.getD j undef) (by simp [Array.getD,hj'])]
  exact ((h3 j hj).rd (List.all_eq_true.1 hp _ (List.getElem_mem hj))).mono hok fun _ _ h=>h
end
section
variable {P:Program} {w0:Wb} {o:Oper} {ops:Array Oper} {rest:List Oper} {Q:Exit→Act→World→Prop}
def AV.flatA:AV→Bool
  | .agg cs=>cs.all AV.flat1
  | .tup _=>false
  | .clo _ _=>false
  | _=>true
theorem Rel.apart {ρ:Names} {B:Nat} {w:World} {ok:Nat→Prop} (ho:∀ b,okOf ρ b→b<w.heap.size→ok b) {X:AV} {x:Value} (h:Rel ρ B w X x) (hf:X.flatA=true):Pu (fun _=>True) w ok (X.view []) x:=by
  cases X with
  | agg cs =>
    obtain ⟨vs,rfl,hl,hc⟩:=h.agg_inv
    exact .agg (by simpa using hl) fun j hj=>by
      rw [List.getElem_map]
      exact (hc j (by simpa using hj)).viewG (rd:=[]) ho (fun _ h=>by cases h) (fun _ h=>by cases h) (List.all_eq_true.1 hf _ (List.getElem_mem _))
  | tup cs=>cases hf
  | clo f cs=>cases hf
  | _=>exact h.viewG (rd:=[]) ho (fun _ h=>by cases h) (fun _ h=>by cases h) rfl
end
section
variable {P:Program} {o:Oper}
end
section
variable {P:Program} {w0:Wb} {h:AHeap} {t:ATm}
end
def clear (G:Nat→Option Nm) (b:Nat):Prop:=∀ i c n,G i≠some (.at b c n)
def InjG (G:Nat→Option Nm):Prop:=∀ i j b c d m n,G i=some (.at b c m)→G j=some (.at b d n)→i=j
def CtrA (P:Program) (J:World→Prop) (f:FuncId) (args:List AV) (u:AV):Prop :=
  ∀ (w:World) (vs:Array Value) (G:Nat→Option Nm),(∀ w',Below w.heap.size w w'→J w')→vs.size=args.length→InjG G→(∀ i b c n,G i=some (.at b c n)→b<w.heap.size) →
    (∀ j (hj:j<args.length),Pu (fun _=>True) w (fun b=>b<w.heap.size∧clear G b) args[j] (vs.getD j undef)) →
    Calls P f vs w fun e w'=>∃ v,e = .returned v∧Pu (fun _=>False) w' (clear G) u v∧Below w.heap.size w w'
def farN (N:Nat→Option Nm) (b:Nat):Prop:=∀ k c n,far≤k→N k≠some (.at b c n)
def RetA (w0:Wb) (u:AV) (e:Ending) (w':World):Prop:=∃ v,e = .returned v∧Pu (fun _=>False) w' (farN w0.N) u v∧Bel w0 w'
theorem Rel.viewCG {ρ:Names} {B:Nat} {w:World} {rd:List (Nat × ABlk)} {ok:Nat→Prop} (hwf:WF ρ B w) (ho:∀ b,okOf ρ b→b<w.heap.size→ok b) (hr:∀ p∈rd,∃ nm,ρ p.1=some nm∧BlkR ρ w B nm p.2) (hn:∀ p∈rd,∀ b c n,ρ p.1=some (.at b c n)→ok b) {X:AV} {x:Value} (h:Rel ρ B w X x) (hf:X.flat1=true):Pu (fun _=>True) w ok (X.viewC rd) x:=by
  cases X with
  | box k o =>
    simp only [AV.viewC]
    obtain ⟨b,c,n,h1,rfl⟩:=h.box_inv
    split
    · rename_i q T cs hq
      have hm:=List.mem_of_find?_eq_some hq
      obtain ⟨nm',h1',b',c',n',vs,e,hg,hvs,hrel⟩:=hr _ hm
      have hqk:q=k:=by have:=List.find?_some hq;simpa using this
      have hn':=hn _ hm
      rw [hqk,h1] at h1'
      cases h1';cases e
      split
      · rename_i hfl
        have:=Pu.el (F:=fun _=>True) (w:=w) (ok:=ok) (b:=b) (off:=0) (o:=o) (cs:=cs.map (AV.view1 rd)) (f:=fun j=>vs.getD j undef) (hn' b c n (by rw [hqk];exact h1)) (hwf.lo _ _ _ _ h1).2 (fun j hj => ?_) fun j hj => ?_
        · simpa using this
        · have hj':j<vs.size:=by rw [hvs];simpa using hj
          rw [Nat.zero_add,ZS hg j (v:=vs.getD j undef) (by simp [Array.getD,hj'])]
        rw [List.getElem_map]
        exact (hrel j (by simpa using hj)).viewG ho hr hn (List.all_eq_true.1 hfl _ (List.getElem_mem _))
      exact .any _
    exact .any _
  | agg cs=>cases hf
  | tup cs=>cases hf
  | clo f cs=>cases hf
  | v y=>exact h.viewG ho hr hn rfl
  | own k=>exact h.viewG ho hr hn rfl
  | sl z n cs=>exact h.viewG ho hr hn rfl
  | el cs o=>exact h.viewG ho hr hn rfl
  | fr X=>exact h.viewG ho hr hn rfl
  | any=>exact h.viewG ho hr hn rfl
  | old n X=>exact h.viewG ho hr hn rfl
  | bsl k o m=>exact h.viewG ho hr hn rfl
def AV.viewA (rd:List (Nat × ABlk)):AV→AV
  | .agg cs => .agg (cs.map (AV.view1 rd))
  | X=>X.viewC rd
theorem Rel.viewA {ρ:Names} {B:Nat} {w:World} {rd:List (Nat × ABlk)} {ok:Nat→Prop} (hwf:WF ρ B w) (ho:∀ b,okOf ρ b→b<w.heap.size→ok b) (hr:∀ p∈rd,∃ nm,ρ p.1=some nm∧BlkR ρ w B nm p.2) (hn:∀ p∈rd,∀ b c n,ρ p.1=some (.at b c n)→ok b) {X:AV} {x:Value} (h:Rel ρ B w X x) (hf:X.flatA=true):Pu (fun _=>True) w ok (X.viewA rd) x:=by
  cases X with
  | agg cs =>
    obtain ⟨vs,rfl,hl,hc⟩:=h.agg_inv
    exact .agg (by simpa using hl) fun j hj=>by
      rw [List.getElem_map]
      exact (hc j (by simpa using hj)).viewG ho hr hn (List.all_eq_true.1 hf _ (List.getElem_mem _))
  | tup cs=>cases hf
  | clo f cs=>cases hf
  | _=>exact h.viewCG hwf ho hr hn rfl
section
variable {P:Program} {w0:Wb} {h:AHeap} {t:ATm}
theorem Sat.outA {ρ:Names} {a:Act} {w:World} (s:Sat J w0 ρ h t a w) {rd:List (Nat × ABlk)} (hrd:rd.map (fun p=>h p.1)=rd.map (fun p=>some p.2)) (hlo:rd.all (fun p=>Nat.blt p.1 far)=true) {X:AV} {x:Value} (hr:Rel ρ w0.heap.size w X x) (hf:X.flatA=true) (hp:Plain (X.viewA rd)):Pu (fun _=>False) w (farN w0.N) (X.viewA rd) x:=by
  refine (hr.viewA (ok:=farN w0.N) s.wf (fun b hb _ k c n hk e=>hb k c n ((s.pin k (Nat.le_trans (by decide) hk)).trans e)) (fun p hp=>s.hp _ _ (List.map_inj_left.1 hrd p hp)) (fun p hp b c n hb k c' n' hk e => ?_) hf).plain hp
  have:=s.wf.inj _ _ _ _ _ _ _ hb ((s.pin k (Nat.le_trans (by decide) hk)).trans e)
  have h2:=List.all_eq_true.1 hlo p hp
  rw [Nat.blt_eq] at h2
  omega
theorem KD {fn:Func} {r:ResultVar} {X u:AV} (rd:List (Nat × ABlk)) (hr:fn.results = #[r]) (h1:ResV P h t r X) (hrd:rd.map (fun p=>h p.1)=rd.map (fun p=>some p.2)) (hlo:rd.all (fun p=>Nat.blt p.1 far)=true) (hf:X.flatA=true) (hp:Plain (X.viewA rd)) (hu:X.viewA rd=u):ETri J w0 h t (bodyPost P fn (RetA w0 u) .ret):=fun ρ a w s=>by
  subst hu
  obtain ⟨v,g1,g2⟩:=Kf s h1
  refine ⟨s.df,v,?_,v,rfl,s.outA hrd hlo g2 hf hp,s.bel⟩
  unfold results
  rw [hr,Sem.run_bind,mapM_one (v:=v) (by cases r<;>exact g1)]
  rfl
theorem tri_endA2 {fn:Func} {r r':ResultVar} {X X' u:AV} (rd:List (Nat × ABlk)) (hr:fn.results = #[r,r']) (h1:ResV P h t r X) (h2:ResV P h t r' X') (hrd:rd.map (fun p=>h p.1)=rd.map (fun p=>some p.2)) (hlo:rd.all (fun p=>Nat.blt p.1 far)=true) (hf:X.flatA=true) (hf':X'.flatA=true) (hp:Plain (X.viewA rd)) (hp':Plain (X'.viewA rd)) (hu:AV.tup [X.viewA rd,X'.viewA rd]=u):ETri J w0 h t (bodyPost P fn (RetA w0 u) .ret):=fun ρ a w s=>by
  subst hu
  obtain ⟨v,g1,g2⟩:=Kf s h1
  obtain ⟨v',g1',g2'⟩:=Kf s h2
  refine ⟨s.df,.tuple #[v,v'],?_,_,rfl,.tup rfl fun j hj => ?_,s.bel⟩
  · unfold results
    rw [hr,Sem.run_bind,mapM_two (v:=v) (v':=v') (by cases r<;>exact g1) (by cases r'<;>exact g1')]
    rfl
  simp only [List.length_cons,List.length_nil] at hj
  match j,hj with
  | 0,_=>exact s.outA hrd hlo g2 hf hp
  | 1,_=>exact s.outA hrd hlo g2' hf' hp'
theorem tri_endA3 {fn:Func} {r r' r'':ResultVar} {X X' X'' u:AV} (rd:List (Nat × ABlk)) (hr:fn.results = #[r,r',r'']) (h1:ResV P h t r X) (h2:ResV P h t r' X') (h3:ResV P h t r'' X'') (hrd:rd.map (fun p=>h p.1)=rd.map (fun p=>some p.2)) (hlo:rd.all (fun p=>Nat.blt p.1 far)=true) (hf:X.flatA=true) (hf':X'.flatA=true) (hf'':X''.flatA=true) (hp:Plain (X.viewA rd)) (hp':Plain (X'.viewA rd)) (hp'':Plain (X''.viewA rd)) (hu:AV.tup [X.viewA rd,X'.viewA rd,X''.viewA rd]=u):ETri J w0 h t (bodyPost P fn (RetA w0 u) .ret):=fun ρ a w s=>by
  subst hu
  obtain ⟨v,g1,g2⟩:=Kf s h1
  obtain ⟨v',g1',g2'⟩:=Kf s h2
  obtain ⟨v'',g1'',g2''⟩:=Kf s h3
  refine ⟨s.df,.tuple #[v,v',v''],?_,_,rfl,.tup rfl fun j hj => ?_,s.bel⟩
  · unfold results
    rw [hr,Sem.run_bind,mapM_three (v:=v) (v':=v') (v'':=v'') (by cases r<;>exact g1) (by cases r'<;>exact g1') (by cases r''<;>exact g1'')]
    rfl
  simp only [List.length_cons,List.length_nil] at hj
  match j,hj with
  | 0,_=>exact s.outA hrd hlo g2 hf hp
  | 1,_=>exact s.outA hrd hlo g2' hf' hp'
  | 2,_=>exact s.outA hrd hlo g2'' hf'' hp''
def farG (G:Nat→Option Nm):Nat→Option Nm:=fun k=>if far≤k then G (k-far) else none
theorem farG_at {G:Nat→Option Nm} {k:Nat} {x:Nm} (h:farG G k=some x):far≤k∧G (k-far)=some x:=by
  unfold farG at h
  split at h
  · rename_i e;exact ⟨e,h⟩
  cases h
theorem farG_clear {G:Nat→Option Nm} {b:Nat}:farN (farG G) b↔clear G b:=by
  constructor
  · intro h i c n e
    refine h (i+far) c n (by omega) ?_
    unfold farG
    rw [if_pos (by omega),Nat.add_sub_cancel];exact e
  intro h k c n hk e
  exact h _ c n (farG_at e).2
theorem ctrA_of_tri {f:FuncId} {fn:Func} {c:Code} {args:List AV} {u:AV} (hf:P.funcs[f]? = some fn) (hb:fn.body=some c) (hpl:∀ X∈args,Plain X) {n:Nat} (hnt:fn.ntmps=n) (hna:args.length≤n)
    (H:∀ w0,ETri J w0 (ofL []) (ofT n ((List.range args.length).zip args)) (c.wp P (bodyPost P fn (RetA w0 u)))):CtrA P J f args u:=fun w vs G hJ hl hi hw hv=>by
  refine (calls_of_wp hf hb (H ⟨w,fun _=>False,farG G⟩ ⟨farG G,fun _=>False⟩ _ w ⟨⟨fun j k b c d m n hj hk => ?_,fun k b c n hk => ?_⟩,rfl,Bel.refl _,(fun w' h=>hJ w' (h.below fun _ h=>h)),(fun _ _ h=>by cases h),fun k hk _=>if_neg (by have:=hand_far;omega),fun _ _=>rfl,by simp [hl,hnt,ofT];omega,fun i hi => ?_,rfl,fun _ _=>rfl⟩)).mono fun e w' ⟨v,q1,q2,q3⟩=>⟨v,q1,q2.weak fun b hb=>farG_clear.1 hb,q3.below fun _ h=>h⟩
  · obtain ⟨h1,h2⟩:=farG_at hj
    obtain ⟨h3,h4⟩:=farG_at hk
    have:=hi _ _ _ _ _ _ _ h2 h4
    omega
  · obtain ⟨h1,h2⟩:=farG_at hk
    exact ⟨.inr (.inr h1),hw _ _ _ _ h2⟩
  simp only [ofT]
  cases hf:((List.range args.length).zip args).find? fun p=>p.1==i with
  | none=>exact .anyR
  | some p =>
    have hm:=List.mem_of_find?_eq_some hf
    have hk':p.1=i:=by have:=List.find?_some hf;simpa using this
    obtain ⟨j,hj,e⟩:=List.getElem_of_mem hm
    simp only [List.getElem_zip,List.getElem_range] at e
    subst e
    dsimp only at hk'
    subst hk'
    have hj1:j<args.length:=by simp at hj;omega
    simp only [Option.map_some,Option.getD_some]
    have:=(hv j hj1).plain (F':=(w.heap.size ≤ ·)) (hpl _ (List.getElem_mem hj1))
    have hj2:j<vs.size:=by omega
    have e:(vs++Array.replicate (fn.ntmps-vs.size) undef).getD j undef=vs.getD j undef:=by simp [Array.getD,hj2,Array.getElem_append_left hj2];omega
    rw [e]
    exact .pu (this.weak fun b hb k c n hk=>hb.2 _ c n (farG_at hk).2)
end
section
variable {P:Program} {o:Oper}
theorem Kb {c:Operand} {xs:Array Operand} {ats:Array TypeId} {f:FuncId} {Xs Ys:List AV} {u:AV} (hC:CtrA P J f Ys u) (ho:o.op = .call { callee := .value c,args:=xs,argTypes:=ats })
    (hf : (P.funcs[f]?).map (fun fn => (fn.name == "runtime.NumGoroutine") || fn.body.isNone) = some false) (hl : xs.size = Xs.length) (hv : Xs.map (AV.view []) = Ys) (hfl : Xs.all AV.flatA = true) :
    ASpec P J o ((c,.v (.func (.func f) #[] #[]))::xs.toList.zip Xs) [] u .no:=by
  subst hv
  intro ρ B a w K Q hwf hB hJ ha hr _ hk
  refine upon_call ho (ha (c,.v (.func (.func f) #[] #[])) (by simp)).v_inv hf ?_
  rw [Array.append_empty]
  refine (hC w (xs.map a.eval) ρ.f (fun w' h=>hJ w' (below_beyond h)) (by simpa using hl) (fun i j b c d m n h1 h2=>hwf.inj _ _ _ _ _ _ _ h1 h2) (fun i b c n h=>(hwf.lo _ _ _ _ h).2) fun j hj => ?_).mono fun e w' ⟨v,he,hp,hb⟩=>⟨v,he,hk ρ w' v ⟨rfl,hb.os,hb.tape,hb.output,hb.size,fun b hb' _=>hb.block b hb',fun _ _=>rfl,(fun _ _ h=>by cases h),(fun _ _ h=>by cases h),.pu (hp.mono (fun b hb' hw=>⟨hb',hw,rfl⟩) fun b _ h=>h.elim)⟩⟩
  have hj1:j<Xs.length:=by simpa using hj
  have hj2:j<xs.size:=by omega
  rw [List.getElem_map]
  have hm:(xs[j],Xs[j])∈(c,AV.v (.func (.func f) #[] #[]))::xs.toList.zip Xs:=by
    refine List.mem_cons_of_mem _ ?_
    rw [List.mem_iff_getElem]
    exact ⟨j,by simp;omega,by simp⟩
  have:=(ha _ hm).apart (ok:=fun b=>b<w.heap.size∧clear ρ.f b) (fun b hb hw=>⟨hw,hb⟩) (List.all_eq_true.1 hfl _ (List.getElem_mem hj1))
  simpa [Array.getD,hj2] using this
end
section
variable {P:Program} {o:Oper}
theorem Yk {k off:Nat} (x:Operand) (ho:o.op = .nilCheck x):ASpec P J o [(x,.box k off)] [] (.box k off) .no :=
  ZI fun ρ B a w _ ha _=>by
    obtain ⟨b,c,n,h1,h2⟩:=(ha (x,.box k off) (by simp)).box_inv
    refine ⟨_,?_,.box (o:=off) h1⟩
    simp only [execOp,ho,h2]
    simp
theorem Zm {cs:List AV} {off:Nat} (x:Operand) (ho:o.op = .nilCheck x):ASpec P J o [(x,.el cs off)] [] (.el cs off) .no :=
  ZI fun ρ B a w _ ha _=>by
    have h:=ha (x,.el cs off) (by simp)
    have key:∀ v:Value,Rel ρ B w (.el cs off) v→∃ b j,v = .pointer (some ⟨b,j,none⟩):=fun v h=>by
      cases h with
      | pu h=>cases h with | el hb hw hf h=>exact ⟨_,_,rfl⟩
    have h2:=key _ h
    obtain ⟨b,j,h2⟩:=h2
    refine ⟨a.eval x,?_,h⟩
    simp only [execOp,ho,h2]
    simp
theorem run_indexArr {t e:TypeId} {z len:Nat} (hu:P.underlying t=some (.array len e)) (hz:(P.info? e).map (·.size)=some z) (w:World) (b off:Nat) (ik:IntKind) (i:Int) (h0:0≤i) (h1:i<len) :
    (Instr.indexAt t (.pointer (some ⟨b,off,none⟩)) (.int ik i)).run P w = .ok (.pointer (some ⟨b,off+i.toNat*z,none⟩)) w:=by
  obtain ⟨it,hi,rfl⟩:=Option.map_eq_some_iff.1 hz
  simp [Instr.indexAt,asIntOf,run_underlying hu,Instr.sureAddr,sizeOf,typeInfo,hi,h0,h1,Addr.add_mid]
theorem Z7 {t e:TypeId} {z len k off off':Nat} {ik:IntKind} {i:Int} (x y:Operand) (ho:o.op = .indexAddr t x y) (hu:P.underlying t=some (.array len e)) (hz:(P.info? e).map (·.size)=some z) (h0:0≤i) (h1:i<len) (he:off+i.toNat*z=off') :
    ASpec P J o [(x,.box k off),(y,.v (.int ik i))] [] (.box k off') .no :=
  ZI fun ρ B a w _ ha _=>by
    obtain ⟨b,c,n,h1',h2⟩:=(ha (x,.box k off) (by simp)).box_inv
    have hy:=(ha (y,.v (.int ik i)) (by simp)).v_inv
    refine ⟨_,?_,.box (o:=off') h1'⟩
    simp only [execOp,ho,h2,hy]
    exact Yb (by rw [run_indexArr hu hz _ _ _ _ _ h0 h1,he])
end
def AV.partVal (α:Nat→Option Addr × Nat × Nat) (base:Nat):AV→Value
  | .agg cs => .agg ((cs.zipIdx base).map fun p=>p.1.asVal α p.2).toArray
  | X=>X.asVal α base
def valsG (α:Nat→Option Addr × Nat × Nat):Nat→List AV→List Value
  | _,[]=>[]
  | base,X::Xs=>X.partVal α base::valsG α (base+X.cellsOf.length) Xs
def AV.solid2:AV→Bool
  | .agg cs=>cs.all AV.solid
  | X=>X.solid
theorem asVal_congr {α β:Nat→Option Addr × Nat × Nat} {k:Nat} (h:α k=β k) (X:AV):X.asVal α k=X.asVal β k:=by
  cases X<;>simp [AV.asVal,h]
theorem partVal_congr {α β:Nat→Option Addr × Nat × Nat} {base:Nat} {X:AV} (h:∀ k,base≤k→k<base+X.cellsOf.length→α k=β k):X.partVal α base=X.partVal β base:=by
  cases X with
  | agg cs =>
    simp only [AV.partVal]
    congr 2
    apply List.ext_getElem (by simp)
    intro i h1 h2
    simp only [List.getElem_map,List.getElem_zipIdx]
    exact asVal_congr (h _ (by omega) (by simp [AV.cellsOf] at h1 ⊢;omega)) _
  | _=>simp only [AV.partVal];exact asVal_congr (h _ (Nat.le_refl _) (by simp [AV.cellsOf])) _
theorem valsG_congr {α β:Nat→Option Addr × Nat × Nat}:∀ (Xs:List AV) (base:Nat),(∀ k,base≤k→k<base+(Xs.flatMap AV.cellsOf).length→α k=β k)→valsG α base Xs=valsG β base Xs
  | [],_,_=>rfl
  | X::Xs,base,h=>by
    simp only [valsG]
    rw [List.flatMap_cons,List.length_append] at h
    rw [partVal_congr fun k h1 h2=>h k h1 (by omega),valsG_congr Xs _ fun k h1 h2=>h k (by omega) (by omega)]
theorem part_of {ρ:Names} {B:Nat} {w:World} {X:AV} {v:Value} (h:Rel ρ B w X v) (hs:X.solid2=true) (base:Nat) :
    ∃ α,v=X.partVal α base∧∀ k (hk:k<X.cellsOf.length),Rel ρ B w X.cellsOf[k] (X.cellsOf[k].asVal α (base+k)):=by
  cases X with
  | agg cs =>
    obtain ⟨vs,rfl,hl,hc⟩:=h.agg_inv
    obtain ⟨α,hα⟩:=choose_lt (n:=cs.length) (p:=fun k (r:Option Addr × Nat × Nat)=>vs.getD k undef=(cs.getD k .any).asVal (fun _=>r) 0) fun k hk=>by
      have:=rel_solid (hc k hk) (List.all_eq_true.1 hs _ (List.getElem_mem hk))
      simpa [List.getD_eq_getElem?_getD,hk] using this
    have key:∀ k (hk:k<cs.length),vs.getD k undef=cs[k].asVal (fun j=>α (j-base)) (base+k):=fun k hk=>by
      have:=hα k hk
      rw [asVal_at] at this
      simp only [List.getD_eq_getElem?_getD,List.getElem?_eq_getElem hk,Option.getD_some] at this
      rw [this]
      have e:(fun j=>α (j-base)) (base+k)=α k:=by simp
      cases cs[k]<;>simp [AV.asVal]
    refine ⟨fun j=>α (j-base),?_,fun k hk => ?_⟩
    · simp only [AV.partVal]
      congr 1
      apply Array.ext (by simpa using hl)
      intro i h1 h2
      have hi:i<cs.length:=by omega
      have:=key i hi
      simp only [Array.getD,h1,dif_pos] at this
      simp only [List.getElem_toArray,List.getElem_map,List.getElem_zipIdx]
      simpa using this
    have hk':k<cs.length:=hk
    have:=hc k hk'
    rw [key k hk'] at this
    exact this
  | tup cs=>cases hs
  | _ =>
    obtain ⟨a,ha⟩:=rel_solid h hs
    refine ⟨fun _=>a,?_,fun k hk => ?_⟩
    · rw [ha];rfl
    obtain rfl:k=0:=by simp [AV.cellsOf] at hk;exact hk
    rw [ha] at h
    exact h
theorem vals_of {ρ:Names} {B:Nat} {w:World}:∀ (Xs:List AV) (vs:List Value) (base:Nat),vs.length=Xs.length→(∀ i (hi:i<Xs.length) (hi':i<vs.length),Rel ρ B w Xs[i] vs[i])→Xs.all AV.solid2=true →
    ∃ α,vs=valsG α base Xs∧∀ k (hk:k<(Xs.flatMap AV.cellsOf).length),Rel ρ B w (Xs.flatMap AV.cellsOf)[k] ((Xs.flatMap AV.cellsOf)[k].asVal α (base+k))
  | [],[],_,_,_,_=>⟨fun _=>(none,0,0),rfl,fun k hk=>by simp at hk⟩
  | [],_::_,_,h,_,_=>by simp at h
  | _::_,[],_,h,_,_=>by simp at h
  | X::Xs,v::vs,base,hl,hr,hs=>by
    simp only [List.all_cons,Bool.and_eq_true] at hs
    obtain ⟨α,a1,a2⟩:=part_of (hr 0 (by simp) (by simp)) hs.1 base
    obtain ⟨β,b1,b2⟩:=vals_of Xs vs (base+X.cellsOf.length) (by simpa using hl) (fun i hi hi'=>hr (i+1) (by simpa using hi) (by simpa using hi')) hs.2
    have c1:∀ k,base≤k→k<base+X.cellsOf.length→(fun k=>if k<base+X.cellsOf.length then α k else β k) k=α k:=fun k _ h=>if_pos h
    have c2:∀ k,base+X.cellsOf.length≤k→(fun k=>if k<base+X.cellsOf.length then α k else β k) k=β k:=fun k h=>if_neg (by omega)
    refine ⟨fun k=>if k<base+X.cellsOf.length then α k else β k,?_,fun k hk => ?_⟩
    · simp only [valsG]
      rw [partVal_congr (β:=α) c1,valsG_congr (β:=β) Xs _ fun k h _=>c2 k h,← b1]
      simp only [List.getElem_cons_zero] at a1
      rw [← a1]
    simp only [List.flatMap_cons] at hk ⊢
    by_cases h:k<X.cellsOf.length
    · rw [List.getElem_append_left h,asVal_congr (c1 _ (by omega) (by omega))]
      exact a2 k h
    rw [List.getElem_append_right (by omega),asVal_congr (c2 (base+k) (by omega))]
    have:=b2 (k-X.cellsOf.length) (by simp at hk ⊢;omega)
    rw [show base+X.cellsOf.length+(k-X.cellsOf.length)=base+k by omega] at this
    exact this
section
variable {P:Program} {o:Oper}
theorem sp_bldG {T:TypeId} {parts:Array (Nat × Operand)} (idx:List Nat) (ops:List Operand) (Xs:List AV) (R:List (Value ⊕ Nat)) (ho:o.op = .build T parts) (hp:parts.toList=idx.zip ops) (h1:idx.length=Xs.length) (h2:ops.length=Xs.length) (hX:Xs.all AV.solid2=true)
    (H:∀ α,P.built T (idx.zip (valsG α 0 Xs))=some (R.map (pickV α (Xs.flatMap AV.cellsOf))).toArray) (hR:R.all (fun r=>match r with | .inl _=>true | .inr k=>decide (k<(Xs.flatMap AV.cellsOf).length))=true) {ds:List AV} (hd:R.map (pickA (Xs.flatMap AV.cellsOf))=ds) :
    ASpec P J o (ops.zip Xs) [] (.agg ds) .no :=
  ZI fun ρ B a w _ ha _=>by
    subst hd
    obtain ⟨α,hα1,hα2⟩:=vals_of Xs (ops.map a.eval) 0 (by simpa using h2) (fun i hi hi'=>by
      have hi2:i<ops.length:=by omega
      rw [List.getElem_map]
      exact ha (ops[i],Xs[i]) (by rw [List.mem_iff_getElem];exact ⟨i,by simp;omega,by simp⟩)) hX
    refine ⟨.agg (R.map (pickV α (Xs.flatMap AV.cellsOf))).toArray,?_,.agg (by simp) fun j hj => ?_⟩
    · simp only [execOp,ho]
      refine Yb (run_build w T _ _ ?_)
      rw [← H α,← hα1]
      congr 1
      rw [Array.toList_map,hp]
      apply List.ext_getElem
      · simp
      intro k g1 g2
      simp
    have hj':j<R.length:=by simpa using hj
    simp only [List.getElem_map]
    have e:(R.map (pickV α (Xs.flatMap AV.cellsOf))).toArray.getD j undef=pickV α (Xs.flatMap AV.cellsOf) R[j]:=by simp [Array.getD,hj']
    rw [e]
    have hr:=List.all_eq_true.1 hR _ (List.getElem_mem hj')
    generalize R[j]=r at hr
    cases r with
    | inl z=>exact .pu (.v z)
    | inr k =>
      have hk:k<(Xs.flatMap AV.cellsOf).length:=by simpa using hr
      have h3:=hα2 k hk
      rw [Nat.zero_add] at h3
      simp only [pickA,pickV,List.getD_eq_getElem?_getD,List.getElem?_eq_getElem hk,Option.getD_some]
      exact h3
end
section
variable {P:Program} {o:Oper} {k:IntKind} {a b:Int} {ts:Array TypeId} {x y:Operand}
theorem sp_max (x y:Operand) (ho:o.op = .call { callee := .builtin .max,args := #[x,y],argTypes:=ts }):ASpec P J o [(x,.v (.int k a)),(y,.v (.int k b))] [] (.v (.int k (max a b))) .no :=
  ZI fun ρ B a' w _ ha _=>by
    have h1:=(ha (x,.v (.int k a)) (by simp)).v_inv
    have h2:=(ha (y,.v (.int k b)) (by simp)).v_inv
    refine ⟨_,?_,.pu (.v _)⟩
    have e:(if b>a then b else a)=max a b:=by omega
    simp [execOp,ho,resolve,invoke,builtin,h1,h2,run_max_int2,e]
end
def AV.isNilS:AV→Bool
  | .v (.slice none 0 0)=>true
  | _=>false
theorem isNilS_eq {X:AV} (h:X.isNilS=true):X = .v (.slice none 0 0):=by
  unfold AV.isNilS at h
  split at h
  · rfl
  cases h
theorem wk_anyN {h:AHeap} {t:ATm} (k z:Nat) {T:TypeId} {cs:List AV} (m:List Nat) {ds:List AV} (hk:h k=some (.box T cs)) (hd:cs.zipIdx.map (fun p=>if m.getD p.2 0=1 then AV.any else if m.getD p.2 0=2 then .fr (.sl z 0 []) else p.1)=ds)
    (hn:(cs.zipIdx.all fun p => !(m.getD p.2 0==2)||p.1.isNilS)=true):Wk h t (fun j=>if j=k then some (.box T ds) else h j) t:=by
  subst hd
  intro J w0 ρ a w s
  refine ⟨ρ,s.wf,s.hH,s.bel,s.inv,fun j X hj => ?_,fun j hl hj => ?_,s.pin,s.tl,s.tm,s.df,fun j hj=>by show (if j=k then _ else _)=none;rw [if_neg (fun e=>by rw [e] at hj;rw [s.gh k hj] at hk;cases hk)];exact s.gh j hj⟩
  · by_cases e:j=k
    · subst e
      rw [if_pos rfl] at hj
      cases hj
      obtain ⟨nm,g1,b,c,n,vs,q0,q1,q2,q3⟩:=s.hp j _ hk
      refine ⟨nm,g1,b,c,n,vs,q0,q1,by simpa using q2,fun i hi => ?_⟩
      have hi':i<cs.length:=by simpa using hi
      simp only [List.getElem_map,List.getElem_zipIdx,Nat.zero_add]
      split
      · exact .anyR
      split
      · rename_i h2
        have h3:=List.all_eq_true.1 hn (cs[i],i) (by rw [List.mem_iff_getElem];exact ⟨i,by simpa using hi',by simp⟩)
        simp only [h2,beq_self_eq_true,Bool.not_true,Bool.false_or] at h3
        have h4:=q3 i hi'
        rw [isNilS_eq h3] at h4
        rw [h4.v_inv]
        exact .pu (.fr (.sl0 (by simp [maxLen]) (by simp)))
      exact q3 i hi'
    rw [if_neg e] at hj
    exact s.hp j X hj
  by_cases e:j=k
  · rw [if_pos e] at hj;cases hj
  rw [if_neg e] at hj;exact s.dom j hl hj
def samK {α:Type} (xs ys:List α) (k:Nat):Prop:=xs.take k=ys.take k
theorem samK_succ {α:Type} {xs ys:List α} {k:Nat} (h:k<xs.length) (h':k<ys.length) (hk:samK xs ys k) (e:xs[k]=ys[k]):samK xs ys (k+1):=by
  unfold samK at *;rw [List.take_succ_eq_append_getElem h,List.take_succ_eq_append_getElem h',hk,e]
section
variable {α:Type} [DecidableEq α]
theorem Kt {xs ys:List α} {k:Nat} (h:k<xs.length) (h':k<ys.length) (e:xs[k]≠ys[k]):decide (xs=ys)=false:=by
  rw [decide_eq_false_iff_not];rintro rfl;exact e rfl
theorem eq_len {xs ys:List α} (h:xs.length≠ys.length):decide (xs=ys)=false:=by
  rw [decide_eq_false_iff_not];rintro rfl;exact h rfl
theorem eq_end {xs ys:List α} {k:Nat} (h:k=xs.length) (h':k=ys.length) (hk:samK xs ys k):decide (xs=ys)=true:=by
  unfold samK at hk;rw [List.take_of_length_le (by omega),List.take_of_length_le (by omega)] at hk
  rw [decide_eq_true_iff];exact hk
end
theorem eqIntsQ_full (b off n cap b' off' n' cap':Nat) (w:World) (xs ys:List Int) (hx:xs.length=n) (hy:ys.length=n') (hn:n≤9223372036854775807)
    (hc:∀ i,i<n→w.cell? ⟨b,off+i,none⟩=some (.int .i64 (xs.getD i 0))) (hc':∀ i,i<n'→w.cell? ⟨b',off'+i,none⟩=some (.int .i64 (ys.getD i 0))) :
    Calls Try.prog 58 #[.slice (some ⟨b,off,none⟩) n cap,.slice (some ⟨b',off',none⟩) n' cap'] w fun e w'=>e = .returned (.bool (decide (xs=ys)))∧∃ q,w'=w.drewN q:=by
  have HC:=Lib.hid hc
  have HC':=Lib.hid hc'
  have HX:=Lib.hid hx
  have HY:=Lib.hid hy
  clear hc hc' hx hy
  by_cases hnn:n=n'
  · subst hnn
    go_enter Try.func58,Try.ntmps58
    go_wp2_with fail
    go_loopw [13] (fun v wr=>∃ (k q:Nat),k≤n∧v = .int .i64 k∧samK xs ys k∧wr=w.drewN q) (fun v _=>n-(intOf v).toNat)
    case atStart=>exact ⟨0,0,Nat.zero_le _,rfl,rfl,rfl⟩
    case round =>
      obtain ⟨k,q,hk,rfl,hs,rfl⟩:=hrel
      have HS:=Lib.hid hs
      clear hs
      by_cases h1:k<n
      · have hkx:k<xs.length:=by rw [HX.out];exact h1
        have hky:k<ys.length:=by rw [HY.out];exact h1
        have g1:=HC.out k h1
        have g2:=HC'.out k h1
        rw [show xs.getD k 0=xs[k] by simp [List.getD,List.getElem?_eq_getElem hkx]] at g1
        rw [show ys.getD k 0=ys[k] by simp [List.getD,List.getElem?_eq_getElem hky]] at g2
        generalize hX:xs[k]=x at g1
        generalize hY:ys[k]=y at g2
        have HXk:=Lib.hid hX
        have HYk:=Lib.hid hY
        clear hX hY
        by_cases he:x=y
        · have HE:=Lib.hid he
          have e1:(x==y)=true:=by simp [he]
          have e2:(x != y)=false:=by rw [bne,e1];rfl
          clear he
          go_wp2_with fail
          go_quiet (fail)
          go_wp2_with fail
          go_roundw
          case rel=>exact ⟨k+1,q+nq,by omega,by go_num,samK_succ hkx hky HS.out (by rw [HXk.out,HYk.out];exact HE.out),by first | rfl | rw [World.drewN_drewN]⟩
          case measure=>simp [intOf];omega
        have HE:=Lib.hid he
        have e1:(x==y)=false:=by simp [he]
        have e2:(x != y)=true:=by rw [bne,e1];rfl
        clear he
        go_wp2_with fail
        go_quiet (fail)
        go_wp2_with fail
        go_ret
        exact ⟨Zi (by rw [Kt hkx hky (by rw [HXk.out,HYk.out];exact HE.out)]),q+nq,by first | rfl | rw [World.drewN_drewN]⟩
      have HE:=Lib.hid (eq_end (k:=k) (by rw [HX.out];omega) (by rw [HY.out];omega) HS.out)
      go_wp2_with fail
      go_ret
      exact ⟨Zi (by rw [HE.out]),q,rfl⟩
  have h1:(((n:Nat):Int)==((n':Nat):Int))=false:=by simp;omega
  have h2:(((n:Nat):Int) != ((n':Nat):Int))=true:=by rw [bne,h1];rfl
  have E:=Lib.hid (eq_len (xs:=xs) (ys:=ys) (by rw [HX.out,HY.out];exact hnn))
  clear hnn
  go_enter Try.func58,Try.ntmps58
  go_wp2_with fail
  go_ret
  exact ⟨Zi (by rw [E.out]),0,rfl⟩
theorem eqIntsQ_left (a a':Option Addr) (cap n' cap':Nat) (w:World) (ys:List Int) (hy:ys.length=n') (hn:n'≤9223372036854775807) :
    Calls Try.prog 58 #[.slice a 0 cap,.slice a' n' cap'] w fun e w'=>e = .returned (.bool (decide ([]=ys)))∧∃ q,w'=w.drewN q:=by
  by_cases h0:n'=0
  · subst h0
    obtain rfl:=List.eq_nil_of_length_eq_zero hy
    go_enter Try.func58,Try.ntmps58
    go_wp2_with fail
    refine wp_loop_rounds 1 ?_
    rw [rounds_succ]
    go_wp2_with fail
    go_ret
    exact ⟨rfl,0,rfl⟩
  have h1':((0:Int)==((n':Nat):Int))=false:=by simp;omega
  have h2:((0:Int) != ((n':Nat):Int))=true:=by rw [bne,h1'];rfl
  have E:=Lib.hid (eq_len (xs:=[]) (ys:=ys) (by simp;omega))
  clear h0
  go_enter Try.func58,Try.ntmps58
  go_wp2_with fail
  go_ret
  exact ⟨Zi (by rw [E.out]),0,rfl⟩
theorem eqIntsQ_right (a a':Option Addr) (n cap cap':Nat) (w:World) (x:Int) (xs:List Int) (hx:(x::xs).length=n) (hn:n≤9223372036854775807) :
    Calls Try.prog 58 #[.slice a n cap,.slice a' 0 cap'] w fun e w'=>e = .returned (.bool (decide (x::xs=[])))∧∃ q,w'=w.drewN q:=by
  have h0:0<n:=by simp at hx;omega
  have h1:(((n:Nat):Int)==(0:Int))=false:=by simp;omega
  have h2:(((n:Nat):Int) != (0:Int))=true:=by rw [bne,h1];rfl
  have E:=Lib.hid (eq_len (xs:=x::xs) (ys:=[]) (by simp))
  clear hx
  go_enter Try.func58,Try.ntmps58
  go_wp2_with fail
  go_ret
  exact ⟨Zi (by rw [E.out]),0,rfl⟩
theorem eqIntsQ_any {lo lo':Nat} {w:World} {v v':Value} {xs ys:List Int} (h:IsInts lo w v xs) (h':IsInts lo' w v' ys) :
    Calls Try.prog 58 #[v,v'] w fun e w'=>e = .returned (.bool (decide (xs=ys)))∧∃ q,w'=w.drewN q:=by
  obtain ⟨a,cap,rfl,hl,hm,hi,hc⟩:=h
  obtain ⟨a',cap',rfl,hl',hm',hi',hc'⟩:=h'
  unfold maxLen at hm hm'
  rcases hc with rfl | ⟨b,off,rfl,_,_,hc⟩
  · exact eqIntsQ_left _ _ _ _ _ _ _ rfl (by omega)
  rcases hc' with rfl | ⟨b',off',rfl,_,_,hc'⟩
  · cases xs with
    | nil=>exact eqIntsQ_left _ _ _ _ _ _ _ rfl (by simp)
    | cons x xs=>exact eqIntsQ_right _ _ _ _ _ _ _ _ rfl (by omega)
  exact eqIntsQ_full _ _ _ _ _ _ _ _ _ _ _ rfl rfl (by omega) hc hc'
theorem eqThsQ_full (b off n cap b' off' n' cap':Nat) (w:World) (xs ys:List Th) (hx:xs.length=n) (hy:ys.length=n') (hn:n≤9223372036854775807)
    (hc:∀ i (hi:i<xs.length),∃ cs:List Value,cs.length=6∧(∀ j,j<6→w.cell? ⟨b,off+i*6+j,none⟩=cs[j]?)∧ThEl 0 w cs xs[i]) (hc':∀ i (hi:i<ys.length),∃ cs:List Value,cs.length=6∧(∀ j,j<6→w.cell? ⟨b',off'+i*6+j,none⟩=cs[j]?)∧ThEl 0 w cs ys[i]) :
    Calls Try.prog 93 #[.slice (some ⟨b,off,none⟩) n cap,.slice (some ⟨b',off',none⟩) n' cap'] w fun e w'=>e = .returned (.bool (decide (xs=ys)))∧∃ q,w'=w.drewN q:=by
  have HC:=Lib.hid hc
  have HC':=Lib.hid hc'
  have HX:=Lib.hid hx
  have HY:=Lib.hid hy
  clear hc hc' hx hy
  by_cases hnn:n=n'
  · subst hnn
    go_enter Try.func93,Try.ntmps93
    go_wp2_with fail
    go_loopw [13] (fun v wr=>∃ (k q:Nat),k≤n∧v = .int .i64 k∧samK xs ys k∧wr=w.drewN q) (fun v _=>n-(intOf v).toNat)
    case atStart=>exact ⟨0,0,Nat.zero_le _,rfl,rfl,rfl⟩
    case round =>
      obtain ⟨k,q,hk,rfl,hs,rfl⟩:=hrel
      have HS:=Lib.hid hs
      clear hs
      by_cases h1:k<n
      · have hkx:k<xs.length:=by rw [HX.out];exact h1
        have hky:k<ys.length:=by rw [HY.out];exact h1
        obtain ⟨cs,_,r1,p1,_⟩:=HC.out k hkx
        obtain ⟨cs',_,r2,p2,_⟩:=HC'.out k hky
        generalize hX:xs[k]=x at p1
        generalize hY:ys[k]=y at p2
        have HXk:=Lib.hid hX
        have HYk:=Lib.hid hY
        obtain ⟨x1,x2,⟨x3,x4,x5,x6⟩⟩:=x
        obtain ⟨y1,y2,⟨y3,y4,y5,y6⟩⟩:=y
        subst p1 p2
        clear hX hY
        have g0:w.cell? ⟨b,off+k*6,none⟩=some (.int .i64 x1):=r1 0 (by omega)
        have j0:w.cell? ⟨b',off'+k*6,none⟩=some (.int .i64 y1):=r2 0 (by omega)
        have g1:w.cell? ⟨b,off+k*6+1,none⟩=some (.int .i64 x2):=r1 1 (by omega)
        have j1:w.cell? ⟨b',off'+k*6+1,none⟩=some (.int .i64 y2):=r2 1 (by omega)
        have g2:w.cell? ⟨b,off+k*6+2,none⟩=some (.int .i64 x3):=r1 2 (by omega)
        have j2:w.cell? ⟨b',off'+k*6+2,none⟩=some (.int .i64 y3):=r2 2 (by omega)
        have g3:w.cell? ⟨b,off+k*6+3,none⟩=some (.int .i64 x4):=r1 3 (by omega)
        have j3:w.cell? ⟨b',off'+k*6+3,none⟩=some (.int .i64 y4):=r2 3 (by omega)
        have g4:w.cell? ⟨b,off+k*6+4,none⟩=some (.int .i64 x5):=r1 4 (by omega)
        have j4:w.cell? ⟨b',off'+k*6+4,none⟩=some (.int .i64 y5):=r2 4 (by omega)
        have g5:w.cell? ⟨b,off+k*6+5,none⟩=some (.int .i64 x6):=r1 5 (by omega)
        have j5:w.cell? ⟨b',off'+k*6+5,none⟩=some (.int .i64 y6):=r2 5 (by omega)
        clear r1 r2
        by_cases e0:x1=y1
        · subst e0
          by_cases e1:x2=y2
          · subst e1
            by_cases e2:x3=y3
            · subst e2
              by_cases e3:x4=y4
              · subst e3
                by_cases e4:x5=y5
                · subst e4
                  by_cases e5:x6=y6
                  · subst e5
                    go_wp2_with fail
                    go_quiet (fail)
                    go_wp2_with fail
                    go_roundw
                    case rel=>exact ⟨k+1,q+nq,by omega,by go_num,samK_succ hkx hky HS.out (by rw [HXk.out,HYk.out]),by first | rfl | rw [World.drewN_drewN]⟩
                    case measure=>simp [intOf];omega
                  have e5':(x6==y6)=false:=by simp [e5]
                  have HE:=Lib.hid (show (⟨x1,x2,⟨x3,x4,x5,x6⟩⟩:Th)≠⟨x1,x2,⟨x3,x4,x5,y6⟩⟩ by intro h;simp only [Th.mk.injEq,Ln.mk.injEq] at h;simp_all)
                  clear e5
                  go_wp2_with fail
                  go_quiet (fail)
                  go_wp2_with fail
                  go_ret
                  exact ⟨Zi (by rw [Kt hkx hky (by rw [HXk.out,HYk.out];exact HE.out)]),q+nq,by first | rfl | rw [World.drewN_drewN]⟩
                have e4':(x5==y5)=false:=by simp [e4]
                have HE:=Lib.hid (show (⟨x1,x2,⟨x3,x4,x5,x6⟩⟩:Th)≠⟨x1,x2,⟨x3,x4,y5,y6⟩⟩ by intro h;simp only [Th.mk.injEq,Ln.mk.injEq] at h;simp_all)
                clear e4
                go_wp2_with fail
                go_quiet (fail)
                go_wp2_with fail
                go_ret
                exact ⟨Zi (by rw [Kt hkx hky (by rw [HXk.out,HYk.out];exact HE.out)]),q+nq,by first | rfl | rw [World.drewN_drewN]⟩
              have e3':(x4==y4)=false:=by simp [e3]
              have HE:=Lib.hid (show (⟨x1,x2,⟨x3,x4,x5,x6⟩⟩:Th)≠⟨x1,x2,⟨x3,y4,y5,y6⟩⟩ by intro h;simp only [Th.mk.injEq,Ln.mk.injEq] at h;simp_all)
              clear e3
              go_wp2_with fail
              go_quiet (fail)
              go_wp2_with fail
              go_ret
              exact ⟨Zi (by rw [Kt hkx hky (by rw [HXk.out,HYk.out];exact HE.out)]),q+nq,by first | rfl | rw [World.drewN_drewN]⟩
            have e2':(x3==y3)=false:=by simp [e2]
            have HE:=Lib.hid (show (⟨x1,x2,⟨x3,x4,x5,x6⟩⟩:Th)≠⟨x1,x2,⟨y3,y4,y5,y6⟩⟩ by intro h;simp only [Th.mk.injEq,Ln.mk.injEq] at h;simp_all)
            clear e2
            go_wp2_with fail
            go_quiet (fail)
            go_wp2_with fail
            go_ret
            exact ⟨Zi (by rw [Kt hkx hky (by rw [HXk.out,HYk.out];exact HE.out)]),q+nq,by first | rfl | rw [World.drewN_drewN]⟩
          have e1':(x2==y2)=false:=by simp [e1]
          have HE:=Lib.hid (show (⟨x1,x2,⟨x3,x4,x5,x6⟩⟩:Th)≠⟨x1,y2,⟨y3,y4,y5,y6⟩⟩ by intro h;simp only [Th.mk.injEq,Ln.mk.injEq] at h;simp_all)
          clear e1
          go_wp2_with fail
          go_quiet (fail)
          go_wp2_with fail
          go_ret
          exact ⟨Zi (by rw [Kt hkx hky (by rw [HXk.out,HYk.out];exact HE.out)]),q+nq,by first | rfl | rw [World.drewN_drewN]⟩
        have e0':(x1==y1)=false:=by simp [e0]
        have HE:=Lib.hid (show (⟨x1,x2,⟨x3,x4,x5,x6⟩⟩:Th)≠⟨y1,y2,⟨y3,y4,y5,y6⟩⟩ by intro h;simp only [Th.mk.injEq,Ln.mk.injEq] at h;simp_all)
        clear e0
        go_wp2_with fail
        go_quiet (fail)
        go_wp2_with fail
        go_ret
        exact ⟨Zi (by rw [Kt hkx hky (by rw [HXk.out,HYk.out];exact HE.out)]),q+nq,by first | rfl | rw [World.drewN_drewN]⟩
      have HE:=Lib.hid (eq_end (k:=k) (by rw [HX.out];omega) (by rw [HY.out];omega) HS.out)
      go_wp2_with fail
      go_ret
      exact ⟨Zi (by rw [HE.out]),q,rfl⟩
  have h1:(((n:Nat):Int)==((n':Nat):Int))=false:=by simp;omega
  have h2:(((n:Nat):Int) != ((n':Nat):Int))=true:=by rw [bne,h1];rfl
  have E:=Lib.hid (eq_len (xs:=xs) (ys:=ys) (by rw [HX.out,HY.out];exact hnn))
  clear hnn
  go_enter Try.func93,Try.ntmps93
  go_wp2_with fail
  go_ret
  exact ⟨Zi (by rw [E.out]),0,rfl⟩
theorem eqThsQ_left (a a':Option Addr) (cap n' cap':Nat) (w:World) (ys:List Th) (hy:ys.length=n') (hn:n'≤9223372036854775807) :
    Calls Try.prog 93 #[.slice a 0 cap,.slice a' n' cap'] w fun e w'=>e = .returned (.bool (decide ([]=ys)))∧∃ q,w'=w.drewN q:=by
  by_cases h0:n'=0
  · subst h0
    obtain rfl:=List.eq_nil_of_length_eq_zero hy
    go_enter Try.func93,Try.ntmps93
    go_wp2_with fail
    refine wp_loop_rounds 1 ?_
    rw [rounds_succ]
    go_wp2_with fail
    go_ret
    exact ⟨rfl,0,rfl⟩
  have h1':((0:Int)==((n':Nat):Int))=false:=by simp;omega
  have h2:((0:Int) != ((n':Nat):Int))=true:=by rw [bne,h1'];rfl
  have E:=Lib.hid (eq_len (xs:=[]) (ys:=ys) (by simp;omega))
  clear h0
  go_enter Try.func93,Try.ntmps93
  go_wp2_with fail
  go_ret
  exact ⟨Zi (by rw [E.out]),0,rfl⟩
theorem eqThsQ_right (a a':Option Addr) (n cap cap':Nat) (w:World) (x:Th) (xs:List Th) (hx:(x::xs).length=n) (hn:n≤9223372036854775807) :
    Calls Try.prog 93 #[.slice a n cap,.slice a' 0 cap'] w fun e w'=>e = .returned (.bool (decide (x::xs=[])))∧∃ q,w'=w.drewN q:=by
  have h0:0<n:=by simp at hx;omega
  have h1:(((n:Nat):Int)==(0:Int))=false:=by simp;omega
  have h2:(((n:Nat):Int) != (0:Int))=true:=by rw [bne,h1];rfl
  have E:=Lib.hid (eq_len (xs:=x::xs) (ys:=[]) (by simp))
  clear hx
  go_enter Try.func93,Try.ntmps93
  go_wp2_with fail
  go_ret
  exact ⟨Zi (by rw [E.out]),0,rfl⟩
theorem eqThsQ_any {lo lo':Nat} {w:World} {v v':Value} {xs ys:List Th} (h:IsSl 6 ThEl lo w v xs) (h':IsSl 6 ThEl lo' w v' ys) :
    Calls Try.prog 93 #[v,v'] w fun e w'=>e = .returned (.bool (decide (xs=ys)))∧∃ q,w'=w.drewN q:=by
  obtain ⟨a,cap,rfl,hl,hm,_,hc⟩:=h.mono ThEl.mono (Nat.zero_le lo)
  obtain ⟨a',cap',rfl,hl',hm',_,hc'⟩:=h'.mono ThEl.mono (Nat.zero_le lo')
  unfold maxLen at hm hm'
  rcases hc with rfl | ⟨b,off,rfl,_,_,hc⟩
  · exact eqThsQ_left _ _ _ _ _ _ _ rfl (by omega)
  rcases hc' with rfl | ⟨b',off',rfl,_,_,hc'⟩
  · cases xs with
    | nil=>exact eqThsQ_left _ _ _ _ _ _ _ rfl (by simp)
    | cons x xs=>exact eqThsQ_right _ _ _ _ _ _ _ _ rfl (by omega)
  exact eqThsQ_full _ _ _ _ _ _ _ _ _ _ _ rfl rfl (by omega) hc hc'
end Go.Proofs.Ytabgfofjgkibmaa
