import Derived.Laws.IdiomCopy
import Derived.Deep.QuietTactic
import Derived.BigQuiet
import Derived.LoopTactic
import Derived.Lib.Hide
import Derived.StillTailTactics
import Derived.Outline
import Derived.ChangeArms
import Derived.ChangeMaps5
import Derived.Test.YtengacodacejiaaGrpegkifceh
import Derived.Test.YtengacodacejiaaGrppafemefo
import Derived.Test.YtengacodacejiaaGrphnnnpkih
import Derived.Test.YtengacodacejiaaGrphokogcoj
import Derived.Test.YtengacodacejiaaGrpcibpkcma
import Derived.Test.YtengacodacejiaaGrphnbciahi
import Derived.Test.YtengacodacejiaaGrpggejkcnp
import Derived.Test.YtengacodacejiaaGrpnpmimomk
import Derived.Test.YtengacodacejiaaGrpdkkmomim
import Derived.Test.YtengacodacejiaaGrpckdhecpf
import Derived.Test.YtengacodacejiaaGrpidngofon
set_option linter.all false
namespace Go.Proofs.Ytengacodacejiaa
open Go.RowKit Go.Deep
variable {J:World→Prop}
theorem Rel.bsl_inv {ρ:Names} {B:Nat} {w:World} {k off n:Nat} {x:Value} (h:Rel ρ B w (.bsl k off n) x) (h0:n≠0):∃ b c n' cp,ρ k=some (.at b c n')∧x = .slice (some ⟨b,off,none⟩) n cp:=by
  cases h with
  | pu h=>cases h
  | bsl h hx =>
    rcases hx with ⟨b,c,m,o',cp,rfl,rfl,ho⟩ | ⟨hz,_⟩
    · rw [ho h0];exact ⟨_,_,_,_,h,rfl⟩
    exact absurd hz h0
section
variable {P:Program} {o:Oper}
theorem sp_sliceArr {t e:TypeId} {z len k off:Nat} (x:Operand) (ho:o.op = .slice t x none none none) (hu:P.underlying t=some (.array len e)) (hz:(P.info? e).map (·.size)=some z) :
    ASpec P J o [(x,.box k off)] [] (.bsl k off len) .no :=
  ZM fun ρ B a w _ ha _=>by
    obtain ⟨b,c,n,h1',h2⟩:=(ha (x,.box k off) (by simp)).box_inv
    obtain ⟨it,hi,rfl⟩:=Option.map_eq_some_iff.1 hz
    refine ⟨.slice (some ⟨b,off,none⟩) len len,?_,.bsl (o:=off) (m:=len) h1' (.inl ⟨b,c,n,off,len,rfl,rfl,fun _=>rfl⟩)⟩
    simp only [execOp,ho,h2]
    refine Yc ?_
    by_cases h0:len=0
    · subst h0;simp [Instr.sliceAt,run_underlying hu,Instr.sureAddr,Instr.sliceBounds,sizeOf,typeInfo,hi]
    simp [Instr.sliceAt,run_underlying hu,Instr.sureAddr,Instr.sliceBounds,sizeOf,typeInfo,hi,h0,Addr.add_mid]
theorem sp_copyB {dT sT e T0:TypeId} {k off n m:Nat} {cs old new:List AV} (x y:Operand) (ho:o.op = .call { callee := .builtin .copy,args := #[x,y],argTypes := #[dT,sT] }) (hu:P.underlying dT=some (.slice e)) (hz:(P.info? e).map (·.size)=some 1)
    (hc:∀ X∈cs,X.cell=true) (hr:off+n≤old.length) (hl:new.length=old.length)
    (hin:∀ j (hj:j<new.length),new[j] = .any∨(off≤j∧j<off+min m n∧cs[j-off]? = some new[j])∨(¬ (off≤j∧j<off+min m n)∧old[j]? = some new[j])) (h0n:n≠0:=by decide) :
    ASpec P J o [(x,.bsl k off n),(y,.sl 1 m cs)] [(k,.box T0 old)] (.v (.int .i64 ((min m n:Nat):Int))) (.st k (.box T0 new)):=by
  intro ρ B a w K Q hwf hB _ ha hr' _ hk
  obtain ⟨b,c,n1,cp,h1,h2⟩:=(ha (x,.bsl k off n) (by simp)).bsl_inv h0n
  have hy:=(ha (y,.sl 1 m cs) (by simp)).sl_inv
  obtain ⟨nm,h1',b',c',n',vs,e0,hg,hvs,hrel⟩:=hr' (k,.box T0 old) (by simp)
  rw [h1] at h1';cases h1';cases e0
  have key:∃ vsrc:List Value,(∀ ty,(Builtin.copy_ #[dT,sT] ty #[.slice (some ⟨b,off,none⟩) n cp,a.eval y]).run P w = .ok (goInt ((min m n:Nat):Int)) (w.setCells b off vsrc))∧vsrc.length=min m n∧∀ j,j<min m n→∃ X v,cs[j]? = some X∧vsrc[j]? = some v∧Rel ρ B w X v:=by
    generalize a.eval y=v at hy
    cases hy with
    | sl0 q2 qz =>
      rename_i ad cap
      refine ⟨[],fun ty => ?_,by simp,fun j hj=>by omega⟩
      have:=run_copy_none (P:=P) w dT sT ty e (some ⟨b,off,none⟩) ad n cp 0 cap hu hz (Nat.zero_min n)
      rw [this,show min 0 n=0 by omega]
      rfl
    | sl hcl q1 q2 hb hw hf hrc =>
      rename_i b2 off2 cap f
      have hcl':cs.length=m:=by omega
      have hvl:((List.range (min m n)).map f).length=min m n:=by simp
      refine ⟨(List.range (min m n)).map f,fun ty => ?_,hvl,fun j hj => ?_⟩
      · have:=run_copy_cells (P:=P) w dT sT ty e b off n cp ⟨b2,off2,none⟩ m cap ((List.range (min m n)).map f) hu hz (by rw [hvl]) (fun j v hv => ?_) (fun j hj => ?_) (fun j hj=>frozenB hg _) fun v hv => ?_
        · rw [this,hvl]
        · obtain ⟨hj,rfl⟩:=List.getElem?_eq_some_iff.1 hv
          have hj':j<min m n:=by rw [hvl] at hj;exact hj
          rw [Addr.add_mid]
          simpa using hf j (by omega)
        · rw [hvl] at hj
          simp only [World.cell?,hg]
          simp;omega
        obtain ⟨j,hj,rfl⟩:=List.mem_map.1 hv
        have hj':=List.mem_range.1 hj
        have hj2:j<cs.length:=by omega
        exact (hrc j hj2).one (hc _ (List.getElem_mem hj2))
      have hj2:j<cs.length:=by omega
      exact ⟨cs[j],f j,List.getElem?_eq_getElem hj2,by simp [hj],.pu (hrc j hj2)⟩
  obtain ⟨vsrc,hrun,hvl,hcell⟩:=key
  obtain ⟨cur',hg',hs',hget⟩:=YX vsrc off w vs hg (by rw [hvl,hvs];omega)
  unfold Oper.wp
  simp only [execOp,ho,resolve,invoke,builtin,List.map_toArray,List.map_cons,List.map_nil,h2,Sem.run_bind,hrun,Result.andThen_ok,Sem.run_pure]
  obtain ⟨q1,q2,q3⟩:=setCells_os b vsrc off w
  have hlo:=hwf.lo _ _ _ _ h1
  have hkeep:∀ {X:AV} {x:Value},Rel ρ B w X x→Rel ρ B (w.setCells b off vsrc) X x:=fun h=>h.keep (fun _ _ h=>h.mono (fun _ hb hw=>okOf_setCells h1 hb hw) fun _ _ h=>h) fun _ _ h=>h
  refine hk ρ _ _ ⟨rfl,q1,q2,q3,by rw [Yl];exact Nat.le_refl _,fun b' _ hne=>YK (fun e=>by subst e;exact hne k c n1 rfl h1) _ _ _,fun _ _=>rfl,fun _ _ _=>rfl,fun k' X' he => ?_,.pu (.v _)⟩
  cases he
  refine ⟨_,h1,fun b' c' n' e=>by cases e;exact ⟨by rw [Yl];exact hlo.2,hlo.1,.inr ⟨_,_,h1⟩⟩,b,c,n1,cur',rfl,hg',by rw [hs',hvs,hl],fun j hj => ?_⟩
  have hcur:=hget j
  have hjs:j<cur'.size:=by omega
  rw [hvl] at hcur
  rw [Array.getD_eq_getD_getElem?,hcur]
  rcases hin j hj with h | ⟨g1,g2,g3⟩ | ⟨g1,g2⟩
  · rw [h];exact .anyR
  · obtain ⟨X,v,e1,e2,e3⟩:=hcell (j-off) (by omega)
    rw [if_pos ⟨g1,g2⟩,e2]
    rw [g3] at e1
    cases e1
    exact hkeep e3
  rw [if_neg g1]
  obtain ⟨hj1,e⟩:=List.getElem?_eq_some_iff.1 g2
  rw [← e]
  have:=hkeep (hrel j hj1)
  rw [Array.getD_eq_getD_getElem?] at this
  exact this
def AV.isZ:AV→Bool
  | .v (.int .i64 0)=>true
  | _=>false
theorem isZ_eq {X:AV} (h:X.isZ=true):X = .v (.int .i64 0):=by
  unfold AV.isZ at h
  split at h
  · rfl
  cases h
theorem sp_copyInts {dT sT e T0:TypeId} {k off n:Nat} {old new:List AV} (l:List Int) (x y:Operand) (ho:o.op = .call { callee := .builtin .copy,args := #[x,y],argTypes := #[dT,sT] }) (hu:P.underlying dT=some (.slice e)) (hz:(P.info? e).map (·.size)=some 1)
    (hr:Nat.ble (off+n) old.length=true) (h0:(old.zipIdx.all fun p => !(Nat.ble off p.2&&Nat.blt p.2 (off+n))||p.1.isZ)=true)
    (hd:old.zipIdx.map (fun p=>if Nat.ble off p.2&&Nat.blt p.2 (off+n) then AV.v (.int .i64 (l.getD (p.2-off) 0)) else p.1)=new) (h0n:n≠0:=by decide) :
    ASpec P J o [(x,.bsl k off n),(y,Zc l)] [(k,.box T0 old)] (.v (.int .i64 ((min l.length n:Nat):Int))) (.st k (.box T0 new)):=by
  subst hd
  refine sp_copyB x y ho hu hz (fun X hX=>by obtain ⟨x,_,rfl⟩:=List.mem_map.1 hX;rfl) (Nat.le_of_ble_eq_true hr) (by simp) (fun j hj => ?_) h0n
  have hj':j<old.length:=by simpa using hj
  simp only [List.getElem_map,List.getElem_zipIdx,Nat.zero_add]
  by_cases h:off≤j∧j<off+n
  · rw [if_pos (by simp [Nat.blt_eq,Nat.ble_eq];exact h)]
    by_cases hl:j-off<l.length
    · refine .inr (.inl ⟨h.1,by omega,?_⟩)
      rw [List.getElem?_map,List.getElem?_eq_getElem hl]
      simp [List.getD_eq_getElem?_getD,hl,iv]
    refine .inr (.inr ⟨by omega,?_⟩)
    have h3:=List.all_eq_true.1 h0 (old[j],j) (by rw [List.mem_iff_getElem];exact ⟨j,by simpa using hj',by simp⟩)
    have h4:(Nat.ble off j&&Nat.blt j (off+n))=true:=by simp [Nat.blt_eq,Nat.ble_eq];exact h
    simp only [h4,Bool.not_true,Bool.false_or] at h3
    rw [List.getElem?_eq_getElem hj',isZ_eq h3]
    simp [List.getD_eq_getElem?_getD,List.getElem?_eq_none (show l.length≤j-off by omega)]
  refine .inr (.inr ⟨fun h'=>h ⟨h'.1,by omega⟩,?_⟩)
  rw [if_neg (by simp [Nat.blt_eq,Nat.ble_eq];omega),List.getElem?_eq_getElem hj']
end
section
variable {P:Program} {w0:Wb} {h:AHeap} {t:ATm}
theorem tri_end3 {fn:Func} {r r' r'':ResultVar} {X X' X'' u:AV} (hr:fn.results = #[r,r',r'']) (h1:ResV P h t r X) (h2:ResV P h t r' X') (h3:ResV P h t r'' X'') (hu:(AV.tup [X,X',X'']).out3 h=u):ETri J w0 h t (bodyPost P fn (RetP w0 u) .ret):=fun ρ a w s=>by
  subst hu
  obtain ⟨v,g1,g2⟩:=Y7 s h1
  obtain ⟨v',g1',g2'⟩:=Y7 s h2
  obtain ⟨v'',g1'',g2''⟩:=Y7 s h3
  refine ⟨s.df,.tuple #[v,v',v''],?_,_,rfl,s.out3 (.tup rfl fun j hj => ?_),s.bel⟩
  · unfold results
    rw [hr,Sem.run_bind,mapM_three (v:=v) (v':=v') (v'':=v'') (by cases r<;>exact g1) (by cases r'<;>exact g1') (by cases r''<;>exact g1'')]
    rfl
  simp only [List.length_cons,List.length_nil] at hj
  match j,hj with
  | 0,_=>exact g2
  | 1,_=>exact g2'
  | 2,_=>exact g2''
end
theorem Rel.bsl_part {ρ:Names} {B:Nat} {w:World} {k off n:Nat} {x:Value} (h:Rel ρ B w (.bsl k off n) x):∃ nm,ρ k=some nm∧PartV nm off n x:=by
  cases h with
  | pu h=>cases h
  | bsl h hx=>exact ⟨_,h,hx⟩
section
variable {P:Program} {o:Oper}
end
section
variable {P:Program} {o:Oper}
theorem rel_el {ρ:Names} {B:Nat} {w:World} {cs:List AV} {off:Nat} {v:Value} (h:Rel ρ B w (.el cs off) v) :
    ∃ b base,∃ f:Nat→Value,v = .pointer (some ⟨b,base+off,none⟩)∧okOf ρ b∧b<w.heap.size∧(∀ j,j<cs.length→w.cell? ⟨b,base+j,none⟩=some (f j))∧∀ j (hj:j<cs.length),Pu (B ≤ ·) w (okOf ρ) cs[j] (f j):=by
  cases h with
  | pu h=>cases h with | el hb hw hf h=>exact ⟨_,_,_,rfl,hb,hw,hf,h⟩
theorem Z5 {t e:TypeId} {z len off off':Nat} {cs:List AV} {ik:IntKind} {i:Int} (x y:Operand) (ho:o.op = .indexAddr t x y) (hu:P.underlying t=some (.array len e)) (hz:(P.info? e).map (·.size)=some z) (h0:0≤i) (h1:i<len) (he:off+i.toNat*z=off') :
    ASpec P J o [(x,.el cs off),(y,.v (.int ik i))] [] (.el cs off') .no :=
  ZM fun ρ B a w _ ha _=>by
    obtain ⟨b,base,f,h2,hb,hw,hf,hp⟩:=rel_el (ha (x,.el cs off) (by simp))
    have hy:=(ha (y,.v (.int ik i)) (by simp)).v_inv
    refine ⟨.pointer (some ⟨b,base+off',none⟩),?_,.pu (.el hb hw hf hp)⟩
    simp only [execOp,ho,h2,hy]
    exact Yc (by rw [run_indexArr hu hz _ _ _ _ _ h0 h1,← he,Nat.add_assoc])
theorem Kf {t e:TypeId} {m:Int} {len n off:Nat} {cs ds:List AV} {ik:IntKind} (x y:Operand) (ho:o.op = .slice t x none (some y) none) (hu:P.underlying t=some (.array len e)) (hz:(P.info? e).map (·.size)=some 1) (hn:n≤len) (h0:Nat.blt 0 len=true) (hm:len≤maxLen) (hl:off+n≤cs.length) (hd:(cs.drop off).take n=ds) (hmn:m=(n:Int)) :
    ASpec P J o [(x,.el cs off),(y,.v (.int ik m))] [] (.sl 1 n ds) .no :=
  ZM fun ρ B a w _ ha _=>by
    subst hmn
    obtain ⟨b,base,f,h2,hb,hw,hf,hp⟩:=rel_el (ha (x,.el cs off) (by simp))
    have hy:=(ha (y,.v (.int ik (n:Int))) (by simp)).v_inv
    obtain ⟨it,hi,_⟩:=Option.map_eq_some_iff.1 hz
    have h0':0<len:=by rwa [Nat.blt_eq] at h0
    have hlen:ds.length=n*1:=by subst hd;rw [List.length_take,List.length_drop];omega
    refine ⟨.slice (some ⟨b,base+off,none⟩) n len,?_,.pu (.sl (f:=fun j=>f (off+j)) hlen hn hm hb hw (fun j hj => ?_) fun j hj => ?_)⟩
    · simp only [execOp,ho,h2]
      refine Yc ?_
      have r2:(Instr.sliceBound (a.eval y) len .sliceAlen).run P w = .ok n w:=by
        rw [hy];simp [Instr.sliceBound,asIntOf,hn]
      simp [Instr.sliceAt,run_underlying hu,Instr.sureAddr,Instr.sliceBounds,sizeOf,typeInfo,hi,r2,Addr.add_mid]
    · subst hd
      obtain ⟨h5,_⟩:=Kv cs off _ j hj
      rw [Nat.add_assoc];exact hf _ h5
    subst hd
    obtain ⟨h5,h6⟩:=Kv cs off _ j hj
    rw [h6];exact hp _ h5
end
def midF (A:List AV) (n:Nat) (g:Nat→AV) (C:List AV):List AV:=A++((List.range n).map g++C)
theorem midF_len {A C:List AV} {n:Nat} {g:Nat→AV}:(midF A n g C).length=A.length+(n+C.length):=by simp [midF]
theorem midF_get {A C:List AV} {n i o:Nat} {g:Nat→AV} (hi:i<n) (ho:A.length+i=o):(midF A n g C)[o]? = some (g i):=by
  subst ho
  unfold midF
  rw [List.getElem?_append_right (by omega),Nat.add_sub_cancel_left,List.getElem?_append_left (by simpa using hi),List.getElem?_map,List.getElem?_range hi]
  rfl
theorem midF_set {A C:List AV} {n i o:Nat} {g g':Nat→AV} {X:AV} (hi:i<n) (ho:A.length+i=o) (h1:g' i=X) (h2:∀ j,j<n→j≠i→g' j=g j):setAll (midF A n g C) o [X]=midF A n g' C:=by
  subst ho
  show (midF A n g C).set (A.length+i) X=_
  unfold midF
  rw [List.set_append_right _ _ (by omega),Nat.add_sub_cancel_left,List.set_append_left _ _ (by simpa using hi)]
  congr 2
  apply List.ext_getElem (by simp)
  intro j a b
  have hj:j<n:=by simpa using b
  rw [List.getElem_set]
  split
  · subst_vars;simp
  rename_i hne;simp [h2 j hj (fun e=>hne e.symm)]
theorem midF_congr {A C:List AV} {n:Nat} {g g':Nat→AV} (h:∀ j,j<n→g' j=g j):midF A n g' C=midF A n g C:=by
  unfold midF
  congr 2
  apply List.map_congr_left
  intro j hj
  exact h j (List.mem_range.1 hj)
structure FamLen (q:Fm):Prop where
  states:q.states.length≤60
  msgs:q.msgs.length≤60
  vals:q.vals.length≤60
  res:q.res.length≤60
  init:q.init.length≤60
  leader:q.leader.length≤60
  lrules:q.rules.length≤30
  rules:∀ r∈q.rules,RuLen r
theorem famLen {q:Fm} (h:bigF q=false):FamLen q:=by
  unfold bigF at h
  simp only [Bool.or_eq_false_iff,decide_eq_false_iff_not] at h
  obtain ⟨⟨⟨⟨⟨⟨⟨⟨⟨⟨⟨h0,h1⟩,h2⟩,h3⟩,h4⟩,h5⟩,h6⟩,h7⟩,h8⟩,_⟩,_⟩,_⟩:=h
  refine ⟨by omega,by omega,by omega,by omega,by omega,by omega,by omega,fun r hr => ?_⟩
  unfold bigRk at h8
  rw [List.take_length,List.any_eq_false] at h8
  have h9:=h8 r hr
  have h10:bigR r=false:=by simpa using h9
  unfold bigR at h10
  simp only [Bool.or_eq_false_iff,decide_eq_false_iff_not] at h10
  obtain ⟨⟨⟨⟨⟨⟨⟨⟨_,a1⟩,a2⟩,a3⟩,a4⟩,a5⟩,a6⟩,a7⟩,a8⟩:=h10
  exact ⟨by omega,by omega,by omega,by omega,by omega,by omega,by omega,by omega⟩
set_option maxHeartbeats 12800000
def sameK (xs ys:List Int) (k:Nat):Prop:=xs.take k=ys.take k
theorem sameK_succ {xs ys:List Int} {k:Nat} (h:k<xs.length) (h':k<ys.length) (hk:sameK xs ys k) (e:xs[k]=ys[k]):sameK xs ys (k+1):=by
  unfold sameK at *;rw [List.take_succ_eq_append_getElem h,List.take_succ_eq_append_getElem h',hk,e]
theorem eqI_differ {xs ys:List Int} {k:Nat} (h:k<xs.length) (h':k<ys.length) (e:xs[k]≠ys[k]):eqI xs ys=false:=by
  unfold eqI;rw [decide_eq_false_iff_not];rintro rfl;exact e rfl
theorem eqI_len {xs ys:List Int} (h:xs.length≠ys.length):eqI xs ys=false:=by
  unfold eqI;rw [decide_eq_false_iff_not];rintro rfl;exact h rfl
theorem eqI_end {xs ys:List Int} {k:Nat} (h:k=xs.length) (h':k=ys.length) (hk:sameK xs ys k):eqI xs ys=true:=by
  unfold sameK at hk;rw [List.take_of_length_le (by omega),List.take_of_length_le (by omega)] at hk
  unfold eqI;rw [decide_eq_true_iff];exact hk
theorem Equal_full (b off n cap b' off' n' cap':Nat) (w:World) (xs ys:List Int) (hx:xs.length=n) (hy:ys.length=n') (hn:n≤9223372036854775807) (hb:b<w.heap.size) (hb':b'<w.heap.size)
    (hc:∀ i,i<n→w.cell? ⟨b,off+i,none⟩=some (.int .i64 (xs.getD i 0))) (hc':∀ i,i<n'→w.cell? ⟨b',off'+i,none⟩=some (.int .i64 (ys.getD i 0))) :
    Calls Try.prog 90 #[.slice (some ⟨b,off,none⟩) n cap,.slice (some ⟨b',off',none⟩) n' cap'] w fun e w'=>e = .returned (.bool (eqI xs ys))∧Below w.heap.size w w':=by
  by_cases hnn:n=n'
  · subst hnn
    go_enter Try.func90,Try.ntmps90
    go_wp2_with fail
    go_loopw [13] (fun v wr=>∃ k:Nat,k≤n∧v = .int .i64 k∧sameK xs ys k∧Below w.heap.size w wr) (fun v _=>n-(intOf v).toNat)
    case atStart=>exact ⟨0,Nat.zero_le _,rfl,rfl,Below.refl _ _⟩
    case round =>
      obtain ⟨k,hk,rfl,hs,hB⟩:=hrel
      have HS:=Lib.hid hs
      have HB:=Lib.hid hB
      clear hs
      by_cases h1:k<n
      · have g1:wr.cell? ⟨b,off+k,none⟩=some (.int .i64 (xs.getD k 0)):=(hB.cell (p:=⟨b,off+k,none⟩) hb).trans (hc k h1)
        have g2:wr.cell? ⟨b',off'+k,none⟩=some (.int .i64 (ys.getD k 0)):=(hB.cell (p:=⟨b',off'+k,none⟩) hb').trans (hc' k h1)
        have ex:xs.getD k 0=xs[k]'(by omega):=by simp [List.getD,List.getElem?_eq_getElem (show k<xs.length by omega)]
        have ey:ys.getD k 0=ys[k]'(by omega):=by simp [List.getD,List.getElem?_eq_getElem (show k<ys.length by omega)]
        rw [ex] at g1
        rw [ey] at g2
        generalize hX:xs[k]'(by omega)=x at g1
        generalize hY:ys[k]'(by omega)=y at g2
        have HX:=Lib.hid hX
        have HY:=Lib.hid hY
        clear hB ex ey hX hY
        by_cases he:x=y
        · have HE:=Lib.hid he
          have e1:(x==y)=true:=by simp [he]
          have e2:(x != y)=false:=by rw [bne,e1];rfl
          clear he
          go_wp2_with fail
          go_quiet (fail)
          go_wp2_with fail
          go_roundw
          case rel=>exact ⟨k+1,by omega,by go_num,sameK_succ (by omega) (by omega) HS.out (by rw [HX.out,HY.out];exact HE.out),quietBelow HB.out _⟩
          case measure=>simp [intOf];omega
        have HE:=Lib.hid he
        have e1:(x==y)=false:=by simp [he]
        have e2:(x != y)=true:=by rw [bne,e1];rfl
        clear he
        go_wp2_with fail
        go_quiet (fail)
        go_wp2_with fail
        go_ret
        exact ⟨Zh (by rw [eqI_differ (k:=k) (by omega) (by omega) (by rw [HX.out,HY.out];exact HE.out)]),quietBelow HB.out _⟩
      clear hB
      go_wp2_with fail
      go_ret
      exact ⟨Zh (by rw [eqI_end (k:=k) (by omega) (by omega) HS.out]),HB.out⟩
  have h1:(((n:Nat):Int)==((n':Nat):Int))=false:=by simp;omega
  have h2:(((n:Nat):Int) != ((n':Nat):Int))=true:=by rw [bne,h1];rfl
  have E:=Lib.hid (eqI_len (xs:=xs) (ys:=ys) (by rw [hx,hy];exact hnn))
  clear hnn
  go_enter Try.func90,Try.ntmps90
  go_wp2_with fail
  go_ret
  exact ⟨Zh (by rw [E.out]),Below.refl _ _⟩
theorem Equal_left (a a':Option Addr) (cap n' cap':Nat) (w:World) (ys:List Int) (hy:ys.length=n') (hn:n'≤9223372036854775807) :
    Calls Try.prog 90 #[.slice a 0 cap,.slice a' n' cap'] w fun e w'=>e = .returned (.bool (eqI [] ys))∧Below w.heap.size w w':=by
  by_cases h0:n'=0
  · subst h0
    obtain rfl:=List.eq_nil_of_length_eq_zero hy
    go_enter Try.func90,Try.ntmps90
    go_wp2_with fail
    refine wp_loop_rounds 1 ?_
    rw [rounds_succ]
    go_wp2_with fail
    go_ret
    exact ⟨rfl,Below.refl _ _⟩
  have h1:(((0:Nat):Int)==((n':Nat):Int))=false:=by simp;omega
  have h1':((0:Int)==((n':Nat):Int))=false:=by simp;omega
  have h2:((0:Int) != ((n':Nat):Int))=true:=by rw [bne,h1'];rfl
  have E:=Lib.hid (eqI_len (xs:=[]) (ys:=ys) (by simp;omega))
  clear h0
  go_enter Try.func90,Try.ntmps90
  go_wp2_with fail
  go_ret
  exact ⟨Zh (by rw [E.out]),Below.refl _ _⟩
theorem Equal_right (a a':Option Addr) (n cap cap':Nat) (w:World) (x:Int) (xs:List Int) (hx:(x::xs).length=n) (hn:n≤9223372036854775807) :
    Calls Try.prog 90 #[.slice a n cap,.slice a' 0 cap'] w fun e w'=>e = .returned (.bool (eqI (x::xs) []))∧Below w.heap.size w w':=by
  have h0:0<n:=by simp at hx;omega
  have h1:(((n:Nat):Int)==(0:Int))=false:=by simp;omega
  have h2:(((n:Nat):Int) != (0:Int))=true:=by rw [bne,h1];rfl
  have E:=Lib.hid (eqI_len (xs:=x::xs) (ys:=[]) (by simp))
  clear hx
  go_enter Try.func90,Try.ntmps90
  go_wp2_with fail
  go_ret
  exact ⟨Zh (by rw [E.out]),Below.refl _ _⟩
theorem Equal_any {lo lo':Nat} {w:World} {v v':Value} {xs ys:List Int} (h:IsInts lo w v xs) (h':IsInts lo' w v' ys) :
    Calls Try.prog 90 #[v,v'] w fun e w'=>e = .returned (.bool (eqI xs ys))∧Below w.heap.size w w':=by
  obtain ⟨a,cap,rfl,hl,hm,hi,hc⟩:=h
  obtain ⟨a',cap',rfl,hl',hm',hi',hc'⟩:=h'
  unfold maxLen at hm hm'
  rcases hc with rfl | ⟨b,off,rfl,_,hb,hc⟩
  · exact Equal_left _ _ _ _ _ _ _ rfl (by omega)
  rcases hc' with rfl | ⟨b',off',rfl,_,hb',hc'⟩
  · cases xs with
    | nil=>exact Equal_left _ _ _ _ _ _ _ rfl (by simp)
    | cons x xs=>exact Equal_right _ _ _ _ _ _ _ _ rfl (by omega)
  exact Equal_full _ _ _ _ _ _ _ _ _ _ _ rfl rfl (by omega) hb hb' hc hc'
end Go.Proofs.Ytengacodacejiaa
namespace Go.Proofs.Ytengacodacejiaa
open Go.RowKit Go.Deep
deriving instance DecidableEq for Ru
deriving instance DecidableEq for Fm
section
variable {α:Type} {xs ys:List α} {k:Nat}
variable [DecidableEq α]
end
section
variable {P:Program} {J:World→Prop} {o:Oper}
end
variable {J:World→Prop}
theorem eqIntsG (xs ys:List Int) (hx:InOk xs) (hy:InOk ys):Ctr Try.prog J 90 [Zc xs,Zc ys] (bv (decide (xs=ys))):=ctr2 fun w v v' _ h h' =>
  (Equal_any (YN hx lo0 h) (YN hy lo0 h')).mono fun _ _=>ret_sc
structure SP (r s:Ru):Prop where
  n9:[r.kind,r.frm,r.to,r.pf,r.pt,r.rd,r.wr,r.pos,r.dir]=[s.kind,s.frm,s.to,s.pf,s.pt,s.rd,s.wr,s.pos,s.dir]
  resp:r.resp=s.resp
  guards:r.guards=s.guards
  ex:r.ex=s.ex
  fa:r.fa=s.fa
  send:r.send=s.send
  left:r.left=s.left
  right:r.right=s.right
  parent:r.parent=s.parent
end Go.Proofs.Ytengacodacejiaa
namespace Go.Proofs.Ytengacodacejiaa
open Go.RowKit Go.Deep
set_option maxHeartbeats 12800000
theorem sCompare_full (b off n cap b' off' n' cap':Nat) (w:World) (xs ys:List Int) (hx:xs.length=n) (hy:ys.length=n') (hn:n≤9223372036854775807)
    (hc:∀ i,i<n→w.cell? ⟨b,off+i,none⟩=some (.int .i64 (xs.getD i 0))) (hc':∀ i,i<n'→w.cell? ⟨b',off'+i,none⟩=some (.int .i64 (ys.getD i 0))) :
    Calls Try.prog 31 #[.slice (some ⟨b,off,none⟩) n cap,.slice (some ⟨b',off',none⟩) n' cap'] w fun e w'=>e = .returned (.int .i64 (cmpI xs ys))∧w=w':=by
  go_enter Try.func31,Try.ntmps31
  go_wp2_with fail
  go_loop [11] (fun v=>∃ k:Nat,k≤n∧k≤n'∧v = .int .i64 k∧cmpI (xs.drop k) (ys.drop k)=cmpI xs ys) (fun v=>n-(intOf v).toNat)
  case atStart=>exact ⟨0,Nat.zero_le _,Nat.zero_le _,rfl,rfl⟩
  case round =>
    obtain ⟨k,hk,hk',rfl,hcm⟩:=hrel
    by_cases h1:k<n
    · by_cases h2:k<n'
      · have g1:=hc k h1
        have g2:=hc' k h2
        have HC:Hid (cmpI xs ys=(if xs[k]'(by omega)<ys[k]'(by omega) then -1 else if ys[k]'(by omega)<xs[k]'(by omega) then 1 else cmpI (xs.drop (k+1)) (ys.drop (k+1)))):=by
          show _=_
          rw [← hcm,List.drop_eq_getElem_cons (l:=xs) (by omega),List.drop_eq_getElem_cons (l:=ys) (by omega),cmpI]
        clear hcm
        by_cases hlt:(xs[k]'(by omega))<(ys[k]'(by omega))
        · have hN:cmpN (xs[k]'(by omega)) (ys[k]'(by omega)) = -1:=by simp [cmpN,hlt]
          have E:Hid (cmpI xs ys = -1):=by show _=_;rw [HC.out,if_pos hlt]
          clear hlt
          go_wp2_with (go_at_call 32;refine (YY _ _ _).mono ?_;rintro e w' ⟨rfl,rfl⟩)
          go_ret
          exact ⟨Zv E.out.symm,rfl⟩
        by_cases hgt:(ys[k]'(by omega))<(xs[k]'(by omega))
        · have hN:cmpN (xs[k]'(by omega)) (ys[k]'(by omega))=1:=by simp [cmpN,hlt,hgt]
          have E:Hid (cmpI xs ys=1):=by show _=_;rw [HC.out,if_neg hlt,if_pos hgt]
          clear hlt hgt
          go_wp2_with (go_at_call 32;refine (YY _ _ _).mono ?_;rintro e w' ⟨rfl,rfl⟩)
          go_ret
          exact ⟨Zv E.out.symm,rfl⟩
        have hN:cmpN (xs[k]'(by omega)) (ys[k]'(by omega))=0:=by simp [cmpN,hlt,hgt]
        have E:Hid (cmpI (xs.drop (k+1)) (ys.drop (k+1))=cmpI xs ys):=by show _=_;rw [HC.out,if_neg hlt,if_neg hgt]
        clear hlt hgt
        go_wp2_with (go_at_call 32;refine (YY _ _ _).mono ?_;rintro e w' ⟨rfl,rfl⟩)
        go_round
        case rel=>exact ⟨k+1,by omega,by omega,by go_num,E.out⟩
        case measure=>simp [intOf];omega
      have hd:ys.drop k=[]:=List.drop_eq_nil_of_le (by omega)
      have HC:Hid (cmpI xs ys=1):=by
        show _=_
        rw [← hcm,hd,List.drop_eq_getElem_cons (by omega),cmpI]
      have g1:=hc k h1
      have hlt:n'≤k:=by omega
      clear hcm hd
      go_wp2_with fail
      go_ret
      exact ⟨Zv HC.out.symm,rfl⟩
    have hkn:k=n:=by omega
    have hd:xs.drop k=[]:=List.drop_eq_nil_of_le (by omega)
    by_cases h2:n<n'
    · have HC:Hid (cmpI xs ys = -1):=by
        show _=_
        rw [← hcm,hd,List.drop_eq_getElem_cons (by omega),cmpI]
      clear hcm hd hkn
      go_wp2_with fail
      go_ret
      exact ⟨Zv HC.out.symm,rfl⟩
    have HC:Hid (cmpI xs ys=0):=by
      show _=_
      rw [← hcm,hd,List.drop_eq_nil_of_le (by omega),cmpI]
    clear hcm hd hkn
    go_wp2_with fail
    go_ret
    exact ⟨Zv HC.out.symm,rfl⟩
theorem sCompare_left (a a':Option Addr) (cap n' cap':Nat) (w:World) (ys:List Int) (hy:ys.length=n') :
    Calls Try.prog 31 #[.slice a 0 cap,.slice a' n' cap'] w fun e w'=>e = .returned (.int .i64 (cmpI [] ys))∧w=w':=by
  have HC:Hid (cmpI [] ys=if 0<n' then -1 else 0):=by
    show _=_
    cases ys<;>simp_all [cmpI]<;>omega
  by_cases h2:0<n'
  · go_enter Try.func31,Try.ntmps31
    go_wp2_with fail
    go_rounds 1
    go_ret
    exact ⟨Zv (by rw [HC.out,if_pos h2]),rfl⟩
  obtain rfl:n'=0:=by omega
  clear h2
  go_enter Try.func31,Try.ntmps31
  go_wp2_with fail
  go_rounds 1
  go_ret
  exact ⟨Zv (by rw [HC.out];rfl),rfl⟩
theorem sCompare_right (b off n cap cap':Nat) (a':Option Addr) (w:World) (x:Int) (xs:List Int) (hx:(x::xs).length=n) (hn:n≤9223372036854775807) (hc:w.cell? ⟨b,off,none⟩=some (.int .i64 x)) :
    Calls Try.prog 31 #[.slice (some ⟨b,off,none⟩) n cap,.slice a' 0 cap'] w fun e w'=>e = .returned (.int .i64 (cmpI (x::xs) []))∧w=w':=by
  have h2:0<n:=by simp at hx;omega
  clear hx
  go_enter Try.func31,Try.ntmps31
  go_wp2_with fail
  go_rounds 1
  go_ret
  exact ⟨rfl,rfl⟩
theorem Ky {lo lo':Nat} {w:World} {v v':Value} {xs ys:List Int} (h:IsInts lo w v xs) (h':IsInts lo' w v' ys) :
    Calls Try.prog 31 #[v,v'] w fun e w'=>e = .returned (.int .i64 (cmpI xs ys))∧w=w':=by
  obtain ⟨a,cap,rfl,hl,hm,hi,hc⟩:=h
  obtain ⟨a',cap',rfl,hl',hm',hi',hc'⟩:=h'
  unfold maxLen at hm hm'
  rcases hc with rfl | ⟨b,off,rfl,_,_,hc⟩
  · exact sCompare_left _ _ _ _ _ _ _ rfl
  rcases hc' with rfl | ⟨b',off',rfl,_,_,hc'⟩
  · cases xs with
    | nil=>exact sCompare_left _ _ _ _ _ _ _ rfl
    | cons x xs=>exact sCompare_right _ _ _ _ _ _ _ _ _ rfl (by omega) (by simpa using hc 0 (by simp))
  exact sCompare_full _ _ _ _ _ _ _ _ _ _ _ rfl rfl (by omega) hc hc'
structure Cf where
  sh:List Int
  st:List Int
  cor:Int
  se:List Int
  fa:List Int
  val:Int
def IsCf (lo:Nat) (w:World) (v:Value) (q:Cf):Prop :=
  ∃ u0 u1 u3 u4,v = .agg #[u0,u1,.int .i64 q.cor,u3,u4,.int .i64 q.val]∧IsInts lo w u0 q.sh∧IsInts lo w u1 q.st∧I64 q.cor∧IsInts lo w u3 q.se∧IsInts lo w u4 q.fa∧I64 q.val
theorem IsCf.below {lo:Nat} {w w':World} {v:Value} {q:Cf} (h:IsCf lo w v q) (hb:Below w.heap.size w w'):IsCf lo w' v q:=by
  obtain ⟨u0,u1,u3,u4,e,h0,h1,h2,h3,h4,h5⟩:=h
  exact ⟨u0,u1,u3,u4,e,h0.below hb,h1.below hb,h2,h3.below hb,h4.below hb,h5⟩
def cmpCf (a b:Cf):Int:=orL [cmpI a.sh b.sh,cmpI a.st b.st,cmpI a.se b.se,cmpI a.fa b.fa,cmpN a.cor b.cor,cmpN a.val b.val]
set_option maxRecDepth 100000 in
theorem cfCompare_any {lo lo':Nat} {w:World} {v v':Value} {p q:Cf} (h:IsCf lo w v p) (h':IsCf lo' w v' q) :
    Calls Try.prog 15 #[v,v'] w fun e w'=>e = .returned (.int .i64 (cmpCf p q))∧Below w.heap.size w w':=by
  obtain ⟨u0,u1,u3,u4,rfl,h0,h1,_,h3,h4,_⟩:=h
  obtain ⟨v0,v1,v3,v4,rfl,k0,k1,_,k3,k4,_⟩:=h'
  obtain ⟨a0,c0,rfl⟩:=h0.shape
  obtain ⟨a1,c1,rfl⟩:=h1.shape
  obtain ⟨a3,c3,rfl⟩:=h3.shape
  obtain ⟨a4,c4,rfl⟩:=h4.shape
  obtain ⟨b0,d0,rfl⟩:=k0.shape
  obtain ⟨b1,d1,rfl⟩:=k1.shape
  obtain ⟨b3,d3,rfl⟩:=k3.shape
  obtain ⟨b4,d4,rfl⟩:=k4.shape
  have H0:=Lib.hid h0
  have H1:=Lib.hid h1
  have H3:=Lib.hid h3
  have H4:=Lib.hid h4
  have K0:=Lib.hid k0
  have K1:=Lib.hid k1
  have K3:=Lib.hid k3
  have K4:=Lib.hid k4
  clear h0 h1 h3 h4 k0 k1 k3 k4
  go_enter Try.func15,Try.ntmps15
  go_wp2_with fail
  obtain ⟨W,hW⟩:∃ W,W=(w.alloc (.cells #[.slice a0 p.sh.length c0,.slice a1 p.st.length c1,.int .i64 p.cor,.slice a3 p.se.length c3,.slice a4 p.fa.length c4,.int .i64 p.val] 31)).alloc (.cells #[.slice b0 q.sh.length d0,.slice b1 q.st.length d1,.int .i64 q.cor,.slice b3 q.se.length d3,.slice b4 q.fa.length d4,.int .i64 q.val] 31):=⟨_,rfl⟩
  rw [← hW]
  have HB:=Lib.hid (show Below w.heap.size w W by rw [hW];show Below _ _ _;go_grown)
  have x0:W.drew.cell? ⟨w.heap.size,0,none⟩=some (.slice a0 p.sh.length c0):=by rw [hW];show World.cell? (World.alloc _ _) _=_;exact keep1 ((Zx w _ _ 0 rfl).trans rfl) (Zf _ _)
  have x1:W.drew.cell? ⟨w.heap.size,1,none⟩=some (.slice a1 p.st.length c1):=by rw [hW];show World.cell? (World.alloc _ _) _=_;exact keep1 ((Zx w _ _ 1 rfl).trans rfl) (Zf _ _)
  have x2:W.drew.cell? ⟨w.heap.size,2,none⟩=some (.int .i64 p.cor):=by rw [hW];show World.cell? (World.alloc _ _) _=_;exact keep1 ((Zx w _ _ 2 rfl).trans rfl) (Zf _ _)
  have x3:W.drew.cell? ⟨w.heap.size,3,none⟩=some (.slice a3 p.se.length c3):=by rw [hW];show World.cell? (World.alloc _ _) _=_;exact keep1 ((Zx w _ _ 3 rfl).trans rfl) (Zf _ _)
  have x4:W.drew.cell? ⟨w.heap.size,4,none⟩=some (.slice a4 p.fa.length c4):=by rw [hW];show World.cell? (World.alloc _ _) _=_;exact keep1 ((Zx w _ _ 4 rfl).trans rfl) (Zf _ _)
  have x5:W.drew.cell? ⟨w.heap.size,5,none⟩=some (.int .i64 p.val):=by rw [hW];show World.cell? (World.alloc _ _) _=_;exact keep1 ((Zx w _ _ 5 rfl).trans rfl) (Zf _ _)
  have y0:W.drew.cell? ⟨w.heap.size+1,0,none⟩=some (.slice b0 q.sh.length d0):=by rw [hW];exact (Zx _ _ _ 0 (by simp)).trans rfl
  have y1:W.drew.cell? ⟨w.heap.size+1,1,none⟩=some (.slice b1 q.st.length d1):=by rw [hW];exact (Zx _ _ _ 1 (by simp)).trans rfl
  have y2:W.drew.cell? ⟨w.heap.size+1,2,none⟩=some (.int .i64 q.cor):=by rw [hW];exact (Zx _ _ _ 2 (by simp)).trans rfl
  have y3:W.drew.cell? ⟨w.heap.size+1,3,none⟩=some (.slice b3 q.se.length d3):=by rw [hW];exact (Zx _ _ _ 3 (by simp)).trans rfl
  have y4:W.drew.cell? ⟨w.heap.size+1,4,none⟩=some (.slice b4 q.fa.length d4):=by rw [hW];exact (Zx _ _ _ 4 (by simp)).trans rfl
  have y5:W.drew.cell? ⟨w.heap.size+1,5,none⟩=some (.int .i64 q.val):=by rw [hW];exact (Zx _ _ _ 5 (by simp)).trans rfl
  have HD:=Lib.hid (show Below w.heap.size w W.drew from HB.out.trans ((drewBelow W).mono HB.out.size))
  clear hW
  refine wp_region_still_tail 30 (by kernel_rfl) (by kernel_rfl) ?_
  simp only [List.take_succ_cons,List.take_zero,List.drop_succ_cons,List.drop_zero]
  change wpStill _ _ W.drew _ _ _
  iterate 4 still_step
  still_call ((Ky (H0.out.below HD.out) (K0.out.below HD.out)).mono fun _ _ hh=>⟨hh.1,hh.2.symm⟩)
  iterate 4 still_step
  still_call ((Ky (H1.out.below HD.out) (K1.out.below HD.out)).mono fun _ _ hh=>⟨hh.1,hh.2.symm⟩)
  iterate 4 still_step
  still_call ((Ky (H3.out.below HD.out) (K3.out.below HD.out)).mono fun _ _ hh=>⟨hh.1,hh.2.symm⟩)
  iterate 4 still_step
  still_call ((Ky (H4.out.below HD.out) (K4.out.below HD.out)).mono fun _ _ hh=>⟨hh.1,hh.2.symm⟩)
  iterate 4 still_step
  still_call ((YY _ _ _).mono fun _ _ hh=>⟨hh.1,hh.2.symm⟩)
  iterate 4 still_step
  still_call ((YY _ _ _).mono fun _ _ hh=>⟨hh.1,hh.2.symm⟩)
  refine wpStill_nil ?_
  go_wp2_with (go_at_call 30;refine (Or_block [cmpI p.sh q.sh,cmpI p.st q.st,cmpI p.se q.se,cmpI p.fa q.fa,cmpN p.cor q.cor,cmpN p.val q.val] (by exact Z9 W _ rfl) (by rfl) (by rfl) (by simp)).mono ?_;rintro e w1 ⟨rfl,rfl⟩)
  go_ret
  exact ⟨rfl,Zg HB.out (Zf W _).drew⟩
variable {J:World→Prop}
namespace Rd
def ixP {α:Type} (l:List α) (p:α→Bool):Int:=match l.findIdx? p with | some i=>(i:Int) | none => -1
def noP {α:Type} (l:List α) (p:α→Bool) (k:Nat):Prop:=∀ i (h:i<l.length),i<k→p l[i]=false
theorem noP_zero {α:Type} (l:List α) (p:α→Bool):noP l p 0:=fun _ _ h=>absurd h (by omega)
theorem noP_succ {α:Type} {l:List α} {p:α→Bool} {k:Nat} (hk:k<l.length) (h:noP l p k) (e:p l[k]=false):noP l p (k+1):=fun i a b=>by
  by_cases hi:i<k
  · exact h i a hi
  obtain rfl:i=k:=by omega
  exact e
theorem ixP_at {α:Type} {l:List α} {p:α→Bool} {k:Nat} (hk:k<l.length) (h:noP l p k) (e:p l[k]=true):ixP l p=((k:Nat):Int):=by
  unfold ixP
  rw [List.findIdx?_eq_some_iff_getElem.2 ⟨hk,e,fun j hj=>by simp [h j (by omega) hj]⟩]
theorem ixP_none {α:Type} {l:List α} {p:α→Bool} {k:Nat} (hk:¬ k<l.length) (h:noP l p k):ixP l p = -1:=by
  unfold ixP
  rw [List.findIdx?_eq_none_iff.2 fun x hx=>by
    obtain ⟨i,hi,rfl⟩:=List.mem_iff_getElem.1 hx
    exact h i hi (by omega)]
theorem anyP_ix {α:Type} (l:List α) (p:α→Bool):decide (0≤ixP l p)=l.any p:=by
  unfold ixP
  cases hf:l.findIdx? p with
  | none =>
    rw [List.findIdx?_eq_none_iff] at hf
    have:l.any p=false:=by simpa using hf
    simp [this]
  | some i =>
    obtain ⟨hi,h1,_⟩:=List.findIdx?_eq_some_iff_getElem.1 hf
    have:l.any p=true:=List.any_eq_true.2 ⟨_,List.getElem_mem hi,h1⟩
    simp [this]
def outB (m x:Int):Bool:=decide (x<0)||decide (m≤x)
theorem outB_lo {m x:Int} (h:x<0):outB m x=true:=by unfold outB;simp [h]
theorem outB_hi {m x:Int} (h:¬ x<0):outB m x=decide (m≤x):=by unfold outB;simp [h]
def belB (l:List Int) (m:Int):Bool := !l.any (outB m)
def shI (top:Int) (S:List (List Int)) (sh:List Int):Int:=if top=4 then max (ixP S fun x=>decide (sh=x)) 0 else 0
def shB (top:Int) (S:List (List Int)) (sh:List Int):Bool:=if top=4 then S.any (fun x=>decide (sh=x)) else decide (sh=[])
theorem shI_tree {top:Int} {S:List (List Int)} {sh:List Int} (h:top=4):shI top S sh=max (ixP S fun x=>decide (sh=x)) 0:=if_pos h
theorem shI_no {top:Int} {S:List (List Int)} {sh:List Int} (h:¬ top=4):shI top S sh=0:=if_neg h
theorem shB_tree {top:Int} {S:List (List Int)} {sh:List Int} (h:top=4):shB top S sh=decide (0≤ixP S fun x=>decide (sh=x)):=by
  unfold shB;rw [if_pos h];exact (anyP_ix S _).symm
theorem shB_no {top:Int} {S:List (List Int)} {sh:List Int} (h:¬ top=4):shB top S sh=decide (((sh.length:Nat):Int)=0):=by
  unfold shB;rw [if_neg h]
  cases sh with
  | nil=>rfl
  | cons a l=>simp;omega
def cCg (c:Cf):List AV:=[Zc c.sh,Zc c.st,iv c.cor,Zc c.se,Zc c.fa,iv c.val]
structure CgOk (c:Cf):Prop where
  sh:InOk c.sh
  st:InOk c.st
  se:InOk c.se
  fa:InOk c.fa
  lsh:c.sh.length≤100
  lst:c.st.length≤100
  lse:c.se.length≤100
  lfa:c.fa.length≤100
theorem plain_cg (c:Cf):∀ X∈cCg c,Plain X:=by
  intro X hX
  simp only [cCg,List.mem_cons,List.not_mem_nil,or_false] at hX
  rcases hX with rfl | rfl | rfl | rfl | rfl | rfl<;>first | exact .v _ | exact Z7 _
def mfE (p:Fm):Int:=if p.fault=1∨p.fault=2 then 1048577 else 1
def rdB (p:Fm) (cnt cor:Int) (c:Cf) (b:Bool):Bool :=
  b&&decide (((c.st.length:Nat):Int)=cnt)&&belB c.st ((p.states.length:Nat):Int)&&decide (c.cor=cor)&&decide (((c.se.length:Nat):Int)=((p.msgs.length:Nat):Int))&&belB c.se 1048577 &&
  decide (((c.fa.length:Nat):Int)=((p.msgs.length:Nat):Int))&&belB c.fa (mfE p) && !decide (c.val<0) && !decide (max ((p.vals.length:Nat):Int) 1≤c.val)
def zz (b:Bool) (x:Int):Int:=if b=true then x else 0
def cfZ (b:Bool) (i:Int) (c:Cf):List AV :=
  [iv (zz b i),iv (zz b (c.st.getD 0 0)),iv (zz b (c.st.getD 1 0)),iv (zz b (c.st.getD 2 0)),iv (zz b (c.st.getD 3 0)),iv (zz b (c.st.getD 4 0)),iv (zz b (c.st.getD 5 0)),iv (zz b (c.st.getD 6 0)),iv (zz b (c.st.getD 7 0)),
   iv (zz b (c.se.getD 0 0)),iv (zz b (c.se.getD 1 0)),iv (zz b (c.se.getD 2 0)),iv (zz b (c.fa.getD 0 0)),iv (zz b (c.fa.getD 1 0)),iv (zz b (c.fa.getD 2 0)),iv (zz b c.val)]
def rdX (p:Fm) (n f:Int) (c:Cf):Bool:=rdB p (Ns.cntE p n f) (n-f) c (shB p.top (Ns.shT p.top (Ns.cntE p n f)) c.sh)
def rdY (p:Fm) (n f:Int) (c:Cf):Bool:=rdX p n f c
def vcE (p:Fm) (n t f:Int) (c:Cf):Int:=if Ns.sysE p n t f=0 then (if rdX p n f c=true then 0 else 1) else Ns.sysE p n t f
end Rd
namespace Rd
def looseB (p:Fm):Bool:=decide (p.fault=1)||decide (p.fault=2)
theorem any_none {α:Type} {xs:List α} {q:α→Bool} {k:Nat} (hk:¬ k<xs.length) (h:noP xs q k):xs.any q=false :=
  List.any_eq_false.2 fun x hx=>by
    obtain ⟨i,hi,rfl⟩:=List.mem_iff_getElem.1 hx
    simp [h i hi (by omega)]
theorem any_one {α:Type} {xs:List α} {q:α→Bool} {k:Nat} (hk:k<xs.length) (h:q xs[k]=true):xs.any q=true:=List.any_eq_true.2 ⟨_,List.getElem_mem hk,h⟩
end Rd
namespace Ct
def bump (L:List Int) (x:Int):List Int:=L.set x.toNat (L.getD x.toNat 0+1)
def cnt (S:Nat) (xs:List Int):List Int:=xs.foldl bump (List.replicate S 0)
def two (sh A B se fa:List Int) (val:Int):Cf:=⟨sh,A++B,((A.length:Nat):Int),se,fa,val⟩
theorem row_at {L:List Int} {i:Nat} (h:i<L.length):(L.map iv)[i*1]? = some (iv (L.getD i 0)):=by
  rw [Nat.mul_one,List.getElem?_map,List.getD_eq_getElem?_getD,List.getElem?_eq_getElem h]
  rfl
theorem getD_at {L:List Int} {i:Nat} (h:i<L.length):L.getD i 0=L[i]:=by
  rw [List.getD_eq_getElem?_getD,List.getElem?_eq_getElem h];rfl
def srt (xs:List Int):List Int:=xs.mergeSort fun x y=>decide (x≤y)
theorem srt_perm (xs:List Int):(srt xs).Perm xs:=List.mergeSort_perm _ _
theorem srt_pw (xs:List Int):List.Pairwise (fun a b=>a≤b) (srt xs):=by
  have:=List.pairwise_mergeSort (le:=fun x y:Int=>decide (x≤y)) (fun a b c h1 h2=>by simp at *;omega) (fun a b=>by simp;omega) xs
  exact this.imp fun h=>by simpa using h
theorem srt_eq {xs L:List Int} (hp:L.Perm xs) (hs:∀ a b,(h:a<b)→(hb:b<L.length)→L[a]≤L[b]):L=srt xs :=
  List.Perm.eq_of_pairwise (le:=fun a b:Int=>a≤b) (fun a b _ _ h1 h2=>by omega) (List.pairwise_iff_getElem.2 fun i j _ hj hij=>hs i j hij hj) (srt_pw xs) (hp.trans (srt_perm xs).symm)
structure Ins (xs L:List Int) (i k:Nat):Prop where
  perm:L.Perm xs
  le:k≤i
  ord:∀ a b,(h1:a<b)→b≤i→(hb:b<L.length)→a≠k→b≠k→L[a]'(by omega)≤L[b]
  low:∀ b,(h1:k<b)→b≤i→(hb:b<L.length)→L[k]'(by omega)<L[b]
structure Srd (xs L:List Int) (i:Nat):Prop where
  perm:L.Perm xs
  ord:∀ a b,(h1:a<b)→b<i→(hb:b<L.length)→L[a]'(by omega)≤L[b]
theorem Srd.one (xs:List Int):Srd xs xs 1:=⟨List.Perm.refl _,fun a b h1 h2 _=>by omega⟩
theorem Ins.out {xs L:List Int} {i k:Nat} (h:Ins xs L i k) (hi:i<L.length) (hk:0<k→L[k-1]'(by have:=h.le;omega)≤L[k]'(by have:=h.le;omega)):Srd xs L (i+1):=by
  have hle:=h.le
  refine ⟨h.perm,fun a b h1 h2 hb => ?_⟩
  by_cases ea:a=k
  · subst ea;exact Int.le_of_lt (h.low b h1 (by omega) hb)
  by_cases eb:b=k
  · subst eb
    have h3:=hk (by omega)
    by_cases e:a=b-1
    · subst e;exact h3
    exact Int.le_trans (h.ord a (b-1) (by omega) (by omega) (by omega) ea (by omega)) h3
  exact h.ord a b h1 (by omega) hb ea eb
def swp (L:List Int) (k:Nat):List Int:=(L.set (k-1) (L.getD k 0)).set k (L.getD (k-1) 0)
theorem swp_at {L:List Int} {k j:Nat} (hk:0<k) (hj:j<(swp L k).length) (hkl:k<L.length):(swp L k)[j]=if j=k then L[k-1] else if j=k-1 then L[k] else L[j]'(by simpa [swp] using hj):=by
  show ((L.set (k-1) (L.getD k 0)).set k (L.getD (k-1) 0))[j]'(by simpa [swp] using hj)=_
  rw [List.getElem_set,List.getElem_set]
  by_cases e:k=j
  · subst e;simp [List.getD_eq_getElem?_getD,List.getElem?_eq_getElem (show k-1<L.length by omega)]
  rw [if_neg e,if_neg (Ne.symm e)]
  by_cases e2:k-1=j
  · rw [if_pos e2,if_pos e2.symm];simp [List.getD_eq_getElem?_getD,List.getElem?_eq_getElem hkl]
  rw [if_neg e2,if_neg (Ne.symm e2)]
theorem swp_perm {L:List Int} {k:Nat} (hkl:k<L.length):(swp L k).Perm L:=by
  have h1:k-1<L.length:=by omega
  have:=List.set_set_perm h1 hkl
  unfold swp
  rw [List.getD_eq_getElem?_getD,List.getD_eq_getElem?_getD,List.getElem?_eq_getElem hkl,List.getElem?_eq_getElem h1]
  exact this
theorem Ins.step {xs L:List Int} {i k:Nat} (h:Ins xs L i k) (hi:i<L.length) (hk:0<k) (hgt:L[k]'(by have:=h.le;omega)<L[k-1]'(by have:=h.le;omega)):Ins xs (swp L k) i (k-1):=by
  have hle:=h.le
  have hkl:k<L.length:=by omega
  refine ⟨(swp_perm hkl).trans h.perm,by omega,fun a b h1 h2 hb ha hb' => ?_,fun b h1 h2 hb => ?_⟩
  · have hb2:b<L.length:=by simpa [swp] using hb
    rw [swp_at hk _ hkl,swp_at hk _ hkl]
    by_cases eb:b=k
    · rw [if_neg (by omega),if_neg ha,if_pos eb]
      exact h.ord a (k-1) (by omega) (by omega) (by omega) (by omega) (by omega)
    rw [if_neg eb,if_neg hb']
    by_cases ea:a=k
    · rw [if_pos ea]
      exact h.ord (k-1) b (by omega) h2 hb2 (by omega) eb
    rw [if_neg ea,if_neg ha]
    exact h.ord a b h1 h2 hb2 ea eb
  have hb2:b<L.length:=by simpa [swp] using hb
  rw [swp_at hk _ hkl,swp_at hk _ hkl]
  rw [if_neg (by omega),if_pos rfl]
  by_cases eb:b=k
  · rw [if_pos eb];exact hgt
  rw [if_neg eb,if_neg (by omega)]
  exact h.low b (by omega) h2 hb2
theorem Srd.eq {xs L:List Int} {i:Nat} (h:Srd xs L i) (hi:L.length≤i):L=srt xs:=srt_eq h.perm fun a b h1 hb=>h.ord a b h1 (by omega) hb
end Ct
abbrev Rw:=List Int × Int
def IsRows (lo:Nat) (w:World) (v:Value) (rs:List Rw):Prop :=
  ∃ (a:Option Addr) (cap:Nat),v = .slice a rs.length cap∧rs.length≤cap∧cap≤maxLen ∧
    (rs=[]∨∃ b off,a=some ⟨b,off,none⟩∧lo≤b∧b<w.heap.size ∧
      ∀ i (hi:i<rs.length),∃ sv,w.cell? ⟨b,off+i*2,none⟩=some sv∧w.cell? ⟨b,off+i*2+1,none⟩=some (.int .i64 rs[i].2)∧IsInts lo w sv rs[i].1∧I64 rs[i].2)
theorem IsRows.below {lo:Nat} {w w':World} {v:Value} {rs:List Rw} (h:IsRows lo w v rs) (hb:Below w.heap.size w w'):IsRows lo w' v rs:=by
  obtain ⟨a,cap,hv,hl,hm,hc⟩:=h
  refine ⟨a,cap,hv,hl,hm,?_⟩
  rcases hc with hc | ⟨b,off,ha,hlo,hbk,hcell⟩
  · exact .inl hc
  refine .inr ⟨b,off,ha,hlo,Nat.lt_of_lt_of_le hbk hb.size,fun i hi => ?_⟩
  obtain ⟨sv,h1,h2,h3,h4⟩:=hcell i hi
  exact ⟨sv,(hb.cell (p:=⟨b,off+i*2,none⟩) hbk).trans h1,(hb.cell (p:=⟨b,off+i*2+1,none⟩) hbk).trans h2,h3.below hb,h4⟩
theorem IsRows.mono {lo lo':Nat} {w:World} {v:Value} {rs:List Rw} (h:IsRows lo w v rs) (hl:lo'≤lo):IsRows lo' w v rs:=by
  obtain ⟨a,cap,hv,h1,hm,hc⟩:=h
  refine ⟨a,cap,hv,h1,hm,?_⟩
  rcases hc with hc | ⟨b,off,ha,hlo,hbk,r⟩
  · exact .inl hc
  exact .inr ⟨b,off,ha,Nat.le_trans hl hlo,hbk,fun i hi=>by obtain ⟨sv,h1,h2,h3,h4⟩:=r i hi;exact ⟨sv,h1,h2,h3.mono hl,h4⟩⟩
theorem IsRows.shape {lo:Nat} {w:World} {v:Value} {rs:List Rw} (h:IsRows lo w v rs):∃ a cap,v = .slice a rs.length cap:=by
  obtain ⟨a,cap,hv,_⟩:=h
  exact ⟨a,cap,hv⟩
theorem IsRows.bound {lo:Nat} {w:World} {v:Value} {rs:List Rw} (h:IsRows lo w v rs):rs.length≤9223372036854775807:=by
  obtain ⟨a,cap,_,h1,hm,_⟩:=h
  unfold maxLen at hm;omega
theorem IsRows.at {lo:Nat} {w:World} {a:Option Addr} {n cap:Nat} {rs:List Rw} (h:IsRows lo w (.slice a n cap) rs) (k:Nat) (hk:k<rs.length) :
    ∃ b off sv,a=some ⟨b,off,none⟩∧b<w.heap.size∧w.cell? ⟨b,off+k*2,none⟩=some sv∧w.cell? ⟨b,off+k*2+1,none⟩=some (.int .i64 rs[k].2)∧IsInts lo w sv rs[k].1∧I64 rs[k].2:=by
  obtain ⟨a',cap',hv,_,_,hc⟩:=h
  simp only [Value.slice.injEq] at hv
  rcases hc with rfl | ⟨b,off,ha,_,hb,hc⟩
  · simp at hk
  obtain ⟨sv,h1,h2,h3,h4⟩:=hc k hk
  exact ⟨b,off,sv,hv.1.trans ha,hb,h1,h2,h3,h4⟩
structure Pq where
  nm:ByteArray
  kind:Int
  start:List Int
  bad:List Rw
  adj:List Int
  goal:List Int
def IsProp (lo:Nat) (w:World) (v:Value) (q:Pq):Prop :=
  ∃ v2 v3 v4 v5,v = .agg #[.string q.nm,.int .i64 q.kind,v2,v3,v4,v5]∧IsInts lo w v2 q.start∧IsRows lo w v3 q.bad∧IsInts lo w v4 q.adj∧IsInts lo w v5 q.goal∧q.nm.size≤maxLen∧I64 q.kind
theorem IsProp.below {lo:Nat} {w w':World} {v:Value} {q:Pq} (h:IsProp lo w v q) (hb:Below w.heap.size w w'):IsProp lo w' v q:=by
  obtain ⟨v2,v3,v4,v5,e,h2,h3,h4,h5,h6⟩:=h
  exact ⟨v2,v3,v4,v5,e,h2.below hb,h3.below hb,h4.below hb,h5.below hb,h6⟩
theorem IsProp.mono {lo lo':Nat} {w:World} {v:Value} {q:Pq} (h:IsProp lo w v q) (hl:lo'≤lo):IsProp lo' w v q:=by
  obtain ⟨v2,v3,v4,v5,e,h2,h3,h4,h5,h6⟩:=h
  exact ⟨v2,v3,v4,v5,e,h2.mono hl,h3.mono hl,h4.mono hl,h5.mono hl,h6⟩
end Go.Proofs.Ytengacodacejiaa
namespace Go.Proofs.Ytengacodacejiaa
open Go.RowKit Go.Deep Go.ChangeShapes Go.WideShapes Go.ChangeAt Go.Joins
section
variable {H:Type} {enc:TypeId × Value→H} {w:World} {base:Nat} {sp:Nat→Bool} {held:Bool}
end
end Go.Proofs.Ytengacodacejiaa
namespace Go.Proofs.Ytengacodacejiaa
open Go.RowKit Go.Deep
end Go.Proofs.Ytengacodacejiaa
namespace Go.Proofs.Ytengacodacejiaa
open Go.RowKit Go.Deep Go.ChangeShapes Go.WideShapes Go.ChangeAt Go.Joins
def RwEl (lo:Nat) (w:World) (cs:List Value) (r:Rw):Prop:=∃ v,cs=[v,.int .i64 r.2]∧IsInts lo w v r.1∧I64 r.2
def IsPropX (lo:Nat) (w:World) (v:Value) (q:Pq):Prop :=
  ∃ v2 v3 v4 v5,v = .agg #[.string q.nm,.int .i64 q.kind,v2,v3,v4,v5]∧IsInts lo w v2 q.start∧IsSl 2 RwEl lo w v3 q.bad∧IsInts lo w v4 q.adj∧IsInts lo w v5 q.goal∧q.nm.size≤maxLen∧I64 q.kind
section
variable {H:Type} {enc:TypeId × Value→H} {w:World} {base:Nat} {sp:Nat→Bool} {held:Bool}
end
structure PqOk (q:Pq):Prop where
  nm:q.nm.size≤maxLen
  kind:I64 q.kind
  start:InOk q.start
  bad:∀ r∈q.bad,InOk r.1∧I64 r.2∧r.1.length≤9223372036854775807
  adj:InOk q.adj
  goal:InOk q.goal
  lstart:q.start.length≤9223372036854775807
  lbad:q.bad.length≤9223372036854775807
  ladj:q.adj.length≤9223372036854775807
  lgoal:q.goal.length≤9223372036854775807
theorem IsPropX.ok {lo:Nat} {w:World} {v:Value} {q:Pq} (h:IsPropX lo w v q):PqOk q:=by
  obtain ⟨v2,v3,v4,v5,_,h2,h3,h4,h5,h6,h7⟩:=h
  exact ⟨h6,h7,h2.ok,h3.all fun cs r hr=>by obtain ⟨v,_,a,b⟩:=hr;exact ⟨a.ok,b,a.len⟩,h4.ok,h5.ok,h2.len,h3.bound,h4.len,h5.len⟩
section
variable {F ok:Nat→Prop} {lo:Nat} {w:World}
end
section
variable {J:World→Prop}
end
end Go.Proofs.Ytengacodacejiaa
namespace Go.Proofs.Ytengacodacejiaa
open Go.RowKit Go.Deep
def noI (xs:List Int) (x:Int) (k:Nat):Prop:=∀ j (h:j<xs.length),j<k→xs[j]≠x
theorem noI_zero (xs:List Int) (x:Int):noI xs x 0:=fun _ _ h=>absurd h (by omega)
theorem noI_succ {xs:List Int} {x:Int} {k:Nat} (hk:k<xs.length) (h:noI xs x k) (e:¬ x=xs[k]):noI xs x (k+1):=fun j hj h'=>by
  by_cases c:j=k
  · subst c;exact fun h=>e h.symm
  exact h j hj (by omega)
def idxI (xs:List Int) (x:Int):Int:=if x∈xs then ((xs.findIdx (· == x):Nat):Int) else -1
theorem idx_yes {xs:List Int} {x:Int} {k:Nat} (hk:k<xs.length) (h:noI xs x k) (e:x=xs[k]):((k:Nat):Int)=idxI xs x:=by
  have hm:x∈xs:=by rw [e];exact List.getElem_mem hk
  have:xs.findIdx (· == x)=k:=(List.findIdx_eq hk).2 ⟨by simp [← e],fun j hj=>by simpa using h j (by omega) hj⟩
  unfold idxI;rw [if_pos hm,this]
theorem has_no {xs:List Int} {x:Int} {k:Nat} (hk:¬ k<xs.length) (h:noI xs x k):decide (x∈xs)=false:=by
  rw [decide_eq_false_iff_not];intro hm
  obtain ⟨j,hj,e⟩:=List.getElem_of_mem hm
  exact h j hj (by omega) e
theorem idx_no {xs:List Int} {x:Int} {k:Nat} (hk:¬ k<xs.length) (h:noI xs x k):(-1:Int)=idxI xs x:=by
  have:=has_no hk h
  unfold idxI;rw [if_neg (by simpa using this)]
theorem idx_has (xs:List Int) (x:Int):decide (0≤idxI xs x)=decide (x∈xs):=by
  unfold idxI
  by_cases h:x∈xs
  · rw [if_pos h];simp [h]
  rw [if_neg h];simp [h]
def cntE (n:Nat) (c:Rw):Int:=if setE n c.1=0 then (if ((c.1.length:Nat):Int)=0 then 1 else if inB 1 3 c.2=true then 0 else 1) else setE n c.1
namespace Jd
def lkF (top:Int) (sh:List Int) (n i:Nat):Int:=if top=4 then (trun sh sh.length).fi i else (rowL top n i).1
def lkS (top:Int) (sh:List Int) (n i:Nat):Int:=if top=4 then (trun sh sh.length).se i else (rowL top n i).2.1
section
variable {top x y:Int} {xs:List Int} {F S:Nat→Int} {k:Nat}
end
def cP (xs l:List Int):Nat:=xs.countP fun x=>decide (x∈l)
def upB (xs:List Int) (bad:List Rw) (k:Nat):Prop:=∀ i (h:i<bad.length),i<k→bad[i].2≤((cP xs bad[i].1:Nat):Int)
theorem upB_zero (xs:List Int) (bad:List Rw):upB xs bad 0:=fun _ _ h=>absurd h (by omega)
theorem upB_succ {xs:List Int} {bad:List Rw} {k:Nat} (hk:k<bad.length) (h:upB xs bad k) (e:¬ ((cP xs bad[k].1:Nat):Int)<bad[k].2):upB xs bad (k+1):=fun i hi h'=>by
  by_cases c:i=k
  · subst c;omega
  exact h i hi (by omega)
def lkC (top:Int) (sh:List Int) (n:Nat) (j:Nat):Int:=if j % 3=0 then lkF top sh n (j / 3) else if j % 3=1 then lkS top sh n (j / 3) else if top=4 then (trun sh sh.length).pa (j / 3) else (rowL top n (j / 3)).2.2
def lkA (top:Int) (sh:List Int) (n:Nat):AV := .sl 3 n ((List.range (n*3)).map fun j=>iv (lkC top sh n j))
theorem lkC_F {top:Int} {sh:List Int} {n i:Nat}:lkC top sh n (i*3)=lkF top sh n i:=by unfold lkC;rw [if_pos (by omega)];congr 1;omega
theorem lkC_S {top:Int} {sh:List Int} {n i:Nat}:lkC top sh n (i*3+1)=lkS top sh n i:=by unfold lkC;rw [if_neg (by omega),if_pos (by omega)];congr 1;omega
theorem lkA_tree {sh:List Int}:Ns.lkT sh=lkA 4 sh sh.length:=by
  unfold Ns.lkT lkA
  congr 1
theorem lkZ_row {top:Int} {sh:List Int} {n:Nat} (ht:¬ top=4):Ns.lkZ top n n=(List.range (n*3)).map fun j=>iv (lkC top sh n j):=by
  unfold Ns.lkZ
  rw [Nat.sub_self,List.replicate_zero,List.flatten_nil,List.append_nil]
  have key:∀ k,(List.range k).flatMap (fun i:Nat=>Ns.lk3 top n i)=(List.range (k*3)).map fun j=>iv (lkC top sh n j):=by
    intro k
    induction k with
    | zero=>rfl
    | succ k ih =>
      rw [List.range_succ,List.flatMap_append,ih,show (k+1)*3=k*3+1+1+1 by omega,List.range_succ,List.range_succ,List.range_succ,List.map_append,List.map_append,List.map_append]
      have e1:lkC top sh n (k*3)=(rowL top n k).1:=by rw [lkC_F];exact if_neg ht
      have e2:lkC top sh n (k*3+1)=(rowL top n k).2.1:=by rw [lkC_S];exact if_neg ht
      have e3:lkC top sh n (k*3+1+1)=(rowL top n k).2.2:=by
        unfold lkC
        rw [if_neg (by omega),if_neg (by omega),if_neg ht]
        congr 3;omega
      simp only [List.map_cons,List.map_nil,e1,e2,e3,List.flatMap_cons,List.flatMap_nil,List.append_nil,Ns.lk3,List.append_assoc,List.cons_append,List.nil_append]
  exact key n
def LkOk (top:Int) (sh:List Int) (n:Nat):Prop:=∀ i,i<n→lkF top sh n i<n∧lkS top sh n i<n
theorem lk_tree {sh:List Int} (h:shp sh=true):LkOk 4 sh sh.length:=fun i hi=>by
  have T:=(tree_ok sh h).1
  unfold lkF lkS
  rw [if_pos rfl,if_pos rfl]
  have h1:=T.fst i hi
  have h2:=T.snd i hi
  constructor
  · rcases h1 with e | ⟨j,hj,e,_⟩<;>omega
  rcases h2 with e | ⟨j,hj,e,_⟩<;>omega
theorem lk_row {top:Int} {sh:List Int} {n:Nat} (h:top=2∨top=3):LkOk top sh n:=fun i hi=>by
  unfold lkF lkS
  rw [if_neg (by omega),if_neg (by omega)]
  unfold rowL
  dsimp only
  constructor<;>(repeat' split)<;>omega
theorem top_in {p:Fm} (h:valE p=0):1≤p.top∧p.top≤4:=by
  unfold valE at h
  split at h
  · cases h
  split at h
  · cases h
  rename_i _ h2
  have:inB 1 4 p.top=true:=by
    cases e:inB 1 4 p.top with
    | true=>rfl
    | false=>exact absurd (.inl e) h2
  unfold inB at this
  simp at this
  omega
end Jd
end Go.Proofs.Ytengacodacejiaa
namespace Go.Proofs.Ytengacodacejiaa
namespace Tr
theorem lack_pos (f:Nat→Int) (p:Nat):1≤lack f p:=by unfold lack;split<;>omega
end Tr
end Go.Proofs.Ytengacodacejiaa
namespace Go.Proofs.Ytengacodacejiaa
open Go.RowKit Go.Deep
variable {J:World→Prop}
namespace En
def gbV (r:Ru) (n t f:Int) (k:Nat):Int:=evN (r.guards.getD k default).bd.c (r.guards.getD k default).bd.n (r.guards.getD k default).bd.t (r.guards.getD k default).bd.f n t f
def bdAt (p:Fm) (n t f:Int) (i k:Nat):Int:=if i<p.rules.length∧k<(p.rules.getD i default).guards.length then gbV (p.rules.getD i default) n t f k else 0
def bdP (p:Fm) (n t f:Int) (R K q:Nat):Int:=if q / 2<R∨(q / 2=R∧q % 2<K) then bdAt p n t f (q / 2) (q % 2) else 0
def shS (top:Int) (c:Nat):List (List Int):=if top=4 then Sh.shX ((c:Nat):Int) else if top=2∨top=3 then [[]] else []
def cLkS (top:Int) (c:Nat) (sh:List Int):List AV:=[Jd.lkA top sh c]
def lkS (top:Int) (c:Nat):AV:=slA 1 (cLkS top c) (shS top c)
def sysB (p:Fm) (n t f:Int) (R K:Nat) (sh li:AV):List AV:=midF (cFm p++[iv n,iv t,iv f,iv (Ns.cntE p n f),iv (n-f)]) 16 (fun q=>iv (bdP p n t f R K q)) [sh,li]
def sysP (p:Fm) (n t f:Int):List AV:=sysB p n t f p.rules.length 0 (slA 1 cLi (Ns.shT p.top (Ns.cntE p n f))) (lkS p.top (Ns.cntE p n f).toNat)
theorem sysB_len {p:Fm} {n t f:Int} {R K:Nat} {sh li:AV}:(sysB p n t f R K sh li).length=33:=by
  unfold sysB
  rw [midF_len];rfl
theorem sysB_step {p:Fm} {n t f:Int} {R K:Nat} {sh li:AV} {x:Int} (hR:R<p.rules.length) (h8:p.rules.length≤8) (hK:K<p.rules[R].guards.length) (h2:p.rules[R].guards.length≤2)
    (hx:x=evN p.rules[R].guards[K].bd.c p.rules[R].guards[K].bd.n p.rules[R].guards[K].bd.t p.rules[R].guards[K].bd.f n t f):setAll (sysB p n t f R K sh li) (15+R*2+K*1) [iv x]=sysB p n t f R (K+1) sh li:=by
  have d1:(2*R+K) / 2=R:=by omega
  have d2:(2*R+K) % 2=K:=by omega
  have e1:p.rules.getD R default=p.rules[R]:=by rw [List.getD_eq_getElem?_getD,List.getElem?_eq_getElem hR];rfl
  have e2:p.rules[R].guards.getD K default=p.rules[R].guards[K]:=by rw [List.getD_eq_getElem?_getD,List.getElem?_eq_getElem hK];rfl
  refine midF_set (i:=2*R+K) (by omega) (by show 15+(2*R+K)=_;omega) ?_ fun j hj hne => ?_
  · congr 2
    unfold bdP
    rw [d1,d2,if_pos (.inr ⟨rfl,by omega⟩)]
    unfold bdAt
    rw [e1,if_pos ⟨hR,hK⟩,hx]
    unfold gbV
    rw [e2]
  refine congrArg iv ?_
  unfold bdP
  by_cases c:j / 2<R∨(j / 2=R∧j % 2<K)
  · rw [if_pos c,if_pos (by omega)]
  rw [if_neg c,if_neg (by omega)]
theorem sysB_row {p:Fm} {n t f:Int} {R K:Nat} {sh li:AV} (hR:R<p.rules.length) (hK:¬ K<p.rules[R].guards.length):sysB p n t f (R+1) 0 sh li=sysB p n t f R K sh li:=by
  have e1:p.rules.getD R default=p.rules[R]:=by rw [List.getD_eq_getElem?_getD,List.getElem?_eq_getElem hR];rfl
  refine midF_congr fun j hj=>congrArg iv ?_
  unfold bdP
  by_cases c:j / 2<R∨(j / 2=R∧j % 2<K)
  · rw [if_pos c,if_pos (by omega)]
  rw [if_neg c]
  by_cases d:j / 2=R
  · rw [if_pos (by omega),d]
    unfold bdAt
    rw [e1,if_neg (by omega)]
  rw [if_neg (by omega)]
theorem sysP_bd {p:Fm} {n t f:Int} {R K:Nat} {sh li:AV} (hR:R<p.rules.length) (h8:p.rules.length≤8) (hK:K<p.rules[R].guards.length) (h2:p.rules[R].guards.length≤2) :
    (sysB p n t f p.rules.length 0 sh li)[15+R*2+K*1]? = some (iv (gbV p.rules[R] n t f K)):=by
  have e1:p.rules.getD R default=p.rules[R]:=by rw [List.getD_eq_getElem?_getD,List.getElem?_eq_getElem hR];rfl
  have d1:(2*R+K) / 2=R:=by omega
  have d2:(2*R+K) % 2=K:=by omega
  refine (midF_get (i:=2*R+K) (by omega) (by show 15+(2*R+K)=_;omega)).trans ?_
  congr 2
  unfold bdP
  rw [d1,d2,if_pos (.inl hR)]
  unfold bdAt
  rw [e1,if_pos ⟨hR,hK⟩]
theorem plain_lkA (top:Int) (sh:List Int) (c:Nat):Plain (Jd.lkA top sh c) := .sl (ZQ fun X hX=>by obtain ⟨j,_,rfl⟩:=List.mem_map.1 hX;exact .v _)
theorem plain_lkS (top:Int) (c:Nat):Plain (lkS top c):=plain_sl (fun sh X hX=>by
  unfold cLkS at hX
  rw [List.mem_singleton.1 hX];exact plain_lkA _ _ _) _
theorem plain_sysB (p:Fm) (n t f:Int) (R K:Nat) {sh li:AV} (h1:Plain sh) (h2:Plain li):∀ X∈sysB p n t f R K sh li,Plain X:=by
  intro X hX
  unfold sysB midF at hX
  rcases List.mem_append.1 hX with h | h
  · rcases List.mem_append.1 h with h | h
    · exact YC p X h
    simp only [List.mem_cons,List.not_mem_nil,or_false] at h
    rcases h with rfl | rfl | rfl | rfl | rfl<;>exact .v _
  rcases List.mem_append.1 h with h | h
  · obtain ⟨j,_,rfl⟩:=List.mem_map.1 h;exact .v _
  simp only [List.mem_cons,List.not_mem_nil,or_false] at h
  rcases h with rfl | rfl
  · exact h1
  exact h2
theorem plain_sysP (p:Fm) (n t f:Int):∀ X∈sysP p n t f,Plain X:=plain_sysB p n t f _ _ (plain_sl plain_li _) (plain_lkS _ _)
theorem shX_is {c:Nat}:∀ xs∈Sh.shX ((c:Nat):Int),xs.length=c∧shp xs=true:=by
  unfold Sh.shX
  split
  · intro xs h;cases h
  split
  · intro xs h;cases h
  rename_i h1 h2
  rw [Int.toNat_natCast]
  obtain rfl | rfl | rfl | rfl:c=1∨c=3∨c=5∨c=7:=by omega
  all_goals decide +kernel
theorem lkS_tree {c:Nat}:slA 1 Ns.cLk (Sh.shX ((c:Nat):Int))=lkS 4 c:=by
  unfold lkS shS
  rw [if_pos rfl]
  unfold slA
  congr 1
  rw [List.flatMap_def,List.flatMap_def]
  refine congrArg List.flatten (List.map_congr_left fun sh hsh => ?_)
  unfold Ns.cLk cLkS
  rw [Jd.lkA_tree,(shX_is sh hsh).1]
theorem lkS_row {top:Int} {c:Nat} (h:top=2∨top=3):AV.sl 1 1 [.sl 3 c (Ns.lkZ top c c)]=lkS top c:=by
  unfold lkS shS
  rw [if_neg (by omega),if_pos h,Jd.lkZ_row (sh:=[]) (by omega)]
  rfl
theorem lkS_no {top:Int} {c:Nat} (h:¬ top=2) (h':¬ top=3) (h4:¬ top=4):AV.sl 1 0 []=lkS top c:=by
  unfold lkS shS
  rw [if_neg h4,if_neg (by omega)]
  rfl
end En
set_option maxHeartbeats 12800000
namespace Ns
theorem cnt_lo {p:Fm} {n f:Int} (h:1≤n∧n≤1048576∧0≤f∧f≤n):0≤cntE p n f:=by unfold cntE;split<;>omega
theorem cnt_hi {p:Fm} {n f:Int} (h:1≤n∧n≤1048576∧0≤f∧f≤n) (h8:¬ 8<n):cntE p n f≤8:=by unfold cntE;split<;>omega
theorem place_c {top c:Int} (h0:0≤c) (h8:c≤8) (xs:Nat→Value):CtrW Try.prog J 62 [.box 1000000 0] 1000000 (.box 111 [.v (xs 0),iv top,.v (xs 2),.v (xs 3),.v (xs 4),.v (xs 5),.v (xs 6),.v (xs 7),.v (xs 8),.v (xs 9),.v (xs 10),.v (xs 11),.v (xs 12),iv c,.v (xs 14),.v (xs 15),.v (xs 16),.v (xs 17),.v (xs 18),.v (xs 19),.v (xs 20),.v (xs 21),.v (xs 22),.v (xs 23),.v (xs 24),.v (xs 25),.v (xs 26),.v (xs 27),.v (xs 28),.v (xs 29),.v (xs 30),.v (.slice none 0 0),.v (.slice none 0 0)]) (.box 111 [.v (xs 0),iv top,.v (xs 2),.v (xs 3),.v (xs 4),.v (xs 5),.v (xs 6),.v (xs 7),.v (xs 8),.v (xs 9),.v (xs 10),.v (xs 11),.v (xs 12),iv c,.v (xs 14),.v (xs 15),.v (xs 16),.v (xs 17),.v (xs 18),.v (xs 19),.v (xs 20),.v (xs 21),.v (xs 22),.v (xs 23),.v (xs 24),.v (xs 25),.v (xs 26),.v (xs 27),.v (xs 28),.v (xs 29),.v (xs 30),.fr (slA 1 cLi (Ns.shT top c)),.any]) (.v (.tuple #[])):=by
  obtain ⟨m,rfl⟩:=Int.eq_ofNat_of_zero_le h0
  exact place_w (by omega) xs
theorem plain_sys (p:Fm) (n t f:Int):∀ X∈sysC p n t f,Plain X:=by
  intro X hX
  unfold sysC at hX
  rcases List.mem_append.1 hX with h | h
  · exact YC p X h
  simp only [List.mem_cons,List.not_mem_nil,or_false] at h
  rcases h with rfl | rfl | rfl | rfl | rfl | rfl | rfl | rfl | rfl | rfl | rfl | rfl | rfl | rfl | rfl | rfl | rfl | rfl | rfl | rfl | rfl | rfl | rfl<;>first | exact .v _ | exact .any | exact .any _ | exact plain_sl plain_li _
theorem plain_mask {m:List Bool} {c0:List AV} (h:∀ xs,(maskC m xs c0).all AV.isV=true):∀ xs,∀ X∈maskC m xs c0,Plain X:=fun xs X hX=>by
  have:=List.all_eq_true.1 (h xs) X hX
  cases X<;>first | exact .v _ | cases this
theorem pw1 {k o:Nat}:∀ X∈[AV.box k o],PlainW X:=fun X hX=>by
  rw [List.mem_singleton] at hX;rw [hX];exact .box _ _
theorem place_m {p:Fm} {n t f:Int} (h0:0≤cntE p n f) (h8:cntE p n f≤8):∀ xs':Nat→Value,CtrW Try.prog J 62 [.box 1000000 0] 1000000 (.box 111 (maskC [true,false,true,true,true,true,true,true,true,true,true,true,true,false,true,true,true,true,true,true,true,true,true,true,true,true,true,true,true,true,true,false,false] xs' [sv p.nm,iv p.top,Zr p.states,Zr p.msgs,Zr p.vals,iv p.fault,slA 4 cLn p.res,Zc p.init,Zc p.leader,slA 18 cRu p.rules,iv n,iv t,iv f,iv (cntE p n f),iv (n-f),.any,.any,.any,.any,.any,.any,.any,.any,.any,.any,.any,.any,.any,.any,.any,.any,.v (.slice none 0 0),.v (.slice none 0 0)])) (.box 111 (maskC [true,false,true,true,true,true,true,true,true,true,true,true,true,false,true,true,true,true,true,true,true,true,true,true,true,true,true,true,true,true,true,false,false] xs' [sv p.nm,iv p.top,Zr p.states,Zr p.msgs,Zr p.vals,iv p.fault,slA 4 cLn p.res,Zc p.init,Zc p.leader,slA 18 cRu p.rules,iv n,iv t,iv f,iv (cntE p n f),iv (n-f),.any,.any,.any,.any,.any,.any,.any,.any,.any,.any,.any,.any,.any,.any,.any,.any,.fr (slA 1 cLi (Ns.shT p.top (Ns.cntE p n f))),.any])) (.v (.tuple #[])):=fun xs=>place_c h0 h8 xs
end Ns
set_option maxRecDepth 100000 in
theorem newSystem_err {p:Fm} (HP:FmOk p) {n t f:Int} (hs:¬ Ns.sysE p n t f=0):CtrA Try.prog J 40 [.agg (cFm p),.agg (cSz n t f)] (.tup [.v (.pointer none),iv (Ns.sysE p n t f)]):=by
 refine Kt Try.func40 rfl (by intro X hX;simp only [List.mem_cons,List.not_mem_nil,or_false] at hX;rcases hX with rfl | rfl;exact Zi (YC p);exact Zi (YT n t f)) (n:=80) rfl (by simp) (fun w0 => ?_)
 refine kW 80 [] [(0,.agg (cFm p)),(1,.agg (cSz n t f))] (Zb (Za (ZF rfl (Yi (X := .agg (cFm p)) (k:=1) (.tmp 0) rfl rfl) ⟨I0,T0⟩ T0 rfl (ZF rfl (Yi (X := .agg (cSz n t f)) (k:=2) (.tmp 1) rfl rfl) ⟨I0,T0⟩ T0 rfl (pM (Yb (.const (.pointer none)) (.v (.pointer none)) rfl) (pM (aC (.int .i64 0)) (Ze (Zd (Zb (Zb (Za (oB (lS (cFm p) 10 2 U27) I0 rfl (oC (sc #[.tmp 12] [] (qValidate_c HP) [.agg (cFm p)] rfl rfl rfl) I0 I0 (pM (aT 13 (iv (valE p))) (Ze (Zd (Zb ?_)))))))))))))))))
 by_cases hs1:valE p=0
 obtain ⟨hr8,hg2⟩:=Ns.val_lims hs1
 refine Za (pM (mT 6 (iv (valE p))) (oC (Z0 rfl (dT' hs1)) I0 I0 (Ze (Zd (Zp rfl (Zn (Zd (Zb (Zb ?_)))))))))
 by_cases hs2:(admB p n t f)=true
 have hai:=Ns.adm_in hs2
 refine Za (oB (lS (cFm p) 10 2 U27) I0 rfl (oB (lS (cSz n t f) 3 3 U29) I0 rfl (oD (sc #[.tmp 17,.tmp 18] [] (Yd (Ns.adm_c HP hs1) hs2) [.agg (cFm p),.agg (cSz n t f)] rfl rfl rfl) I0 I0 I0 (oA (Ya rfl rfl) I0 (Ze (Zd (Zp rfl (Zn (Zd (Zb (Zb (Za (oA (fb 0 3 U29 1) I0 (oB (lb (iv n) 21 U3) I0 rfl (oC (sp_gtr rfl (dT (Ns.sys_big hs1 hs2 hs))) I0 I0 (Ze (Zd (Zm rfl (Zb (Za (pM (Yb (.const (.pointer none)) (.v (.pointer none)) rfl) (pM (aC (.int .i64 4)) (Ze ?_)))))))))))))))))))))))
 refine Zd (Zk (Zj ?_))
 refine tri_endA2 [(1,.box 27 (cFm p)),(2,.box 29 (cSz n t f))] Try.results40 (.tmp rfl) (.tmp rfl) (by kernel_rfl) rfl rfl rfl ?_ ?_ ?_
 · exact .v _
 · exact .v _
 · rw [Ns.sys_e3 hs1 hs2 (Ns.sys_big hs1 hs2 hs)];rfl
 have hs2f:(admB p n t f)=false:=by simpa using hs2
 refine Za (oB (lS (cFm p) 10 2 U27) I0 rfl (oB (lS (cSz n t f) 3 3 U29) I0 rfl (oD (sc #[.tmp 17,.tmp 18] [] (Yd (Ns.adm_c HP hs1) hs2f) [.agg (cFm p),.agg (cSz n t f)] rfl rfl rfl) I0 I0 I0 (oA (Ya rfl rfl) I0 (Ze (Zd (Zm rfl (Zb (Za (pM (Yb (.const (.pointer none)) (.v (.pointer none)) rfl) (pM (aC (.int .i64 8)) (Ze (Zd (Zk (Zj ?_)))))))))))))))
 refine tri_endA2 [(1,.box 27 (cFm p)),(2,.box 29 (cSz n t f))] Try.results40 (.tmp rfl) (.tmp rfl) (by kernel_rfl) rfl rfl rfl ?_ ?_ ?_
 · exact .v _
 · exact .v _
 · rw [Ns.sys_e2 hs1 hs2f];rfl
 refine Za (pM (mT 6 (iv (valE p))) (oC (Z0 rfl (dF' hs1)) I0 I0 (Ze (Zd (Zm rfl (Zb (Za (pM (mT 6 (iv (valE p))) (pM (Yb (.const (.pointer none)) (.v (.pointer none)) rfl) (pM (aT 16 (iv (valE p))) (Ze (Zd (Zk (Zj ?_))))))))))))))
 refine tri_endA2 [(1,.box 27 (cFm p)),(2,.box 29 (cSz n t f))] Try.results40 (.tmp rfl) (.tmp rfl) (by kernel_rfl) rfl rfl rfl ?_ ?_ ?_
 · exact .v _
 · exact .v _
 rw [Ns.sys_e1 hs1];rfl
set_option maxRecDepth 100000 in
theorem newSystem_ok {p:Fm} (HP:FmOk p) {n t f:Int} (hs:Ns.sysE p n t f=0):CtrA Try.prog J 40 [.agg (cFm p),.agg (cSz n t f)] (.tup [.el (Ns.sysC p n t f) 0,iv 0]):=by
 obtain ⟨hv,ha,h8⟩:=Ns.sys_ok hs
 obtain ⟨hr8,hg2⟩:=Ns.val_lims hv
 have hai:=Ns.adm_in ha
 have hc0:=Ns.cnt_lo (p:=p) hai
 have hc8:=Ns.cnt_hi (p:=p) hai h8
 refine Kt Try.func40 rfl (by intro X hX;simp only [List.mem_cons,List.not_mem_nil,or_false] at hX;rcases hX with rfl | rfl;exact Zi (YC p);exact Zi (YT n t f)) (n:=80) rfl (by simp) (fun w0 => ?_)
 refine kW 80 [] [(0,.agg (cFm p)),(1,.agg (cSz n t f))] (Zb (Za (ZF rfl (Yi (X := .agg (cFm p)) (k:=1) (.tmp 0) rfl rfl) ⟨I0,T0⟩ T0 rfl (ZF rfl (Yi (X := .agg (cSz n t f)) (k:=2) (.tmp 1) rfl rfl) ⟨I0,T0⟩ T0 rfl (pM (Yb (.const (.pointer none)) (.v (.pointer none)) rfl) (pM (aC (.int .i64 0)) (Ze (Zd (Zb (Zb (Za (oB (lS (cFm p) 10 2 U27) I0 rfl (oC (sc #[.tmp 12] [] (qValidate_c HP) [.agg (cFm p)] rfl rfl rfl) I0 I0 (pM (aT 13 (iv (valE p))) (Ze (Zd (Zb (Za (pM (mT 6 (iv (valE p))) (oC (Z0 rfl (dT' hv)) I0 I0 (Ze (Zd (Zp rfl ?_)))))))))))))))))))))))
 refine Zn (Zd (Zb (Zb (Za (oB (lS (cFm p) 10 2 U27) I0 rfl (oB (lS (cSz n t f) 3 3 U29) I0 rfl (oD (sc #[.tmp 17,.tmp 18] [] (Yd (Ns.adm_c HP hv) ha) [.agg (cFm p),.agg (cSz n t f)] rfl rfl rfl) I0 I0 I0 (oA (Ya rfl rfl) I0 (Ze (Zd (Zp rfl (Zn (Zd (Zb (Zb (Za (oA (fb 0 3 U29 1) I0 (oB (lb (iv n) 21 U3) I0 rfl (oC (sp_gtr rfl (dF h8)) I0 I0 (Ze (Zd (Zp rfl (Zn ?_)))))))))))))))))))))))
 refine Zd (Zb (Za (oB (lS (cFm p) 10 2 U27) I0 rfl (oB (lS (cSz n t f) 3 3 U29) I0 rfl (oA (fb 0 3 U29 1) I0 (oB (lb (iv n) 26 U3) I0 rfl (oA (fb 0 3 U29 1) I0 (oB (lb (iv n) 28 U3) I0 rfl (oA (fb 2 3 U29 1) I0 (oB (lb (iv f) 30 U3) I0 rfl (oC (sp_sub (c:=n-f) rfl (w64 (by omega) (by omega) (by omega))) I0 I0 (ZF rfl (sp_bldG [0,1,2,3] [.tmp 24,.tmp 25,.tmp 27,.tmp 32] [.agg (cFm p),.agg (cSz n t f),iv n,iv (n-f)] [.inr 0,.inr 1,.inr 2,.inr 3,.inr 4,.inr 5,.inr 6,.inr 7,.inr 8,.inr 9,.inr 10,.inr 11,.inr 12,.inr 13,.inr 14,.inl (.int .i64 0),.inl (.int .i64 0),.inl (.int .i64 0),.inl (.int .i64 0),.inl (.int .i64 0),.inl (.int .i64 0),.inl (.int .i64 0),.inl (.int .i64 0),.inl (.int .i64 0),.inl (.int .i64 0),.inl (.int .i64 0),.inl (.int .i64 0),.inl (.int .i64 0),.inl (.int .i64 0),.inl (.int .i64 0),.inl (.int .i64 0),.inl (.slice none 0 0),.inl (.slice none 0 0)] rfl rfl rfl rfl rfl (fun _=>by kernel_rfl) rfl (ds:=[sv p.nm,iv p.top,Zr p.states,Zr p.msgs,Zr p.vals,iv p.fault,slA 4 cLn p.res,Zc p.init,Zc p.leader,slA 18 cRu p.rules,iv n,iv t,iv f,iv n,iv (n-f),iv 0,iv 0,iv 0,iv 0,iv 0,iv 0,iv 0,iv 0,iv 0,iv 0,iv 0,iv 0,iv 0,iv 0,iv 0,iv 0,.v (.slice none 0 0),.v (.slice none 0 0)]) rfl) ⟨I0,I0,I0,I0,T0⟩ T0 T0 (ZF rfl (Yi (X := .agg [sv p.nm,iv p.top,Zr p.states,Zr p.msgs,Zr p.vals,iv p.fault,slA 4 cLn p.res,Zc p.init,Zc p.leader,slA 18 cRu p.rules,iv n,iv t,iv f,iv n,iv (n-f),iv 0,iv 0,iv 0,iv 0,iv 0,iv 0,iv 0,iv 0,iv 0,iv 0,iv 0,iv 0,iv 0,iv 0,iv 0,iv 0,.v (.slice none 0 0),.v (.slice none 0 0)]) (k:=3) (.tmp 33) rfl rfl) ⟨I0,T0⟩ T0 rfl (pM (aT 34 (.box 3 0)) (Ze (Zd (Zb (Zb (Za (oA (fb 5 2 U27 1) I0 (oB (lb (iv p.fault) 35 U3) I0 rfl (oC (ZA rfl rfl) I0 I0 (kN 80 [(1,.box 27 (cFm p)),(2,.box 29 (cSz n t f)),(3,.box 111 [sv p.nm,iv p.top,Zr p.states,Zr p.msgs,Zr p.vals,iv p.fault,slA 4 cLn p.res,Zc p.init,Zc p.leader,slA 18 cRu p.rules,iv n,iv t,iv f,iv n,iv (n-f),iv 0,iv 0,iv 0,iv 0,iv 0,iv 0,iv 0,iv 0,iv 0,iv 0,iv 0,iv 0,iv 0,iv 0,iv 0,iv 0,.v (.slice none 0 0),.v (.slice none 0 0)])] [(2,.box 1 0),(3,.box 2 0),(4,.v (.pointer none)),(5,iv 0),(7,.box 3 0),(37,bv (decide (p.fault=3)))] ?_)))))))))))))))))))))))
 refine Zd ?_
 refine t_cut (True) (ofL [(1,.box 27 (cFm p)),(2,.box 29 (cSz n t f)),(3,.box 111 [sv p.nm,iv p.top,Zr p.states,Zr p.msgs,Zr p.vals,iv p.fault,slA 4 cLn p.res,Zc p.init,Zc p.leader,slA 18 cRu p.rules,iv n,iv t,iv f,iv (Ns.cntE p n f),iv (n-f),iv 0,iv 0,iv 0,iv 0,iv 0,iv 0,iv 0,iv 0,iv 0,iv 0,iv 0,iv 0,iv 0,iv 0,iv 0,iv 0,.v (.slice none 0 0),.v (.slice none 0 0)])]) (ofT 80 [(2,.box 1 0),(3,.box 2 0),(4,.v (.pointer none)),(5,iv 0),(7,.box 3 0)]) ?_ (fun _ => ?_)
 by_cases hs1:p.fault=3
 rw [dT hs1]
 refine kW 80 [(1,.box 27 (cFm p)),(2,.box 29 (cSz n t f)),(3,.box 111 [sv p.nm,iv p.top,Zr p.states,Zr p.msgs,Zr p.vals,iv p.fault,slA 4 cLn p.res,Zc p.init,Zc p.leader,slA 18 cRu p.rules,iv n,iv t,iv f,iv n,iv (n-f),iv 0,iv 0,iv 0,iv 0,iv 0,iv 0,iv 0,iv 0,iv 0,iv 0,iv 0,iv 0,iv 0,iv 0,iv 0,iv 0,.v (.slice none 0 0),.v (.slice none 0 0)])] [(2,.box 1 0),(3,.box 2 0),(4,.v (.pointer none)),(5,iv 0),(7,.box 3 0),(37,bT)] (Zm rfl (Za (pM (mT 7 (.box 3 0)) (pM (mT 7 (.box 3 0)) (oA (ZL (off:=0) (.tmp 39) rfl) I0 (oA (fb 14 40 U111 1) I0 (oB (lb (iv (n-f)) 41 U3) I0 rfl (oA (ZL (off:=0) (.tmp 38) rfl) I0 (oA (fb 13 43 U111 1) I0 (ZF rfl (sB 1 44 (.tmp 42) (iv (n-f))) ⟨I0,I0,T0⟩ ⟨rfl,T0⟩ rfl (kN 80 [(1,.box 27 (cFm p)),(2,.box 29 (cSz n t f)),(3,.box 111 [sv p.nm,iv p.top,Zr p.states,Zr p.msgs,Zr p.vals,iv p.fault,slA 4 cLn p.res,Zc p.init,Zc p.leader,slA 18 cRu p.rules,iv n,iv t,iv f,iv (n-f),iv (n-f),iv 0,iv 0,iv 0,iv 0,iv 0,iv 0,iv 0,iv 0,iv 0,iv 0,iv 0,iv 0,iv 0,iv 0,iv 0,iv 0,.v (.slice none 0 0),.v (.slice none 0 0)])] [(2,.box 1 0),(3,.box 2 0),(4,.v (.pointer none)),(5,iv 0),(7,.box 3 0)] ?_)))))))))))
 rw [show Ns.cntE p n f=n-f from if_pos hs1]
 exact YV T0 (ZC _ _ rfl (by kernel_rfl) (by kernel_rfl))
 rw [dF hs1]
 refine kW 80 [(1,.box 27 (cFm p)),(2,.box 29 (cSz n t f)),(3,.box 111 [sv p.nm,iv p.top,Zr p.states,Zr p.msgs,Zr p.vals,iv p.fault,slA 4 cLn p.res,Zc p.init,Zc p.leader,slA 18 cRu p.rules,iv n,iv t,iv f,iv n,iv (n-f),iv 0,iv 0,iv 0,iv 0,iv 0,iv 0,iv 0,iv 0,iv 0,iv 0,iv 0,iv 0,iv 0,iv 0,iv 0,iv 0,.v (.slice none 0 0),.v (.slice none 0 0)])] [(2,.box 1 0),(3,.box 2 0),(4,.v (.pointer none)),(5,iv 0),(7,.box 3 0),(37,bF)] (Zp rfl (Zn ?_))
 rw [show Ns.cntE p n f=n from if_neg hs1]
 exact YV T0 (ZC _ _ rfl (by kernel_rfl) (by kernel_rfl))
 refine Zd (Zb (Zb ?_))
 refine Yn (wk_anyB 3 [false,false,false,false,false,false,false,false,false,false,false,false,false,false,false,true,true,true,true,true,true,true,true,true,true,true,true,true,true,true,true,false,false] rfl (ds:=[sv p.nm,iv p.top,Zr p.states,Zr p.msgs,Zr p.vals,iv p.fault,slA 4 cLn p.res,Zc p.init,Zc p.leader,slA 18 cRu p.rules,iv n,iv t,iv f,iv (Ns.cntE p n f),iv (n-f),.any,.any,.any,.any,.any,.any,.any,.any,.any,.any,.any,.any,.any,.any,.any,.any,.v (.slice none 0 0),.v (.slice none 0 0)]) rfl) ?_
 refine kW 80 [(1,.box 27 (cFm p)),(2,.box 29 (cSz n t f)),(3,.box 111 [sv p.nm,iv p.top,Zr p.states,Zr p.msgs,Zr p.vals,iv p.fault,slA 4 cLn p.res,Zc p.init,Zc p.leader,slA 18 cRu p.rules,iv n,iv t,iv f,iv (Ns.cntE p n f),iv (n-f),.any,.any,.any,.any,.any,.any,.any,.any,.any,.any,.any,.any,.any,.any,.any,.any,.v (.slice none 0 0),.v (.slice none 0 0)])] [(2,.box 1 0),(3,.box 2 0),(4,.v (.pointer none)),(5,iv 0),(7,.box 3 0)] (Za (oA (fb 9 2 U27 1) I0 (oB (lb (slA 18 cRu p.rules) 45 U25) I0 rfl (oA (nS 46 U25) I0 (pM (YL (.const (.int .i64 0)) (iv 0) rfl) (kN 80 [(2,.box 29 (cSz n t f)),(3,.box 111 [sv p.nm,iv p.top,Zr p.states,Zr p.msgs,Zr p.vals,iv p.fault,slA 4 cLn p.res,Zc p.init,Zc p.leader,slA 18 cRu p.rules,iv n,iv t,iv f,iv (Ns.cntE p n f),iv (n-f),.any,.any,.any,.any,.any,.any,.any,.any,.any,.any,.any,.any,.any,.any,.any,.any,.v (.slice none 0 0),.v (.slice none 0 0)])] [(3,.box 2 0),(4,.v (.pointer none)),(5,iv 0),(7,.box 3 0),(46,slA 18 cRu p.rules),(47,iv p.rules.length),(48,iv 0)] (Zd (ZD ?_))))))))
 refine Yy (σ:={j:Nat // j≤p.rules.length}) (fun s=>(ofL [(2,.box 29 (cSz n t f)),(3,.box 111 [sv p.nm,iv p.top,Zr p.states,Zr p.msgs,Zr p.vals,iv p.fault,slA 4 cLn p.res,Zc p.init,Zc p.leader,slA 18 cRu p.rules,iv n,iv t,iv f,iv (Ns.cntE p n f),iv (n-f),.any,.any,.any,.any,.any,.any,.any,.any,.any,.any,.any,.any,.any,.any,.any,.any,.v (.slice none 0 0),.v (.slice none 0 0)])],ofT 80 [(3,.box 2 0),(4,.v (.pointer none)),(5,iv 0),(7,.box 3 0),(46,slA 18 cRu p.rules),(47,iv p.rules.length),(48,iv s.1)])) (fun s=>p.rules.length-s.1) ⟨0,Nat.zero_le _⟩ (ZC _ _ rfl (by kernel_rfl) (by kernel_rfl)) (fun s => ?_)
 obtain ⟨j,hj0⟩:=s
 show ETri J w0 (ofL [(2,.box 29 (cSz n t f)),(3,.box 111 [sv p.nm,iv p.top,Zr p.states,Zr p.msgs,Zr p.vals,iv p.fault,slA 4 cLn p.res,Zc p.init,Zc p.leader,slA 18 cRu p.rules,iv n,iv t,iv f,iv (Ns.cntE p n f),iv (n-f),.any,.any,.any,.any,.any,.any,.any,.any,.any,.any,.any,.any,.any,.any,.any,.any,.v (.slice none 0 0),.v (.slice none 0 0)])]) (ofT 80 [(3,.box 2 0),(4,.v (.pointer none)),(5,iv 0),(7,.box 3 0),(46,slA 18 cRu p.rules),(47,iv p.rules.length),(48,iv j)]) _
 refine Zb ?_
 by_cases hs2:((j:Nat):Int)<((p.rules.length:Nat):Int)
 have hj1:j<p.rules.length:=by omega
 have hgj:=hg2 _ (List.getElem_mem hj1)
 refine Za (oC (ZY rfl (dT hs2)) I0 I0 (Ze (Zd (Zb (Zm rfl (Zn (Zd (Zb (ZD (Zb (Za (pM (mT 48 (iv j)) (oC (xS (j*18) 46 48 U25) I0 I0 (oA (Zq (z:=18) (.tmp 51) rfl U65 rfl (by kernel_rfl) (flat_take lenRu p.rules j (by omega)) rfl) I0 (ZF rfl (ZJ (z := .agg #[.string (⟨#[]⟩),.int .i64 0,.int .i64 0,.int .i64 0,.int .i64 0,.int .i64 0,.slice none 0 0,.slice none 0 0,.slice none 0 0,.slice none 0 0,.int .i64 0,.int .i64 0,.slice none 0 0,.int .i64 0,.slice none 0 0,.slice none 0 0,.slice none 0 0,.int .i64 0]) (k:=4) rfl (by kernel_rfl)) T0 T0 rfl (pM (aT 50 (iv j)) (ZF rfl (sB 18 9 (.tmp 52) (.agg (cRu p.rules[j]))) ⟨I0,I0,T0⟩ ⟨rfl,T0⟩ rfl (Ze (Zd (Zb (Za (oA (fb 7 9 U65 1) I0 (oB (lb (slA 6 cTh p.rules[j].guards) 53 U63) I0 rfl ?_)))))))))))))))))))))))
 refine oA (nS 54 U63) I0 (pM (YL (.const (.int .i64 0)) (iv 0) rfl) (kN 80 [(2,.box 29 (cSz n t f)),(3,.box 111 [sv p.nm,iv p.top,Zr p.states,Zr p.msgs,Zr p.vals,iv p.fault,slA 4 cLn p.res,Zc p.init,Zc p.leader,slA 18 cRu p.rules,iv n,iv t,iv f,iv (Ns.cntE p n f),iv (n-f),.any,.any,.any,.any,.any,.any,.any,.any,.any,.any,.any,.any,.any,.any,.any,.any,.v (.slice none 0 0),.v (.slice none 0 0)]),(4,.box 65 (cRu p.rules[j]))] [(3,.box 2 0),(4,.v (.pointer none)),(5,iv 0),(7,.box 3 0),(8,iv j),(9,.box 4 0),(46,slA 18 cRu p.rules),(47,iv p.rules.length),(48,iv j),(49,bT),(54,slA 6 cTh p.rules[j].guards),(55,iv (p.rules[j].guards.length:Nat)),(56,iv 0)] (Zd (ZD ?_))))
 refine Yy (σ:={k:Nat // k≤p.rules[j].guards.length}) (fun s=>(ofL [(2,.box 29 (cSz n t f)),(3,.box 111 [sv p.nm,iv p.top,Zr p.states,Zr p.msgs,Zr p.vals,iv p.fault,slA 4 cLn p.res,Zc p.init,Zc p.leader,slA 18 cRu p.rules,iv n,iv t,iv f,iv (Ns.cntE p n f),iv (n-f),.any,.any,.any,.any,.any,.any,.any,.any,.any,.any,.any,.any,.any,.any,.any,.any,.v (.slice none 0 0),.v (.slice none 0 0)]),(4,.box 65 (cRu p.rules[j]))],ofT 80 [(3,.box 2 0),(4,.v (.pointer none)),(5,iv 0),(7,.box 3 0),(8,iv j),(9,.box 4 0),(46,slA 18 cRu p.rules),(47,iv p.rules.length),(48,iv j),(49,bT),(54,slA 6 cTh p.rules[j].guards),(55,iv (p.rules[j].guards.length:Nat)),(56,iv s.1)])) (fun s=>p.rules[j].guards.length-s.1) ⟨0,Nat.zero_le _⟩ (ZC _ _ rfl (by kernel_rfl) (by kernel_rfl)) (fun s => ?_)
 obtain ⟨k,hk0⟩:=s
 show ETri J w0 (ofL [(2,.box 29 (cSz n t f)),(3,.box 111 [sv p.nm,iv p.top,Zr p.states,Zr p.msgs,Zr p.vals,iv p.fault,slA 4 cLn p.res,Zc p.init,Zc p.leader,slA 18 cRu p.rules,iv n,iv t,iv f,iv (Ns.cntE p n f),iv (n-f),.any,.any,.any,.any,.any,.any,.any,.any,.any,.any,.any,.any,.any,.any,.any,.any,.v (.slice none 0 0),.v (.slice none 0 0)]),(4,.box 65 (cRu p.rules[j]))]) (ofT 80 [(3,.box 2 0),(4,.v (.pointer none)),(5,iv 0),(7,.box 3 0),(8,iv j),(9,.box 4 0),(46,slA 18 cRu p.rules),(47,iv p.rules.length),(48,iv j),(49,bT),(54,slA 6 cTh p.rules[j].guards),(55,iv (p.rules[j].guards.length:Nat)),(56,iv k)]) _
 refine Zb ?_
 by_cases hs3:((k:Nat):Int)<((p.rules[j].guards.length:Nat):Int)
 refine Za (oC (ZY rfl (dT hs3)) I0 I0 (Ze (Zd (Zb (Zm rfl (Zn (Zd (Zb (ZD (Zb (Za (pM (mT 56 (iv k)) (oC (xS (k*6) 54 56 U63) I0 I0 (oA (Zq (z:=6) (.tmp 59) rfl U128 rfl (by kernel_rfl) (flat_take lenTh p.rules[j].guards k (by omega)) rfl) I0 (ZF rfl (ZJ (z := .agg #[.int .i64 0,.int .i64 0,.int .i64 0,.int .i64 0,.int .i64 0,.int .i64 0]) (k:=5) rfl (by kernel_rfl)) T0 T0 rfl (pM (aT 58 (iv k)) (ZF rfl (sB 6 11 (.tmp 60) (.agg (cTh p.rules[j].guards[k]))) ⟨I0,I0,T0⟩ ⟨rfl,T0⟩ rfl (Ze (Zd ?_)))))))))))))))))))
 refine Zo (dM (mT 7 (.box 3 0)) (dM (mT 8 (iv j)) (dM (mT 10 (iv k)) (dA (fb 2 11 U128 4) I0 (dB (lS ([iv p.rules[j].guards[k].bd.c,iv p.rules[j].guards[k].bd.n,iv p.rules[j].guards[k].bd.t,iv p.rules[j].guards[k].bd.f]) 4 65 U122) I0 rfl (dB (lS (cSz n t f) 3 3 U29) I0 rfl (dD (sc #[.tmp 66,.tmp 67] [] (Ns.Evaluate_c (l:=p.rules[j].guards[k].bd)) [.agg [iv p.rules[j].guards[k].bd.c,iv p.rules[j].guards[k].bd.n,iv p.rules[j].guards[k].bd.t,iv p.rules[j].guards[k].bd.f],.agg (cSz n t f)] rfl rfl rfl) I0 I0 I0 (dM (mT 68 (.tup [iv (evN p.rules[j].guards[k].bd.c p.rules[j].guards[k].bd.n p.rules[j].guards[k].bd.t p.rules[j].guards[k].bd.f n t f),iv (evE p.rules[j].guards[k].bd.c p.rules[j].guards[k].bd.n p.rules[j].guards[k].bd.t p.rules[j].guards[k].bd.f n t f)])) (dA (Zt (X:=iv (evN p.rules[j].guards[k].bd.c p.rules[j].guards[k].bd.n p.rules[j].guards[k].bd.t p.rules[j].guards[k].bd.f n t f)) (.tmp 61) rfl rfl) I0 (dA (Zt (X:=iv (evE p.rules[j].guards[k].bd.c p.rules[j].guards[k].bd.n p.rules[j].guards[k].bd.t p.rules[j].guards[k].bd.f n t f)) (.tmp 61) rfl rfl) I0 (dA (ZL (off:=0) (.tmp 62) rfl) I0 (dA (fb 15 71 U111 16) I0 (dC (Z4 (off':=15+j*2) (.tmp 72) (.tmp 63) rfl U108 (by kernel_rfl) (by omega) (by omega) rfl) I0 I0 (dC (Z4 (off':=15+j*2+k*1) (.tmp 73) (.tmp 64) rfl U107 (by kernel_rfl) (by omega) (by omega) rfl) I0 I0 (dR (sp_storeAny (T0:=111) (X:=iv (evN p.rules[j].guards[k].bd.c p.rules[j].guards[k].bd.n p.rules[j].guards[k].bd.t p.rules[j].guards[k].bd.f n t f)) (cs:=[sv p.nm,iv p.top,Zr p.states,Zr p.msgs,Zr p.vals,iv p.fault,slA 4 cLn p.res,Zc p.init,Zc p.leader,slA 18 cRu p.rules,iv n,iv t,iv f,iv (Ns.cntE p n f),iv (n-f),.any,.any,.any,.any,.any,.any,.any,.any,.any,.any,.any,.any,.any,.any,.any,.any,.v (.slice none 0 0),.v (.slice none 0 0)]) (z:=1) (.tmp 74) (.tmp 69) rfl (by kernel_rfl) (by kernel_rfl) (by kernel_rfl) (by show _≤33;omega) (fun i h1 h2=>any_in (lo:=15) (hi:=31) (by kernel_rfl) (Nat.le_of_ble_eq_true rfl) (by omega) (by omega))) ⟨I0,I0,T0⟩ ⟨rfl,T0⟩ rfl (dE ?_)))))))))))))))) (by kernel_rfl)
 show ETri J w0 _ _ _
 refine kW 80 [(2,.box 29 (cSz n t f)),(3,.box 111 [sv p.nm,iv p.top,Zr p.states,Zr p.msgs,Zr p.vals,iv p.fault,slA 4 cLn p.res,Zc p.init,Zc p.leader,slA 18 cRu p.rules,iv n,iv t,iv f,iv (Ns.cntE p n f),iv (n-f),.any,.any,.any,.any,.any,.any,.any,.any,.any,.any,.any,.any,.any,.any,.any,.any,.v (.slice none 0 0),.v (.slice none 0 0)]),(4,.box 65 (cRu p.rules[j])),(5,.box 128 (cTh p.rules[j].guards[k]))] [(3,.box 2 0),(4,.v (.pointer none)),(5,iv 0),(7,.box 3 0),(8,iv j),(9,.box 4 0),(10,iv k),(11,.box 5 0),(46,slA 18 cRu p.rules),(47,iv p.rules.length),(48,iv j),(49,bT),(54,slA 6 cTh p.rules[j].guards),(55,iv (p.rules[j].guards.length:Nat)),(56,iv k),(57,bT)] (ZT (Zd (Za (oC (Yo (c:=((k+1:Nat):Int)) rfl (w64 (by omega) (by omega) (by omega))) I0 I0 (pM (mT 75 (iv (k+1:Nat))) (kN 80 [(2,.box 29 (cSz n t f)),(3,.box 111 [sv p.nm,iv p.top,Zr p.states,Zr p.msgs,Zr p.vals,iv p.fault,slA 4 cLn p.res,Zc p.init,Zc p.leader,slA 18 cRu p.rules,iv n,iv t,iv f,iv (Ns.cntE p n f),iv (n-f),.any,.any,.any,.any,.any,.any,.any,.any,.any,.any,.any,.any,.any,.any,.any,.any,.v (.slice none 0 0),.v (.slice none 0 0)]),(4,.box 65 (cRu p.rules[j])),(5,.box 128 (cTh p.rules[j].guards[k]))] [(3,.box 2 0),(4,.v (.pointer none)),(5,iv 0),(7,.box 3 0),(8,iv j),(9,.box 4 0),(10,iv k),(11,.box 5 0),(46,slA 18 cRu p.rules),(47,iv p.rules.length),(48,iv j),(49,bT),(54,slA 6 cTh p.rules[j].guards),(55,iv (p.rules[j].guards.length:Nat)),(56,iv (k+1:Nat)),(57,bT)] (Zd ?_)))))))
 refine ZZ ⟨k+1,by omega⟩ (show p.rules[j].guards.length-(k+1)<p.rules[j].guards.length-k by omega) ?_
 exact ZC _ _ rfl (by kernel_rfl) (by kernel_rfl)
 refine Za (oC (ZY rfl (dF hs3)) I0 I0 (Ze (Zd (Zb (Zp rfl (Yq (Zz (Zz (t_hit (ZT (Zd (Za (oC (Yo (c:=((j+1:Nat):Int)) rfl (w64 (by omega) (by omega) (by omega))) I0 I0 (pM (mT 76 (iv (j+1:Nat))) (kN 80 [(2,.box 29 (cSz n t f)),(3,.box 111 [sv p.nm,iv p.top,Zr p.states,Zr p.msgs,Zr p.vals,iv p.fault,slA 4 cLn p.res,Zc p.init,Zc p.leader,slA 18 cRu p.rules,iv n,iv t,iv f,iv (Ns.cntE p n f),iv (n-f),.any,.any,.any,.any,.any,.any,.any,.any,.any,.any,.any,.any,.any,.any,.any,.any,.v (.slice none 0 0),.v (.slice none 0 0)]),(4,.box 65 (cRu p.rules[j]))] [(3,.box 2 0),(4,.v (.pointer none)),(5,iv 0),(7,.box 3 0),(8,iv j),(9,.box 4 0),(46,slA 18 cRu p.rules),(47,iv p.rules.length),(48,iv (j+1:Nat)),(49,bT),(54,slA 6 cTh p.rules[j].guards),(55,iv (p.rules[j].guards.length:Nat)),(56,iv k),(57,bF)] (Zd ?_))))))))))))))))
 refine ZZ ⟨j+1,by omega⟩ (show p.rules.length-(j+1)<p.rules.length-j by omega) ?_
 exact ZC _ _ rfl (by kernel_rfl) (by kernel_rfl)
 refine Za (oC (ZY rfl (dF hs2)) I0 I0 (Ze (Zd (Zb (Zp rfl (Yq (Zz (Zz (t_hit (Zd (Zb (Za (pM (mT 7 (.box 3 0)) (ZF rfl (sp_callWB (T:=111) (cs:=[sv p.nm,iv p.top,Zr p.states,Zr p.msgs,Zr p.vals,iv p.fault,slA 4 cLn p.res,Zc p.init,Zc p.leader,slA 18 cRu p.rules,iv n,iv t,iv f,iv (Ns.cntE p n f),iv (n-f),.any,.any,.any,.any,.any,.any,.any,.any,.any,.any,.any,.any,.any,.any,.any,.any,.v (.slice none 0 0),.v (.slice none 0 0)]) (ds:=[sv p.nm,iv p.top,Zr p.states,Zr p.msgs,Zr p.vals,iv p.fault,slA 4 cLn p.res,Zc p.init,Zc p.leader,slA 18 cRu p.rules,iv n,iv t,iv f,iv (Ns.cntE p n f),iv (n-f),.any,.any,.any,.any,.any,.any,.any,.any,.any,.any,.any,.any,.any,.any,.any,.any,.fr (slA 1 cLi (Ns.shT p.top (Ns.cntE p n f))),.any]) (c := .func 62) (xs := #[.tmp 77]) (k:=3) 1000000 [true,false,true,true,true,true,true,true,true,true,true,true,true,false,true,true,true,true,true,true,true,true,true,true,true,true,true,true,true,true,true,false,false] [] (fun xs_=>(Ns.place_m (p:=p) (n:=n) (t:=t) (f:=f) hc0 hc8 xs_)) rfl (by kernel_rfl) rfl (Xs:=[.box 3 0]) rfl rfl (Ns.pw1) rfl rfl rfl (Ns.plain_mask (fun _=>by kernel_rfl)) rfl rfl rfl) ⟨I0,I0,T0⟩ ⟨rfl,T0⟩ rfl (Ze (Zd (Zb (Za (pM (mT 7 (.box 3 0)) (pM (aT 79 (.box 3 0)) (pM (aC (.int .i64 0)) (Ze (Zd ?_)))))))))))))))))))))))
 refine Zk ?_
 refine tri_endA2 [(3,.box 111 [sv p.nm,iv p.top,Zr p.states,Zr p.msgs,Zr p.vals,iv p.fault,slA 4 cLn p.res,Zc p.init,Zc p.leader,slA 18 cRu p.rules,iv n,iv t,iv f,iv (Ns.cntE p n f),iv (n-f),.any,.any,.any,.any,.any,.any,.any,.any,.any,.any,.any,.any,.any,.any,.any,.any,.fr (slA 1 cLi (Ns.shT p.top (Ns.cntE p n f))),.any])] Try.results40 (.tmp rfl) (.tmp rfl) (by kernel_rfl) rfl rfl rfl ?_ ?_ ?_
 · exact (show Plain (.el (Ns.sysC p n t f) 0) from .el (ZQ (Ns.plain_sys p n t f)))
 · exact .v _
 kernel_rfl
set_option maxRecDepth 100000 in
theorem En.place_x {top:Int} {c:Nat} (hc:c≤8) (xs:Nat→Value):CtrW Try.prog J 62 [.box 1000000 0] 1000000 (.box 111 [.v (xs 0),iv top,.v (xs 2),.v (xs 3),.v (xs 4),.v (xs 5),.v (xs 6),.v (xs 7),.v (xs 8),.v (xs 9),.v (xs 10),.v (xs 11),.v (xs 12),iv c,.v (xs 14),.v (xs 15),.v (xs 16),.v (xs 17),.v (xs 18),.v (xs 19),.v (xs 20),.v (xs 21),.v (xs 22),.v (xs 23),.v (xs 24),.v (xs 25),.v (xs 26),.v (xs 27),.v (xs 28),.v (xs 29),.v (xs 30),.v (.slice none 0 0),.v (.slice none 0 0)]) (.box 111 [.v (xs 0),iv top,.v (xs 2),.v (xs 3),.v (xs 4),.v (xs 5),.v (xs 6),.v (xs 7),.v (xs 8),.v (xs 9),.v (xs 10),.v (xs 11),.v (xs 12),iv c,.v (xs 14),.v (xs 15),.v (xs 16),.v (xs 17),.v (xs 18),.v (xs 19),.v (xs 20),.v (xs 21),.v (xs 22),.v (xs 23),.v (xs 24),.v (xs 25),.v (xs 26),.v (xs 27),.v (xs 28),.v (xs 29),.v (xs 30),.fr (slA 1 cLi (Ns.shT top ((c:Nat):Int))),.fr ((En.lkS top c))]) (.v (.tuple #[])):=by
 have hsh:=Sh_pos (c:=c)
 have hsl:=Sh.shX_len ((c:Nat):Int)
 refine ctrW_of_tri (by decide) Try.func62 rfl (n:=64) rfl (by simp) (fun w0 => ?_)
 refine kW 64 [(1000000,.box 111 [.v (xs 0),iv top,.v (xs 2),.v (xs 3),.v (xs 4),.v (xs 5),.v (xs 6),.v (xs 7),.v (xs 8),.v (xs 9),.v (xs 10),.v (xs 11),.v (xs 12),iv c,.v (xs 14),.v (xs 15),.v (xs 16),.v (xs 17),.v (xs 18),.v (xs 19),.v (xs 20),.v (xs 21),.v (xs 22),.v (xs 23),.v (xs 24),.v (xs 25),.v (xs 26),.v (xs 27),.v (xs 28),.v (xs 29),.v (xs 30),.v (.slice none 0 0),.v (.slice none 0 0)])] [(0,.box 1000000 0)] (Zb (Za (pM (mT 0 (.box 1000000 0)) (oA (ZL (off:=0) (.tmp 4) rfl) I0 (oA (fb 0 5 U111 10) I0 (oA (fb 1 6 U27 1) I0 (oB (lb (iv top) 7 U3) I0 rfl (Ze (Zd (ZD (Zb (Zb ?_))))))))))))
 by_cases hs1:top=2
 refine Za (oC (ZA rfl (dT hs1)) I0 I0 (pM (aT 10 bT) (Ze (Zd (Zm rfl (Zn (Zd (Zm rfl ?_))))))))
 refine Zo (dM (mT 0 (.box 1000000 0)) (dM (mT 0 (.box 1000000 0)) (dA (ZL (off:=0) (.tmp 13) rfl) I0 (dA (fb 0 14 U111 10) I0 (dA (fb 1 15 U27 1) I0 (dB (lb (iv top) 16 U3) I0 rfl (dM (mT 0 (.box 1000000 0)) (dA (ZL (off:=0) (.tmp 18) rfl) I0 (dA (fb 13 19 U111 1) I0 (dB (lb (iv c) 20 U3) I0 rfl (dR (sc #[.tmp 17,.const (.slice none 0 0),.tmp 21] [] (linksOf_row (.inl hs1) hc) [iv top,.v (.slice none 0 0),iv c] rfl rfl rfl) ⟨I0,I0,I0,I0,T0⟩ T0 T0 (dR (sp_build (z:=1) (k:=1) (fr:=true) (cs:=[.sl 3 c (Ns.lkZ top c c)]) [.tmp 22] [.fr (.sl 3 c (Ns.lkZ top c c))] rfl U109 (by kernel_rfl) (by decide) (by decide) rfl rfl rfl (by kernel_rfl) (by decide) (fun _=>by simp [AV.cellsOf,AV.isNew,cLn,cTh]) (by kernel_rfl)) ⟨I0,T0⟩ T0 rfl (dA (ZL (off:=0) (.tmp 12) rfl) I0 (dA (fb 32 24 U111 1) I0 (dR (sB 1 25 (.tmp 23) (.own 1)) ⟨I0,I0,T0⟩ ⟨rfl,T0⟩ rfl (dE ?_)))))))))))))))) (by kernel_rfl)
 show ETri J w0 _ _ _
 refine kW 64 [(1,.row true 99 1 1 ([.sl 3 c (Ns.lkZ top c c)])),(1000000,.box 111 [.v (xs 0),iv top,.v (xs 2),.v (xs 3),.v (xs 4),.v (xs 5),.v (xs 6),.v (xs 7),.v (xs 8),.v (xs 9),.v (xs 10),.v (xs 11),.v (xs 12),iv c,.v (xs 14),.v (xs 15),.v (xs 16),.v (xs 17),.v (xs 18),.v (xs 19),.v (xs 20),.v (xs 21),.v (xs 22),.v (xs 23),.v (xs 24),.v (xs 25),.v (xs 26),.v (xs 27),.v (xs 28),.v (xs 29),.v (xs 30),.v (.slice none 0 0),.own 1])] [] (ZT ?_)
 refine Yr ?_
 rw [Ns.shT_no (n:=((c:Nat):Int)) (by omega),← En.lkS_row (c:=c) (top:=top) (by omega)]
 refine kW 64 [(1000000,.box 111 [.v (xs 0),iv top,.v (xs 2),.v (xs 3),.v (xs 4),.v (xs 5),.v (xs 6),.v (xs 7),.v (xs 8),.v (xs 9),.v (xs 10),.v (xs 11),.v (xs 12),iv c,.v (xs 14),.v (xs 15),.v (xs 16),.v (xs 17),.v (xs 18),.v (xs 19),.v (xs 20),.v (xs 21),.v (xs 22),.v (xs 23),.v (xs 24),.v (xs 25),.v (xs 26),.v (xs 27),.v (xs 28),.v (xs 29),.v (xs 30),.v (.slice none 0 0),.fr ((.sl 1 1 [.sl 3 c (Ns.lkZ top c c)]))])] [] ?_
 refine Yn (Kc 1000000 1 [0,0,0,0,0,0,0,0,0,0,0,0,0,0,0,0,0,0,0,0,0,0,0,0,0,0,0,0,0,0,0,2,0] rfl (ds:=[.v (xs 0),iv top,.v (xs 2),.v (xs 3),.v (xs 4),.v (xs 5),.v (xs 6),.v (xs 7),.v (xs 8),.v (xs 9),.v (xs 10),.v (xs 11),.v (xs 12),iv c,.v (xs 14),.v (xs 15),.v (xs 16),.v (xs 17),.v (xs 18),.v (xs 19),.v (xs 20),.v (xs 21),.v (xs 22),.v (xs 23),.v (xs 24),.v (xs 25),.v (xs 26),.v (xs 27),.v (xs 28),.v (xs 29),.v (xs 30),.fr (.sl 1 0 []),.fr ((.sl 1 1 [.sl 3 c (Ns.lkZ top c c)]))]) (by kernel_rfl) (by kernel_rfl)) ?_
 exact Y9 Try.results62  (by decide) (by kernel_rfl)
 refine Za (oC (ZA rfl (dF hs1)) I0 I0 (pM (aT 10 bF) (Ze (Zd (Zp rfl ?_)))))
 by_cases hs2:top=3
 refine Za (oC (ZA rfl (dT hs2)) I0 I0 (pM (aT 11 bT) (Ze (Zd (Zm rfl ?_)))))
 refine Zo (dM (mT 0 (.box 1000000 0)) (dM (mT 0 (.box 1000000 0)) (dA (ZL (off:=0) (.tmp 13) rfl) I0 (dA (fb 0 14 U111 10) I0 (dA (fb 1 15 U27 1) I0 (dB (lb (iv top) 16 U3) I0 rfl (dM (mT 0 (.box 1000000 0)) (dA (ZL (off:=0) (.tmp 18) rfl) I0 (dA (fb 13 19 U111 1) I0 (dB (lb (iv c) 20 U3) I0 rfl (dR (sc #[.tmp 17,.const (.slice none 0 0),.tmp 21] [] (linksOf_row (.inr hs2) hc) [iv top,.v (.slice none 0 0),iv c] rfl rfl rfl) ⟨I0,I0,I0,I0,T0⟩ T0 T0 (dR (sp_build (z:=1) (k:=1) (fr:=true) (cs:=[.sl 3 c (Ns.lkZ top c c)]) [.tmp 22] [.fr (.sl 3 c (Ns.lkZ top c c))] rfl U109 (by kernel_rfl) (by decide) (by decide) rfl rfl rfl (by kernel_rfl) (by decide) (fun _=>by simp [AV.cellsOf,AV.isNew,cLn,cTh]) (by kernel_rfl)) ⟨I0,T0⟩ T0 rfl (dA (ZL (off:=0) (.tmp 12) rfl) I0 (dA (fb 32 24 U111 1) I0 (dR (sB 1 25 (.tmp 23) (.own 1)) ⟨I0,I0,T0⟩ ⟨rfl,T0⟩ rfl (dE ?_)))))))))))))))) (by kernel_rfl)
 show ETri J w0 _ _ _
 refine kW 64 [(1,.row true 99 1 1 ([.sl 3 c (Ns.lkZ top c c)])),(1000000,.box 111 [.v (xs 0),iv top,.v (xs 2),.v (xs 3),.v (xs 4),.v (xs 5),.v (xs 6),.v (xs 7),.v (xs 8),.v (xs 9),.v (xs 10),.v (xs 11),.v (xs 12),iv c,.v (xs 14),.v (xs 15),.v (xs 16),.v (xs 17),.v (xs 18),.v (xs 19),.v (xs 20),.v (xs 21),.v (xs 22),.v (xs 23),.v (xs 24),.v (xs 25),.v (xs 26),.v (xs 27),.v (xs 28),.v (xs 29),.v (xs 30),.v (.slice none 0 0),.own 1])] [] (ZT ?_)
 refine Yr ?_
 rw [Ns.shT_no (n:=((c:Nat):Int)) (by omega),← En.lkS_row (c:=c) (top:=top) (by omega)]
 refine kW 64 [(1000000,.box 111 [.v (xs 0),iv top,.v (xs 2),.v (xs 3),.v (xs 4),.v (xs 5),.v (xs 6),.v (xs 7),.v (xs 8),.v (xs 9),.v (xs 10),.v (xs 11),.v (xs 12),iv c,.v (xs 14),.v (xs 15),.v (xs 16),.v (xs 17),.v (xs 18),.v (xs 19),.v (xs 20),.v (xs 21),.v (xs 22),.v (xs 23),.v (xs 24),.v (xs 25),.v (xs 26),.v (xs 27),.v (xs 28),.v (xs 29),.v (xs 30),.v (.slice none 0 0),.fr ((.sl 1 1 [.sl 3 c (Ns.lkZ top c c)]))])] [] ?_
 refine Yn (Kc 1000000 1 [0,0,0,0,0,0,0,0,0,0,0,0,0,0,0,0,0,0,0,0,0,0,0,0,0,0,0,0,0,0,0,2,0] rfl (ds:=[.v (xs 0),iv top,.v (xs 2),.v (xs 3),.v (xs 4),.v (xs 5),.v (xs 6),.v (xs 7),.v (xs 8),.v (xs 9),.v (xs 10),.v (xs 11),.v (xs 12),iv c,.v (xs 14),.v (xs 15),.v (xs 16),.v (xs 17),.v (xs 18),.v (xs 19),.v (xs 20),.v (xs 21),.v (xs 22),.v (xs 23),.v (xs 24),.v (xs 25),.v (xs 26),.v (xs 27),.v (xs 28),.v (xs 29),.v (xs 30),.fr (.sl 1 0 []),.fr ((.sl 1 1 [.sl 3 c (Ns.lkZ top c c)]))]) (by kernel_rfl) (by kernel_rfl)) ?_
 exact Y9 Try.results62  (by decide) (by kernel_rfl)
 refine Za (oC (ZA rfl (dF hs2)) I0 I0 (pM (aT 11 bF) (Ze (Zd (Zp rfl (Zb ?_))))))
 by_cases hs3:top=4
 refine Za (oC (ZA rfl (dT hs3)) I0 I0 (pM (aT 27 bT) (Ze (Zd (Zm rfl (Zb (Za (pM (mT 0 (.box 1000000 0)) (pM (mT 0 (.box 1000000 0)) (oA (ZL (off:=0) (.tmp 30) rfl) I0 (oA (fb 13 31 U111 1) I0 (oB (lb (iv c) 32 U3) I0 rfl (oC (sc #[.tmp 33] [] (Sh.Shapes_n _) [iv c] rfl rfl rfl) I0 I0 (pM (mT 34 (.tup [.fr (slA 1 cLi (Sh.shX ((c:Nat):Int))),iv (Sh.shZ ((c:Nat):Int))])) (oA (Zt (X := .fr (slA 1 cLi (Sh.shX ((c:Nat):Int)))) (.tmp 28) rfl rfl) I0 (oA (Zt (X:=iv (Sh.shZ ((c:Nat):Int))) (.tmp 28) rfl rfl) I0 (oA (ZL (off:=0) (.tmp 29) rfl) I0 (oA (fb 31 37 U111 1) I0 (ZF rfl (sB 1 38 (.tmp 35) (.fr (slA 1 cLi (Sh.shX ((c:Nat):Int))))) ⟨I0,I0,T0⟩ ⟨rfl,T0⟩ rfl (Ze (Zd (Zb (Za ?_)))))))))))))))))))))))
 refine pM (mT 0 (.box 1000000 0)) (oA (ZL (off:=0) (.tmp 39) rfl) I0 (oA (fb 31 40 U111 1) I0 (oB (lb (.fr (slA 1 cLi (Sh.shX ((c:Nat):Int)))) 41 U69) I0 rfl (ZF rfl (nS 42 U69) ⟨.inr (.inl rfl),T0⟩ T0 T0 (pM (YL (.const (.int .i64 0)) (iv 0) rfl) (kN 64 [(1000000,.box 111 [.v (xs 0),iv top,.v (xs 2),.v (xs 3),.v (xs 4),.v (xs 5),.v (xs 6),.v (xs 7),.v (xs 8),.v (xs 9),.v (xs 10),.v (xs 11),.v (xs 12),iv c,.v (xs 14),.v (xs 15),.v (xs 16),.v (xs 17),.v (xs 18),.v (xs 19),.v (xs 20),.v (xs 21),.v (xs 22),.v (xs 23),.v (xs 24),.v (xs 25),.v (xs 26),.v (xs 27),.v (xs 28),.v (xs 29),.v (xs 30),.fr (slA 1 cLi (Sh.shX ((c:Nat):Int))),.v (.slice none 0 0)])] [(0,.box 1000000 0),(42,.fr (slA 1 cLi (Sh.shX ((c:Nat):Int)))),(43,iv ((Sh.shX ((c:Nat):Int)).length:Nat)),(44,iv 0)] (Zd (ZD ?_))))))))
 refine Yn (Ym 1000000 32 1 true 99 1 rfl rfl rfl rfl) ?_
 refine Yy (σ:={j:Nat // j≤(Sh.shX ((c:Nat):Int)).length}) (fun s=>(ofL [(1,.row true 99 1 (((Sh.shX ((c:Nat):Int)).take s.1).length) (((Sh.shX ((c:Nat):Int)).take s.1).flatMap Ns.cLk)),(1000000,.box 111 [.v (xs 0),iv top,.v (xs 2),.v (xs 3),.v (xs 4),.v (xs 5),.v (xs 6),.v (xs 7),.v (xs 8),.v (xs 9),.v (xs 10),.v (xs 11),.v (xs 12),iv c,.v (xs 14),.v (xs 15),.v (xs 16),.v (xs 17),.v (xs 18),.v (xs 19),.v (xs 20),.v (xs 21),.v (xs 22),.v (xs 23),.v (xs 24),.v (xs 25),.v (xs 26),.v (xs 27),.v (xs 28),.v (xs 29),.v (xs 30),.fr (slA 1 cLi (Sh.shX ((c:Nat):Int))),.own 1])],ofT 64 [(0,.box 1000000 0),(42,.fr (slA 1 cLi (Sh.shX ((c:Nat):Int)))),(43,iv ((Sh.shX ((c:Nat):Int)).length:Nat)),(44,iv s.1)])) (fun s=>(Sh.shX ((c:Nat):Int)).length-s.1) ⟨0,Nat.zero_le _⟩ (ZC _ _ rfl (by kernel_rfl) (by kernel_rfl)) (fun s => ?_)
 obtain ⟨j,hj0⟩:=s
 show ETri J w0 (ofL [(1,.row true 99 1 (((Sh.shX ((c:Nat):Int)).take j).length) (((Sh.shX ((c:Nat):Int)).take j).flatMap Ns.cLk)),(1000000,.box 111 [.v (xs 0),iv top,.v (xs 2),.v (xs 3),.v (xs 4),.v (xs 5),.v (xs 6),.v (xs 7),.v (xs 8),.v (xs 9),.v (xs 10),.v (xs 11),.v (xs 12),iv c,.v (xs 14),.v (xs 15),.v (xs 16),.v (xs 17),.v (xs 18),.v (xs 19),.v (xs 20),.v (xs 21),.v (xs 22),.v (xs 23),.v (xs 24),.v (xs 25),.v (xs 26),.v (xs 27),.v (xs 28),.v (xs 29),.v (xs 30),.fr (slA 1 cLi (Sh.shX ((c:Nat):Int))),.own 1])]) (ofT 64 [(0,.box 1000000 0),(42,.fr (slA 1 cLi (Sh.shX ((c:Nat):Int)))),(43,iv ((Sh.shX ((c:Nat):Int)).length:Nat)),(44,iv j)]) _
 have l1:((Sh.shX ((c:Nat):Int)).take j).length≤j:=List.length_take_le _ _
 refine Zb ?_
 by_cases hs4:((j:Nat):Int)<(((Sh.shX ((c:Nat):Int)).length:Nat):Int)
 have hj1:j<(Sh.shX ((c:Nat):Int)).length:=by omega
 have hx0:0<(Sh.shX ((c:Nat):Int))[j].length:=hsh _ (List.getElem_mem hj1)
 have hx1:(Sh.shX ((c:Nat):Int))[j].length≤100:=Nat.le_trans (Sh.shX_mem _ _ (List.getElem_mem hj1)).1 (by decide)
 refine Za (oC (ZY rfl (dT hs4)) I0 I0 (Ze (Zd (Zb (Zm rfl (Zn (Zd (Zb (ZD (Zb (Za (ZF rfl (xS (j*1) 42 44 U69) ⟨.inr (.inl rfl),I0,T0⟩ T0 T0 (oA (lE (Zc ((Sh.shX ((c:Nat):Int))[j])) 46 U24 ((Zu lenLi (Sh.shX ((c:Nat):Int)) j 0 (by omega) (by decide)).trans rfl)) I0 (pM (aT 47 (Zc ((Sh.shX ((c:Nat):Int))[j]))) (Ze (Zd ?_))))))))))))))))
 refine Zo (dM (mT 0 (.box 1000000 0)) (dM (mT 0 (.box 1000000 0)) (dA (ZL (off:=0) (.tmp 49) rfl) I0 (dA (fb 32 50 U111 1) I0 (dB (lb (.own 1) 51 U109) I0 rfl (dM (mT 3 (Zc ((Sh.shX ((c:Nat):Int))[j]))) (dM (mT 0 (.box 1000000 0)) (dA (ZL (off:=0) (.tmp 54) rfl) I0 (dA (fb 13 55 U111 1) I0 (dB (lb (iv c) 56 U3) I0 rfl (dR (sc #[.const (.int .i64 4),.tmp 53,.tmp 57] [] (linksOf_tree (Sh.shX_mem _ _ (List.getElem_mem (by omega))).2 hx0 hx1) [iv 4,Zc ((Sh.shX ((c:Nat):Int))[j]),iv c] rfl rfl rfl) ⟨I0,I0,I0,I0,T0⟩ T0 T0 (dR (sp_build (z:=1) (k:=2) (fr:=false) (cs:=[.fr (Ns.lkT ((Sh.shX ((c:Nat):Int))[j]))]) [.tmp 58] [.fr (Ns.lkT ((Sh.shX ((c:Nat):Int))[j]))] rfl U109 (by kernel_rfl) (by decide) (by decide) rfl rfl rfl (by kernel_rfl) (by decide) (fun h=>Bool.noConfusion h) (by kernel_rfl)) ⟨I0,T0⟩ T0 rfl (dR (sp_appendOwn (n:=((Sh.shX ((c:Nat):Int)).take j).length) (cs:=(((Sh.shX ((c:Nat):Int)).take j).flatMap Ns.cLk)) (fr:=true) (m:=1) (ds:=[.fr (Ns.lkT ((Sh.shX ((c:Nat):Int))[j]))]) (⟨U109,by kernel_rfl,by decide⟩:Elt Try.prog 109 99 1 24) (.tmp 52) (.tmp 59) rfl (fun _=>Ns.newLk (Sh.shX ((c:Nat):Int))[j]) (by unfold maxLen;omega) (by omega) (Ns.cellLk (Sh.shX ((c:Nat):Int))[j]) (es:=(((Sh.shX ((c:Nat):Int)).take (j+1)).flatMap Ns.cLk)) (Ns.snocLk (by omega))) ⟨I0,I0,T0⟩ ⟨rfl,rfl,T0⟩ rfl (dA (ZL (off:=0) (.tmp 48) rfl) I0 (dA (fb 32 61 U111 1) I0 (dR (sB 1 62 (.tmp 60) (.own 1)) ⟨I0,I0,T0⟩ ⟨rfl,T0⟩ rfl (dE ?_))))))))))))))))) (by kernel_rfl)
 show ETri J w0 _ _ _
 refine kW 64 [(1,.row true 99 1 (((Sh.shX ((c:Nat):Int)).take j).length+1) (((Sh.shX ((c:Nat):Int)).take (j+1)).flatMap Ns.cLk)),(1000000,.box 111 [.v (xs 0),iv top,.v (xs 2),.v (xs 3),.v (xs 4),.v (xs 5),.v (xs 6),.v (xs 7),.v (xs 8),.v (xs 9),.v (xs 10),.v (xs 11),.v (xs 12),iv c,.v (xs 14),.v (xs 15),.v (xs 16),.v (xs 17),.v (xs 18),.v (xs 19),.v (xs 20),.v (xs 21),.v (xs 22),.v (xs 23),.v (xs 24),.v (xs 25),.v (xs 26),.v (xs 27),.v (xs 28),.v (xs 29),.v (xs 30),.fr (slA 1 cLi (Sh.shX ((c:Nat):Int))),.own 1])] [(0,.box 1000000 0),(3,Zc ((Sh.shX ((c:Nat):Int))[j])),(42,.fr (slA 1 cLi (Sh.shX ((c:Nat):Int)))),(43,iv ((Sh.shX ((c:Nat):Int)).length:Nat)),(44,iv j),(45,bT)] (ZT (Zd (Za (oC (Yo (c:=((j+1:Nat):Int)) rfl (w64 (by omega) (by omega) (by omega))) I0 I0 (pM (mT 63 (iv (j+1:Nat))) (kN 64 [(1,.row true 99 1 (((Sh.shX ((c:Nat):Int)).take j).length+1) (((Sh.shX ((c:Nat):Int)).take (j+1)).flatMap Ns.cLk)),(1000000,.box 111 [.v (xs 0),iv top,.v (xs 2),.v (xs 3),.v (xs 4),.v (xs 5),.v (xs 6),.v (xs 7),.v (xs 8),.v (xs 9),.v (xs 10),.v (xs 11),.v (xs 12),iv c,.v (xs 14),.v (xs 15),.v (xs 16),.v (xs 17),.v (xs 18),.v (xs 19),.v (xs 20),.v (xs 21),.v (xs 22),.v (xs 23),.v (xs 24),.v (xs 25),.v (xs 26),.v (xs 27),.v (xs 28),.v (xs 29),.v (xs 30),.fr (slA 1 cLi (Sh.shX ((c:Nat):Int))),.own 1])] [(0,.box 1000000 0),(3,Zc ((Sh.shX ((c:Nat):Int))[j])),(42,.fr (slA 1 cLi (Sh.shX ((c:Nat):Int)))),(43,iv ((Sh.shX ((c:Nat):Int)).length:Nat)),(44,iv (j+1:Nat)),(45,bT)] (Zd ?_)))))))
 refine ZZ ⟨j+1,by omega⟩ (show (Sh.shX ((c:Nat):Int)).length-(j+1)<(Sh.shX ((c:Nat):Int)).length-j by omega) ?_
 show Wk _ _ (ofL [(1,.row true 99 1 (((Sh.shX ((c:Nat):Int)).take (j+1)).length) (((Sh.shX ((c:Nat):Int)).take (j+1)).flatMap Ns.cLk)),(1000000,.box 111 [.v (xs 0),iv top,.v (xs 2),.v (xs 3),.v (xs 4),.v (xs 5),.v (xs 6),.v (xs 7),.v (xs 8),.v (xs 9),.v (xs 10),.v (xs 11),.v (xs 12),iv c,.v (xs 14),.v (xs 15),.v (xs 16),.v (xs 17),.v (xs 18),.v (xs 19),.v (xs 20),.v (xs 21),.v (xs 22),.v (xs 23),.v (xs 24),.v (xs 25),.v (xs 26),.v (xs 27),.v (xs 28),.v (xs 29),.v (xs 30),.fr (slA 1 cLi (Sh.shX ((c:Nat):Int))),.own 1])]) (ofT 64 [(0,.box 1000000 0),(42,.fr (slA 1 cLi (Sh.shX ((c:Nat):Int)))),(43,iv ((Sh.shX ((c:Nat):Int)).length:Nat)),(44,iv ((j+1):Nat))])
 rw [show ((Sh.shX ((c:Nat):Int)).take (j+1)).length=((Sh.shX ((c:Nat):Int)).take j).length+1 by rw [List.length_take,List.length_take];omega]
 exact ZC _ _ rfl (by kernel_rfl) (by kernel_rfl)
 refine Za (oC (ZY rfl (dF hs4)) I0 I0 (kN 64 [(1,.row true 99 1 (((Sh.shX ((c:Nat):Int)).take j).length) (((Sh.shX ((c:Nat):Int)).take j).flatMap Ns.cLk)),(1000000,.box 111 [.v (xs 0),iv top,.v (xs 2),.v (xs 3),.v (xs 4),.v (xs 5),.v (xs 6),.v (xs 7),.v (xs 8),.v (xs 9),.v (xs 10),.v (xs 11),.v (xs 12),iv c,.v (xs 14),.v (xs 15),.v (xs 16),.v (xs 17),.v (xs 18),.v (xs 19),.v (xs 20),.v (xs 21),.v (xs 22),.v (xs 23),.v (xs 24),.v (xs 25),.v (xs 26),.v (xs 27),.v (xs 28),.v (xs 29),.v (xs 30),.fr (slA 1 cLi (Sh.shX ((c:Nat):Int))),.own 1])] [(0,.box 1000000 0),(42,.fr (slA 1 cLi (Sh.shX ((c:Nat):Int)))),(43,iv ((Sh.shX ((c:Nat):Int)).length:Nat)),(44,iv j),(45,bF)] (Zd (Zb (Zp rfl (Yq (Zz (Zz (t_hit (ZT ?_))))))))))
 refine Yr ?_
 have hj2:j=(Sh.shX ((c:Nat):Int)).length:=by omega
 have ht:(Sh.shX ((c:Nat):Int)).take j=(Sh.shX ((c:Nat):Int)):=by rw [hj2,List.take_length]
 rw [ht]
 rw [Ns.shT_tree (n:=((c:Nat):Int)) hs3,hs3,← En.lkS_tree]
 refine kW 64 [(1000000,.box 111 [.v (xs 0),iv 4,.v (xs 2),.v (xs 3),.v (xs 4),.v (xs 5),.v (xs 6),.v (xs 7),.v (xs 8),.v (xs 9),.v (xs 10),.v (xs 11),.v (xs 12),iv c,.v (xs 14),.v (xs 15),.v (xs 16),.v (xs 17),.v (xs 18),.v (xs 19),.v (xs 20),.v (xs 21),.v (xs 22),.v (xs 23),.v (xs 24),.v (xs 25),.v (xs 26),.v (xs 27),.v (xs 28),.v (xs 29),.v (xs 30),.fr (slA 1 cLi (Sh.shX ((c:Nat):Int))),.fr ((.sl 1 (Sh.shX ((c:Nat):Int)).length ((Sh.shX ((c:Nat):Int)).flatMap Ns.cLk)))])] [] ?_
 exact Y9 Try.results62  (by decide) (by kernel_rfl)
 refine Za (oC (ZA rfl (dF hs3)) I0 I0 (pM (aT 27 bF) (kN 64 [(1000000,.box 111 [.v (xs 0),iv top,.v (xs 2),.v (xs 3),.v (xs 4),.v (xs 5),.v (xs 6),.v (xs 7),.v (xs 8),.v (xs 9),.v (xs 10),.v (xs 11),.v (xs 12),iv c,.v (xs 14),.v (xs 15),.v (xs 16),.v (xs 17),.v (xs 18),.v (xs 19),.v (xs 20),.v (xs 21),.v (xs 22),.v (xs 23),.v (xs 24),.v (xs 25),.v (xs 26),.v (xs 27),.v (xs 28),.v (xs 29),.v (xs 30),.v (.slice none 0 0),.v (.slice none 0 0)])] [(0,.box 1000000 0),(26,bF)] (Zd (Zp rfl (Zn (ZT ?_)))))))
 refine Yr ?_
 rw [Ns.shT_no (n:=((c:Nat):Int)) (by omega),← En.lkS_no (c:=c) hs1 hs2 hs3]
 refine Yn (Kc 1000000 1 [0,0,0,0,0,0,0,0,0,0,0,0,0,0,0,0,0,0,0,0,0,0,0,0,0,0,0,0,0,0,0,2,2] rfl (ds:=[.v (xs 0),iv top,.v (xs 2),.v (xs 3),.v (xs 4),.v (xs 5),.v (xs 6),.v (xs 7),.v (xs 8),.v (xs 9),.v (xs 10),.v (xs 11),.v (xs 12),iv c,.v (xs 14),.v (xs 15),.v (xs 16),.v (xs 17),.v (xs 18),.v (xs 19),.v (xs 20),.v (xs 21),.v (xs 22),.v (xs 23),.v (xs 24),.v (xs 25),.v (xs 26),.v (xs 27),.v (xs 28),.v (xs 29),.v (xs 30),.fr (.sl 1 0 []),.fr (.sl 1 0 [])]) (by kernel_rfl) (by kernel_rfl)) ?_
 exact Y9 Try.results62  (by decide) (by kernel_rfl)
end Go.Proofs.Ytengacodacejiaa
