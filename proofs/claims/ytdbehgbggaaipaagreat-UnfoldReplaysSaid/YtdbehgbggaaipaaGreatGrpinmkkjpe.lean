import Derived.Laws.IdiomCopy
import Derived.Test.YtdbehgbggaaipaaGreatProg
import Derived.WalkSpells
import Derived.WalkLawsBesides
import Derived.LoopTactic
import Derived.Lib.Hide
import Derived.Outline
import Derived.Deep.DeepCutAuto
import Derived.Deep.QuietTactic
import Derived.BigQuiet
import Derived.StillTailTactics
import Derived.Laws.MakeOwn
import Derived.Test.YtdbehgbggaaipaaGreatGrpfffiblha
import Derived.Test.YtdbehgbggaaipaaGreatGrpkgnmkbgm
import Derived.Test.YtdbehgbggaaipaaGreatGrpmknfboop
import Derived.Test.YtdbehgbggaaipaaGreatGrpomndejbf
import Derived.Test.YtdbehgbggaaipaaGreatGrpjljjncbf
import Derived.Test.YtdbehgbggaaipaaGreatGrpghglnpgc
import Derived.Test.YtdbehgbggaaipaaGreatGrpblcpooha
import Derived.Test.YtdbehgbggaaipaaGreatGrpcihmmilk
import Derived.Test.YtdbehgbggaaipaaGreatGrpeaecekcn
import Derived.Test.YtdbehgbggaaipaaGreatGrplohlcfam
set_option linter.all false
namespace Go.Proofs.YtdbehgbggaaipaaGreat
open Go.RowKit Go.Deep
variable {J:World→Prop}
variable {ρ:Names}{B k off n:Nat}{w:World}{x:Value}
theorem Rel.bsl_inv (h:Rel ρ B w (.bsl k off n) x) (h0:n≠0):∃ b c n' cp,ρ k=some (.at b c n')∧x = .slice (some ⟨b,off,none⟩) n cp:=by
 cases h with
 | pu h=>cases h
 | bsl h hx =>
   rcases hx with ⟨b,c,m,o',cp,rfl,rfl,ho⟩ | ⟨hz,_⟩
   ·rw [ho h0];exact ⟨_,_,_,_,h,rfl⟩
   exact absurd hz h0
section
variable {P:Program} {o:Oper}
variable {t e:TypeId}{z len:Nat}
theorem Zan (x:Operand) (ho:o.op = .slice t x none none none) (hu:P.underlying t=some (.array len e)) (hz:(P.info? e).map (·.size)=some z) :
 ASpec P J o [(x,.box k off)] [] (.bsl k off len) .no :=
 ZF fun ρ B a w _ ha _=>by
  obtain ⟨b,c,n,h1',h2⟩:=(ha (x,.box k off) (by simp)).box_inv
  obtain ⟨it,hi,rfl⟩:=Option.map_eq_some_iff.1 hz
  refine ⟨.slice (some ⟨b,off,none⟩) len len,?_,.bsl (o:=off) (m:=len) h1' (.inl ⟨b,c,n,off,len,rfl,rfl,fun _=>rfl⟩)⟩
  simp only [execOp,ho,h2]
  refine Yd ?_
  by_cases h0:len=0
  ·subst h0;simp [Instr.sliceAt,run_underlying hu,Instr.sureAddr,Instr.sliceBounds,sizeOf,typeInfo,hi]
  simp [Instr.sliceAt,run_underlying hu,Instr.sureAddr,Instr.sliceBounds,sizeOf,typeInfo,hi,h0,Addr.add_mid]
variable {dT sT T0:TypeId}{cs old new:List AV}
theorem sp_copyB {k off n m:Nat} (x y:Operand) (ho:o.op = .call { callee := .builtin .copy,args := #[x,y],argTypes := #[dT,sT] }) (hu:P.underlying dT=some (.slice e)) (hz:(P.info? e).map (·.size)=some 1)
 (hc:∀ X∈cs,X.cell=true) (hr:off+n≤old.length) (hl:new.length=old.length)
 (hin:∀ j (hj:j<new.length),new[j] = .any∨(off≤j∧j<off+min m n∧cs[j-off]? = some new[j])∨(¬ (off≤j∧j<off+min m n)∧old[j]? = some new[j])) (h0n:n≠0:=by decide) :
 ASpec P J o [(x,.bsl k off n),(y,.sl 1 m cs)] [(k,.box T0 old)] (.v (.int .i64 ((min m n:Nat):Int))) (.st k (.box T0 new)):=by
 intro ρ B a w K Q hwf hB _ ha hr' _ hk
 obtain ⟨b,c,n1,cp,h1,h2⟩:=(ha (x,.bsl k off n) (by simp)).bsl_inv h0n
 have hy:=(ha (y,.sl 1 m cs) (by simp)).sl_inv
 obtain ⟨nm,h1',b',c',n',vs,e0,hg,hvs,hrel⟩:=hr' (k,.box T0 old) (by simp)
 rw [h1] at h1';cases h1';cases e0
 have key:∃ vsrc:List Value,(∀ ty,(Builtin.copy_ #[dT,sT] ty #[.slice (some ⟨b,off,none⟩) n cp,a.eval y]).run P w = .ok (goInt ((min m n:Nat):Int)) (w.setCells b off vsrc))∧vsrc.length=min m n∧∀ j,j<min m n→∃ X v,cs[j]? = some X∧vsrc[j]? = some v∧Rel ρ B w X v:=by
  generalize a.eval y=v at hy
  cases hy with
  | sl0 q2 qz =>
    rename_i ad cap
    refine ⟨[],fun ty => ?_,by simp,fun j hj=>by omega⟩
    have:=run_copy_none (P:=P) w dT sT ty e (some ⟨b,off,none⟩) ad n cp 0 cap hu hz (Nat.zero_min n)
    rw [this,show min 0 n=0 by omega]
    rfl
  | sl hcl q1 q2 hb hw hf hrc =>
    rename_i b2 off2 cap f
    have hcl':cs.length=m:=by omega
    have hvl:((List.range (min m n)).map f).length=min m n:=by simp
    refine ⟨(List.range (min m n)).map f,fun ty => ?_,hvl,fun j hj => ?_⟩
    ·have:=run_copy_cells (P:=P) w dT sT ty e b off n cp ⟨b2,off2,none⟩ m cap ((List.range (min m n)).map f) hu hz (by rw [hvl]) (fun j v hv => ?_) (fun j hj => ?_) (fun j hj=>frozenB hg _) fun v hv => ?_
     ·rw [this,hvl]
     ·obtain ⟨hj,rfl⟩:=List.getElem?_eq_some_iff.1 hv
      have hj':j<min m n:=by rw [hvl] at hj;exact hj
      rw [Addr.add_mid]
      simpa using hf j (by omega)
     ·rw [hvl] at hj
      simp only [World.cell?,hg]
      simp;omega
     obtain ⟨j,hj,rfl⟩:=List.mem_map.1 hv
     have hj':=List.mem_range.1 hj
     have hj2:j<cs.length:=by omega
     exact (hrc j hj2).one (hc _ (List.getElem_mem hj2))
    have hj2:j<cs.length:=by omega
    exact ⟨cs[j],f j,List.getElem?_eq_getElem hj2,by simp [hj],.pu (hrc j hj2)⟩
 obtain ⟨vsrc,hrun,hvl,hcell⟩:=key
 obtain ⟨cur',hg',hs',hget⟩:=Y4 vsrc off w vs hg (by rw [hvl,hvs];omega)
 unfold Oper.wp
 simp only [execOp,ho,resolve,invoke,builtin,List.map_toArray,List.map_cons,List.map_nil,h2,Sem.run_bind,hrun,Result.andThen_ok,Sem.run_pure]
 obtain ⟨q1,q2,q3⟩:=Wx b vsrc off w
 have hlo:=hwf.lo _ _ _ _ h1
 have hkeep:∀ {X:AV} {x:Value},Rel ρ B w X x→Rel ρ B (w.setCells b off vsrc) X x:=fun h=>h.keep (fun _ _ h=>h.mono (fun _ hb hw=>WA h1 hb hw) fun _ _ h=>h) fun _ _ h=>h
 refine hk ρ _ _ ⟨rfl,q1,q2,q3,by rw [Yl];exact Nat.le_refl _,fun b' _ hne=>YN (fun e=>by subst e;exact hne k c n1 rfl h1) _ _ _,fun _ _ _=>rfl,fun _ _ _=>rfl,fun k' X' he => ?_,.pu (.v _),fun _ _ h=>nomatch h⟩
 cases he
 refine ⟨_,h1,fun b' c' n' e=>by cases e;exact ⟨by rw [Yl];exact hlo.2,hlo.1,.inr ⟨_,_,h1⟩⟩,b,c,n1,cur',rfl,hg',by rw [hs',hvs,hl],fun j hj => ?_⟩
 have hcur:=hget j
 have hjs:j<cur'.size:=by omega
 rw [hvl] at hcur
 rw [Array.getD_eq_getD_getElem?,hcur]
 rcases hin j hj with h | ⟨g1,g2,g3⟩ | ⟨g1,g2⟩
 ·rw [h];exact .anyR
 ·obtain ⟨X,v,e1,e2,e3⟩:=hcell (j-off) (by omega)
  rw [if_pos ⟨g1,g2⟩,e2]
  rw [g3] at e1
  cases e1
  exact hkeep e3
 rw [if_neg g1]
 obtain ⟨hj1,e⟩:=List.getElem?_eq_some_iff.1 g2
 rw [← e]
 have:=hkeep (hrel j hj1)
 rw [Array.getD_eq_getD_getElem?] at this
 exact this
def AV.isZ:AV→Bool
 | .v (.int .i64 0)=>true
 | _=>false
variable {X:AV}
theorem isZ_eq (h:X.isZ=true):X = .v (.int .i64 0):=by
 unfold AV.isZ at h
 split at h
 ·rfl
 cases h
theorem Zao (l:List Int) (x y:Operand) (ho:o.op = .call { callee := .builtin .copy,args := #[x,y],argTypes := #[dT,sT] }) (hu:P.underlying dT=some (.slice e)) (hz:(P.info? e).map (·.size)=some 1)
 (hr:Nat.ble (off+n) old.length=true) (h0:(old.zipIdx.all fun p => !(Nat.ble off p.2&&Nat.blt p.2 (off+n))||p.1.isZ)=true)
 (hd:old.zipIdx.map (fun p=>if Nat.ble off p.2&&Nat.blt p.2 (off+n) then AV.v (.int .i64 (l.getD (p.2-off) 0)) else p.1)=new) (h0n:n≠0:=by decide) :
 ASpec P J o [(x,.bsl k off n),(y,Zb l)] [(k,.box T0 old)] (.v (.int .i64 ((min l.length n:Nat):Int))) (.st k (.box T0 new)):=by
 subst hd
 refine sp_copyB x y ho hu hz (fun X hX=>by obtain ⟨x,_,rfl⟩:=List.mem_map.1 hX;rfl) (Nat.le_of_ble_eq_true hr) (by simp) (fun j hj => ?_) h0n
 have hj':j<old.length:=by simpa using hj
 simp only [List.getElem_map,List.getElem_zipIdx,Nat.zero_add]
 by_cases h:off≤j∧j<off+n
 ·rw [if_pos (by simp [Nat.blt_eq,Nat.ble_eq];exact h)]
  by_cases hl:j-off<l.length
  ·refine .inr (.inl ⟨h.1,by omega,?_⟩)
   rw [List.getElem?_map,List.getElem?_eq_getElem hl]
   simp [List.getD_eq_getElem?_getD,hl,iv]
  refine .inr (.inr ⟨by omega,?_⟩)
  have h3:=List.all_eq_true.1 h0 (old[j],j) (by rw [List.mem_iff_getElem];exact ⟨j,by simpa using hj',by simp⟩)
  have h4:(Nat.ble off j&&Nat.blt j (off+n))=true:=by simp [Nat.blt_eq,Nat.ble_eq];exact h
  simp only [h4,Bool.not_true,Bool.false_or] at h3
  rw [List.getElem?_eq_getElem hj',isZ_eq h3]
  simp [List.getD_eq_getElem?_getD,List.getElem?_eq_none (show l.length≤j-off by omega)]
 refine .inr (.inr ⟨fun h'=>h ⟨h'.1,by omega⟩,?_⟩)
 rw [if_neg (by simp [Nat.blt_eq,Nat.ble_eq];omega),List.getElem?_eq_getElem hj']
end
section
variable {P:Program} {w0:Wb} {h:AHeap} {t:ATm}
theorem Wq {fn:Func} {r r' r'':ResultVar} {X X' X'' u:AV} (hr:fn.results = #[r,r',r'']) (h1:ResV P h t r X) (h2:ResV P h t r' X') (h3:ResV P h t r'' X'') (hu:(AV.tup [X,X',X'']).out3 h=u):ETri J w0 h t (bodyPost P fn (RetP w0 u) .ret):=fun ρ a w s=>by
 subst hu
 obtain ⟨v,g1,g2⟩:=KN s h1
 obtain ⟨v',g1',g2'⟩:=KN s h2
 obtain ⟨v'',g1'',g2''⟩:=KN s h3
 refine ⟨s.df,.tuple #[v,v',v''],?_,_,rfl,s.out3 (.tup rfl fun j hj => ?_),s.bel⟩
 ·unfold results
  rw [hr,Sem.run_bind,mapM_three (v:=v) (v':=v') (v'':=v'') (by cases r<;>exact g1) (by cases r'<;>exact g1') (by cases r''<;>exact g1'')]
  rfl
 simp only [List.length_cons,List.length_nil] at hj
 match j,hj with
 | 0,_=>exact g2
 | 1,_=>exact g2'
 | 2,_=>exact g2''
end
theorem Rel.bsl_part (h:Rel ρ B w (.bsl k off n) x):∃ nm,ρ k=some nm∧PartV nm off n x:=by
 cases h with
 | pu h=>cases h
 | bsl h hx=>exact ⟨_,h,hx⟩
section
variable {P:Program} {o:Oper}
end
section
variable {P:Program} {o:Oper}
variable {cs:List AV}{v:Value}
theorem rel_el (h:Rel ρ B w (.el cs off) v) :
 ∃ b base,∃ f:Nat→Value,v = .pointer (some ⟨b,base+off,none⟩)∧okOf ρ b∧b<w.heap.size∧(∀ j,j<cs.length→w.cell? ⟨b,base+j,none⟩=some (f j))∧∀ j (hj:j<cs.length),Pu (B ≤ ·) w (okOf ρ) cs[j] (f j):=by
 cases h with
 | pu h=>cases h with | el hb hw hf h=>exact ⟨_,_,_,rfl,hb,hw,hf,h⟩
variable {t e:TypeId}
theorem ZX {z len off off':Nat} {ik:IntKind} {i:Int} (x y:Operand) (ho:o.op = .indexAddr t x y) (hu:P.underlying t=some (.array len e)) (hz:(P.info? e).map (·.size)=some z) (h0:0≤i) (h1:i<len) (he:off+i.toNat*z=off') :
 ASpec P J o [(x,.el cs off),(y,.v (.int ik i))] [] (.el cs off') .no :=
 ZF fun ρ B a w _ ha _=>by
  obtain ⟨b,base,f,h2,hb,hw,hf,hp⟩:=rel_el (ha (x,.el cs off) (by simp))
  have hy:=(ha (y,.v (.int ik i)) (by simp)).v_inv
  refine ⟨.pointer (some ⟨b,base+off',none⟩),?_,.pu (.el hb hw hf hp)⟩
  simp only [execOp,ho,h2,hy]
  exact Yd (by rw [ZaZ hu hz _ _ _ _ _ h0 h1,← he,Nat.add_assoc])
variable {m:Int}{len:Nat}
theorem KC {cs ds:List AV} {ik:IntKind} (x y:Operand) (ho:o.op = .slice t x none (some y) none) (hu:P.underlying t=some (.array len e)) (hz:(P.info? e).map (·.size)=some 1) (hn:n≤len) (h0:Nat.blt 0 len=true) (hm:len≤maxLen) (hl:off+n≤cs.length) (hd:(cs.drop off).take n=ds) (hmn:m=(n:Int)) :
 ASpec P J o [(x,.el cs off),(y,.v (.int ik m))] [] (.sl 1 n ds) .no :=
 ZF fun ρ B a w _ ha _=>by
  subst hmn
  obtain ⟨b,base,f,h2,hb,hw,hf,hp⟩:=rel_el (ha (x,.el cs off) (by simp))
  have hy:=(ha (y,.v (.int ik (n:Int))) (by simp)).v_inv
  obtain ⟨it,hi,_⟩:=Option.map_eq_some_iff.1 hz
  have h0':0<len:=by rwa [Nat.blt_eq] at h0
  have hlen:ds.length=n*1:=by subst hd;rw [List.length_take,List.length_drop];omega
  refine ⟨.slice (some ⟨b,base+off,none⟩) n len,?_,.pu (.sl (f:=fun j=>f (off+j)) hlen hn hm hb hw (fun j hj => ?_) fun j hj => ?_)⟩
  ·simp only [execOp,ho,h2]
   refine Yd ?_
   have r2:(Instr.sliceBound (a.eval y) len .sliceAlen).run P w = .ok n w:=by
    rw [hy];simp [Instr.sliceBound,asIntOf,hn]
   simp [Instr.sliceAt,run_underlying hu,Instr.sureAddr,Instr.sliceBounds,sizeOf,typeInfo,hi,r2,Addr.add_mid]
  ·subst hd
   obtain ⟨h5,_⟩:=Y8 cs off _ j hj
   rw [Nat.add_assoc];exact hf _ h5
  subst hd
  obtain ⟨h5,h6⟩:=Y8 cs off _ j hj
  rw [h6];exact hp _ h5
end
def midF (A:List AV) (n:Nat) (g:Nat→AV) (C:List AV):List AV:=A++((List.range n).map g++C)
variable {A C:List AV}
theorem midF_len {g:Nat→AV}:(midF A n g C).length=A.length+(n+C.length):=by simp [midF]
variable {i o:Nat}
theorem midF_get {g:Nat→AV} (hi:i<n) (ho:A.length+i=o):(midF A n g C)[o]? = some (g i):=by
 subst ho
 unfold midF
 rw [List.getElem?_append_right (by omega),Nat.add_sub_cancel_left,List.getElem?_append_left (by simpa using hi),List.getElem?_map,List.getElem?_range hi]
 rfl
variable {X:AV}
theorem midF_set {g g':Nat→AV} (hi:i<n) (ho:A.length+i=o) (h1:g' i=X) (h2:∀ j,j<n→j≠i→g' j=g j):setAll (midF A n g C) o [X]=midF A n g' C:=by
 subst ho
 show (midF A n g C).set (A.length+i) X=_
 unfold midF
 rw [List.set_append_right _ _ (by omega),Nat.add_sub_cancel_left,List.set_append_left _ _ (by simpa using hi)]
 congr 2
 apply List.ext_getElem (by simp)
 intro j a b
 have hj:j<n:=by simpa using b
 rw [List.getElem_set]
 split
 ·subst_vars;simp
 rename_i hne;simp [h2 j hj (fun e=>hne e.symm)]
theorem midF_congr {g g':Nat→AV} (h:∀ j,j<n→g' j=g j):midF A n g' C=midF A n g C:=by
 unfold midF
 congr 2
 apply List.map_congr_left
 intro j hj
 exact h j (List.mem_range.1 hj)
end Go.Proofs.YtdbehgbggaaipaaGreat
namespace Go.Proofs.YtdbehgbggaaipaaGreat
def shpF:List Int→Int→Bool
 | [],m=>decide (m=0)
 | c::cs,m=>if m=0 then false else if c≠0∧c≠2 then false else shpF cs (m+c-1)
def shp (xs:List Int):Bool:=shpF xs 1
structure TS where
 fi:Nat→Int
 se:Nat→Int
 pa:Nat→Int
 wt:List Nat
def tkid (s:TS) (i:Nat):TS :=
 match s.wt.getLast? with
 | none=>⟨up s.fi i (-1),up s.se i (-1),up s.pa i (-1),s.wt⟩
 | some p=>if up s.fi i (-1) p<0 then ⟨up (up s.fi i (-1)) p i,up s.se i (-1),up (up s.pa i (-1)) i p,s.wt⟩ else ⟨up s.fi i (-1),up (up s.se i (-1)) p i,up (up s.pa i (-1)) i p,s.wt.dropLast⟩
def tstep (s:TS) (i:Nat) (c:Int):TS:=if c=2 then ⟨(tkid s i).fi,(tkid s i).se,(tkid s i).pa,(tkid s i).wt++[i]⟩ else tkid s i
def trun (xs:List Int):Nat→TS
 | 0=>⟨fun _=>0,fun _=>0,fun _=>0,[]⟩
 | k+1=>tstep (trun xs k) k (xs.getD k 0)
def lack (fi:Nat→Int) (p:Nat):Int:=if fi p<0 then 2 else 1
def lacks (fi:Nat→Int) (w:List Nat):Int:=(w.map (lack fi)).sum
structure TI (s:TS) (k:Nat) (m:Int):Prop where
 par:∀ j,j<k→s.pa j = -1∨∃ p:Nat,p<k∧s.pa j=p∧(s.fi p=j∨s.se p=j)
 fst:∀ p,p<k→s.fi p = -1∨∃ j:Nat,j<k∧s.fi p=j∧s.pa j=p
 snd:∀ p,p<k→s.se p = -1∨∃ j:Nat,j<k∧s.se p=j∧s.pa j=p
 wlt:∀ p∈s.wt,p<k∧s.se p = -1
 asc:s.wt.Pairwise (· < ·)
 two:∀ p,p<k→p ∉ s.wt→(s.fi p = -1↔s.se p = -1)
 cnt:m=if k=0 then 1 else lacks s.fi s.wt
theorem Zas {f g:Nat→Int} {w:List Nat} (h:∀ p∈w,f p=g p):lacks f w=lacks g w:=by
 unfold lacks;rw [List.map_congr_left (fun p hp=>show lack f p=lack g p by unfold lack;rw [h p hp])]
theorem Wg (f:Nat→Int) (w:List Nat) (i:Nat):lacks f (w++[i])=lacks f w+lack f i:=by simp [lacks]
theorem Kt (f:Nat→Int):lacks f []=0:=rfl
theorem lack_pos (f:Nat→Int) (p:Nat):1≤lack f p:=by unfold lack;split<;>omega
theorem Za2 (f:Nat→Int):∀ w:List Nat,0≤lacks f w
 | []=>by simp [lacks]
 | p::w=>by
   have:=Za2 f w
   have:=lack_pos f p
   simp only [lacks,List.map_cons,List.sum_cons] at *
   omega
theorem lacks_zero (f:Nat→Int):∀ w:List Nat,lacks f w=0→w=[]
 | [],_=>rfl
 | p::w,h=>by
   have:=Za2 f w
   have:=lack_pos f p
   simp only [lacks,List.map_cons,List.sum_cons] at *
   omega
variable {k:Nat}{m:Int}
theorem kid_ok {s:TS} (h:TI s k m) (hm:m≠0) : 
 (∀ j,j<k+1→(tkid s k).pa j = -1∨∃ p:Nat,p<k+1∧(tkid s k).pa j=p∧((tkid s k).fi p=j∨(tkid s k).se p=j)) ∧
 (∀ p,p<k+1→(tkid s k).fi p = -1∨∃ j:Nat,j<k+1∧(tkid s k).fi p=j∧(tkid s k).pa j=p) ∧
 (∀ p,p<k+1→(tkid s k).se p = -1∨∃ j:Nat,j<k+1∧(tkid s k).se p=j∧(tkid s k).pa j=p) ∧
 (∀ p∈(tkid s k).wt,p<k∧(tkid s k).se p = -1)∧(tkid s k).wt.Pairwise (· < ·) ∧
 (∀ p,p<k→p ∉ (tkid s k).wt→((tkid s k).fi p = -1↔(tkid s k).se p = -1)) ∧
 (tkid s k).fi k = -1∧(tkid s k).se k = -1∧lacks (tkid s k).fi (tkid s k).wt=m-1:=by
 obtain ⟨par,fst,snd,wlt,asc,two,cnt⟩:=h
 rcases hw:s.wt.getLast? with _ | p
 ·have hnil:s.wt=[]:=by simpa using hw
  have hk:k=0:=by
   by_cases e:k=0
   ·exact e
   rw [if_neg e,hnil,Kt] at cnt;exact absurd cnt hm
  subst hk
  rw [if_pos rfl] at cnt
  have ht:tkid s 0=⟨up s.fi 0 (-1),up s.se 0 (-1),up s.pa 0 (-1),s.wt⟩:=by unfold tkid;rw [hw]
  rw [ht]
  dsimp only
  rw [hnil]
  refine ⟨fun j hj => .inl ?_,fun j hj => .inl ?_,fun j hj => .inl ?_,by simp,by simp,fun p hp=>by omega,Yy _ _ _,Yy _ _ _,by rw [Kt];omega⟩ <;>
   (obtain rfl:j=0:=by omega
    exact Yy _ _ _)
 obtain ⟨ys,hys⟩:∃ ys,s.wt=ys++[p]:=List.getLast?_eq_some_iff.1 hw
 have hpm:p∈s.wt:=by rw [hys];simp
 obtain ⟨hpk,hpse⟩:=wlt p hpm
 have hk0:k≠0:=by omega
 have hnek:p≠k:=by omega
 rw [if_neg hk0] at cnt
 have hys_lt:∀ q∈ys,q<p:=by
  rw [hys,List.pairwise_append] at asc
  exact fun q hq=>asc.2.2 q hq p (by simp)
 have hysm:∀ q∈ys,q<k∧s.se q = -1:=fun q hq=>wlt q (by rw [hys];simp [hq])
 have hfp:up s.fi k (-1) p=s.fi p:=Kb _ _ hnek
 by_cases hf:s.fi p<0
 ·have ht:tkid s k=⟨up (up s.fi k (-1)) p k,up s.se k (-1),up (up s.pa k (-1)) k p,s.wt⟩:=by unfold tkid;rw [hw];dsimp only;rw [hfp,if_pos hf]
  have hfm:s.fi p = -1:=by
   rcases fst p hpk with e | ⟨j,_,e,_⟩
   ·exact e
   omega
  rw [ht]
  dsimp only
  have pak:up (up s.pa k (-1)) k p k=p:=Yy _ _ _
  have paj:∀ j,j≠k→up (up s.pa k (-1)) k p j=s.pa j:=fun j hj=>by rw [Kb _ _ hj,Kb _ _ hj]
  have fik:up (up s.fi k (-1)) p k p=k:=Yy _ _ _
  have fij:∀ j,j≠p→j≠k→up (up s.fi k (-1)) p k j=s.fi j:=fun j hj hk=>by rw [Kb _ _ hj,Kb _ _ hk]
  have fikk:up (up s.fi k (-1)) p k k = -1:=by rw [Kb _ _ (Ne.symm hnek),Yy]
  have sek:up s.se k (-1) k = -1:=Yy _ _ _
  have sej:∀ j,j≠k→up s.se k (-1) j=s.se j:=fun j hj=>Kb _ _ hj
  refine ⟨fun j hj => ?_,fun q hq => ?_,fun q hq => ?_,fun q hq => ?_,asc,fun q hq hqw => ?_,fikk,sek,?_⟩
  ·by_cases e:j=k
   ·subst e;exact .inr ⟨p,by omega,pak,.inl fik⟩
   rcases par j (by omega) with e1 | ⟨q,h1,h2,h3⟩
   ·exact .inl (by rw [paj j e];exact e1)
   refine .inr ⟨q,by omega,by rw [paj j e];exact h2,?_⟩
   rw [sej q (by omega)]
   by_cases eq:q=p
   ·subst eq
    rcases h3 with h3 | h3
    ·omega
    exact .inr h3
   rw [fij q eq (by omega)];exact h3
  ·by_cases e:q=p
   ·subst e;exact .inr ⟨k,by omega,fik,pak⟩
   by_cases e2:q=k
   ·subst e2;exact .inl fikk
   rw [fij q e e2]
   rcases fst q (by omega) with e1 | ⟨j,h1,h2,h3⟩
   ·exact .inl e1
   exact .inr ⟨j,by omega,h2,by rw [paj j (by omega)];exact h3⟩
  ·by_cases e2:q=k
   ·subst e2;exact .inl sek
   rw [sej q e2]
   rcases snd q (by omega) with e1 | ⟨j,h1,h2,h3⟩
   ·exact .inl e1
   exact .inr ⟨j,by omega,h2,by rw [paj j (by omega)];exact h3⟩
  ·have:=wlt q hq
   exact ⟨this.1,by rw [sej q (by omega)];exact this.2⟩
  ·have hqp:q≠p:=fun e=>hqw (e ▸ hpm)
   rw [fij q hqp (by omega),sej q (by omega)]
   exact two q hq hqw
  rw [cnt,hys,Wg,Wg,Zas (g:=s.fi) (fun q hq=>fij q (by have:=hys_lt q hq;omega) (by have:=(hysm q hq).1;omega))]
  unfold lack
  rw [fik,if_neg (by omega),if_pos hf];omega
 have ht:tkid s k=⟨up s.fi k (-1),up (up s.se k (-1)) p k,up (up s.pa k (-1)) k p,s.wt.dropLast⟩:=by unfold tkid;rw [hw];dsimp only;rw [hfp,if_neg hf]
 have hdl:s.wt.dropLast=ys:=by rw [hys];simp
 rw [ht,hdl]
 dsimp only
 have pak:up (up s.pa k (-1)) k p k=p:=Yy _ _ _
 have paj:∀ j,j≠k→up (up s.pa k (-1)) k p j=s.pa j:=fun j hj=>by rw [Kb _ _ hj,Kb _ _ hj]
 have sep:up (up s.se k (-1)) p k p=k:=Yy _ _ _
 have sej:∀ j,j≠p→j≠k→up (up s.se k (-1)) p k j=s.se j:=fun j hj hk=>by rw [Kb _ _ hj,Kb _ _ hk]
 have sek:up (up s.se k (-1)) p k k = -1:=by rw [Kb _ _ (Ne.symm hnek),Yy]
 have fik:up s.fi k (-1) k = -1:=Yy _ _ _
 have fij:∀ j,j≠k→up s.fi k (-1) j=s.fi j:=fun j hj=>Kb _ _ hj
 refine ⟨fun j hj => ?_,fun q hq => ?_,fun q hq => ?_,fun q hq => ?_,?_,fun q hq hqw => ?_,fik,sek,?_⟩
 ·by_cases e:j=k
  ·subst e;exact .inr ⟨p,by omega,pak,.inr sep⟩
  rcases par j (by omega) with e1 | ⟨q,h1,h2,h3⟩
  ·exact .inl (by rw [paj j e];exact e1)
  refine .inr ⟨q,by omega,by rw [paj j e];exact h2,?_⟩
  rw [fij q (by omega)]
  by_cases eq:q=p
  ·subst eq
   rcases h3 with h3 | h3
   ·exact .inl h3
   omega
  rw [sej q eq (by omega)];exact h3
 ·by_cases e2:q=k
  ·subst e2;exact .inl fik
  rw [fij q e2]
  rcases fst q (by omega) with e1 | ⟨j,h1,h2,h3⟩
  ·exact .inl e1
  exact .inr ⟨j,by omega,h2,by rw [paj j (by omega)];exact h3⟩
 ·by_cases e:q=p
  ·subst e;exact .inr ⟨k,by omega,sep,pak⟩
  by_cases e2:q=k
  ·subst e2;exact .inl sek
  rw [sej q e e2]
  rcases snd q (by omega) with e1 | ⟨j,h1,h2,h3⟩
  ·exact .inl e1
  exact .inr ⟨j,by omega,h2,by rw [paj j (by omega)];exact h3⟩
 ·have h1:=hysm q hq
  have h2:=hys_lt q hq
  exact ⟨h1.1,by rw [sej q (by omega) (by omega)];exact h1.2⟩
 ·rw [hys,List.pairwise_append] at asc;exact asc.1
 ·by_cases e:q=p
  ·subst e
   rw [fij q (by omega),sep]
   omega
  rw [fij q (by omega),sej q e (by omega)]
  exact two q hq (by rw [hys];simp [hqw,e])
 rw [cnt,hys,Wg,Zas (g:=s.fi) (fun q hq=>fij q (by have:=(hysm q hq).1;omega))]
 unfold lack
 rw [if_neg hf];omega
variable {c:Int}
theorem step_ok {s:TS} (h:TI s k m) (hm:m≠0) (hc:c=0∨c=2):TI (tstep s k c) (k+1) (m+c-1):=by
 obtain ⟨par,fst,snd,wlt,asc,two,fk,sk,cnt⟩:=kid_ok h hm
 unfold tstep
 rcases hc with rfl | rfl
 ·rw [if_neg (by omega)]
  refine ⟨par,fst,snd,fun p hp=>⟨by have:=(wlt p hp).1;omega,(wlt p hp).2⟩,asc,fun p hp hw => ?_,by rw [if_neg (by omega),cnt];omega⟩
  by_cases e:p=k
  ·subst e;rw [fk,sk]
  exact two p (by omega) hw
 rw [if_pos rfl]
 refine ⟨par,fst,snd,fun p hp => ?_,?_,fun p hp hw => ?_,?_⟩
 ·rcases List.mem_append.1 hp with hp | hp
  ·exact ⟨by have:=(wlt p hp).1;omega,(wlt p hp).2⟩
  obtain rfl:p=k:=by simpa using hp
  exact ⟨by omega,sk⟩
 ·refine List.pairwise_append.2 ⟨asc,by simp,fun a ha b hb => ?_⟩
  obtain rfl:b=k:=by simpa using hb
  exact (wlt a ha).1
 ·have h1:p ∉ (tkid s k).wt∧p≠k:=by simpa [not_or] using hw
  exact two p (by omega) h1.1
 rw [if_neg (by omega)]
 dsimp only
 rw [Wg,cnt]
 unfold lack
 rw [fk];simp;omega
theorem run_ok (xs:List Int) (hs:shp xs=true):∀ k,k≤xs.length→∃ m,TI (trun xs k) k m∧shpF (xs.drop k) m=true
 | 0,_=>⟨1,⟨fun _ h=>by omega,fun _ h=>by omega,fun _ h=>by omega,fun _ h=>by simp [trun] at h,by simp [trun],fun _ h=>by omega,by simp⟩,by simpa [shp] using hs⟩
 | k+1,hk=>by
   obtain ⟨m,hI,hF⟩:=run_ok xs hs k (by omega)
   have hd:xs.drop k=xs[k]'(by omega)::xs.drop (k+1):=List.drop_eq_getElem_cons (by omega)
   rw [hd,shpF] at hF
   by_cases h0:m=0
   ·rw [if_pos h0] at hF;cases hF
   rw [if_neg h0] at hF
   by_cases h1:xs[k]'(by omega)≠0∧xs[k]'(by omega)≠2
   ·rw [if_pos h1] at hF;cases hF
   rw [if_neg h1] at hF
   refine ⟨_,?_,hF⟩
   have hg:xs.getD k 0=xs[k]'(by omega):=by simp [List.getD,List.getElem?_eq_getElem (show k<xs.length by omega)]
   show TI (tstep (trun xs k) k (xs.getD k 0)) (k+1) _
   rw [hg]
   exact step_ok hI h0 (by omega)
def treeL (xs:List Int) (i:Nat):Int × Int × Int:=((trun xs xs.length).fi i,(trun xs xs.length).se i,(trun xs xs.length).pa i)
theorem Zbl (xs:List Int) (hs:shp xs=true):TI (trun xs xs.length) xs.length 0∧(trun xs xs.length).wt=[]:=by
 obtain ⟨m,hI,hF⟩:=run_ok xs hs xs.length (Nat.le_refl _)
 rw [List.drop_length] at hF
 have hm:m=0:=by simpa [shpF] using hF
 subst hm
 refine ⟨hI,?_⟩
 have hc:=hI.cnt
 by_cases h0:xs.length=0
 ·have:xs=[]:=List.eq_nil_of_length_eq_zero h0
  subst this
  rfl
 rw [if_neg h0] at hc;exact lacks_zero _ _ hc.symm
def rowL (top count i:Int):Int × Int × Int :=
 (if top=3∧i=0 then count-1 else i-1,if i=count-1 then (if top=3 then 0 else -1) else i+1,-1)
def nbr (top:Int) (xs:List Int) (count i:Int):Int × Int × Int :=
 if 0≤i∧i<count then (if top=2∨top=3 then rowL top count i else if top=4∧(xs.length:Int)=count∧shp xs=true then treeL xs i.toNat else (-1,-1,-1)) else (-1,-1,-1)
end Go.Proofs.YtdbehgbggaaipaaGreat
namespace Go.Proofs.YtdbehgbggaaipaaGreat
open Go.RowKit Go.Deep
set_option maxHeartbeats 12800000
def cf (s:TS) (j:Nat):Int:=if j % 3=0 then s.fi (j / 3) else if j % 3=1 then s.se (j / 3) else s.pa (j / 3)
theorem cf_fi (s:TS) (i:Nat):cf s (i*3)=s.fi i:=by unfold cf;rw [if_pos (by omega)];congr 1;omega
theorem cf_se (s:TS) (i:Nat):cf s (i*3+1)=s.se i:=by unfold cf;rw [if_neg (by omega),if_pos (by omega)];congr 1;omega
theorem cf_pa (s:TS) (i:Nat):cf s (i*3+2)=s.pa i:=by unfold cf;rw [if_neg (by omega),if_neg (by omega)];congr 1;omega
theorem up_fi (s:TS) (i:Nat) (v:Int):up (cf s) (i*3) v=cf ⟨up s.fi i v,s.se,s.pa,s.wt⟩:=by
 funext j;unfold up cf
 by_cases e:j=i*3
 ·subst e;rw [if_pos rfl,if_pos (by omega)];dsimp only;rw [if_pos (by omega)]
 rw [if_neg e];split
 ·dsimp only;rw [if_neg (by omega)]
 rfl
theorem up_se (s:TS) (i:Nat) (v:Int):up (cf s) (i*3+1) v=cf ⟨s.fi,up s.se i v,s.pa,s.wt⟩:=by
 funext j;unfold up cf
 by_cases e:j=i*3+1
 ·subst e;rw [if_pos rfl,if_neg (by omega),if_pos (by omega)];dsimp only;rw [if_pos (by omega)]
 rw [if_neg e];split
 ·rfl
 split
 ·dsimp only;rw [if_neg (by omega)]
 rfl
theorem up_pa (s:TS) (i:Nat) (v:Int):up (cf s) (i*3+2) v=cf ⟨s.fi,s.se,up s.pa i v,s.wt⟩:=by
 funext j;unfold up cf
 by_cases e:j=i*3+2
 ·subst e;rw [if_pos rfl,if_neg (by omega),if_neg (by omega)];dsimp only;rw [if_pos (by omega)]
 rw [if_neg e];split
 ·rfl
 split
 ·rfl
 dsimp only;rw [if_neg (by omega)]
theorem info_link:(Tryz.prog.info? 90).map (fun i=>(i.zero,i.size,i.bytes))=some (some (.agg #[.int .i64 0,.int .i64 0,.int .i64 0]),3,24):=by kernel_rfl
theorem elInt:ElT Tryz.prog 24 3 (.int .i64 0) 1 8:=⟨Tryz.underlying24,by kernel_rfl,rfl,by decide⟩
theorem Zaj (b off n cap:Nat) (w:World) (xs:List Int) (hx:xs.length=n) (hn:n≤100) (h0:0<n)
 (hc:∀ i,i<n→w.cell? ⟨b,off+i,none⟩=some (.int .i64 (xs.getD i 0))) :
 Calls Tryz.prog 36 #[.slice (some ⟨b,off,none⟩) n cap] w fun e w'=>∃ g,e = .returned (.slice (some ⟨g,0,none⟩) n n)∧OwnF w.heap.size w' g (n*3) (cf (trun xs n))∧Below w.heap.size w w':=by
 have HC:=Lib.hid hc
 have HX:=Lib.hid hx
 clear hc hx
 have hmk:=make_n (P:=Tryz.prog) 93 90 _ 3 24 Tryz.underlying93 info_link n (by omega) (by omega)
 go_enter Tryz.func36,Tryz.ntmps36
 go_wp2_with fail
 have HO0:Hid (OwnF w.heap.size (w.alloc (.cells (madeCells #[Value.int IntKind.i64 0,Value.int IntKind.i64 0,Value.int IntKind.i64 0] (n*3)) 90)) w.heap.size (n*3) (cf (trun xs 0))):=by
  refine ⟨Nat.le_refl _,_,_,heap_alloc_new _ _,fun j hj=>made_get _ _ _ _ hj ?_⟩
  have h3:j % 3=0∨j % 3=1∨j % 3=2:=by omega
  unfold cf trun
  rcases h3 with h | h | h<;>simp [h]
 go_loopw [4,14] (fun v u wr=>∃ (k:Nat) (av:Option Addr) (cv:Nat),k≤n∧u = .int .i64 k∧v = .slice av (trun xs k).wt.length cv∧OwnF w.heap.size wr w.heap.size (n*3) (cf (trun xs k))∧wr.ownsRow (w.heap.size+1) 3 1 (.slice av (trun xs k).wt.length cv) (trun xs k).wt.length ((trun xs k).wt.map fun p:Nat=>Value.int .i64 p)∧(∀ p∈(trun xs k).wt,p<k)∧(trun xs k).wt.length≤k∧Below w.heap.size w wr) (fun _ u _=>n-(intOf u).toNat)
 case atStart=>exact ⟨0,_,_,Nat.zero_le _,rfl,rfl,HO0.out,World.ownsRow_nil _ _ _ _,by simp [trun],by simp [trun],Zd _ _⟩
 case round =>
  obtain ⟨k,av,cv,hk,rfl,rfl,hO,hR,hW,hL,hB⟩:=hrel
  have HO:=Lib.hid hO
  have HR:=Lib.hid hR
  have HW:=Lib.hid hW
  have HB:=Lib.hid hB
  by_cases hlt:k<n
  ·have g1:wr.cell? ⟨b,off+k,none⟩=some (.int .i64 (xs.getD k 0)):=keep1 (HC.out k hlt) hB
   have hT:trun xs (k+1)=tstep (trun xs k) k (xs.getD k 0):=rfl
   have HT:=Lib.hid hT
   generalize hX:xs.getD k 0=x at g1 HT
   generalize hS:trun xs k=s at HO HR HW HT hL
   have f0:=HO.out.cell (k*3) (by omega)
   have f1:=HO.out.cell (k*3+1) (by omega)
   have f2:=HO.out.cell (k*3+2) (by omega)
   have z0:=HO.out.frozen (k*3)
   have z1:=HO.out.frozen (k*3+1)
   have z2:=HO.out.frozen (k*3+2)
   have zz:=HO.out.lt
   clear hX hS hT hO hR hW hB
   rcases hw:s.wt.getLast? with _ | p
   ·have hnil:s.wt=[]:=by simpa using hw
    have hl0:s.wt.length=0:=by rw [hnil];rfl
    have HNil:=Lib.hid hnil
    have HW0:=Lib.hid hw
    rw [hl0] at HR ⊢
    clear hnil hl0 hw
    have HS:Hid (OwnF w.heap.size (((wr.setCell ⟨w.heap.size,k*3,none⟩ (.int .i64 (-1))).setCell ⟨w.heap.size,k*3+1,none⟩ (.int .i64 (-1))).setCell ⟨w.heap.size,k*3+2,none⟩ (.int .i64 (-1))) w.heap.size (n*3) (cf (tkid s k))):=by
     have:=((HO.out.set (k*3) (-1)).set (k*3+1) (-1)).set (k*3+2) (-1)
     rw [up_fi,up_se,up_pa] at this
     show OwnF _ _ _ _ _
     unfold tkid
     rw [HW0.out]
     exact this
    have HK:Hid ((tkid s k).wt=[]):=by
     show (tkid s k).wt=[]
     unfold tkid
     rw [HW0.out]
     exact HNil.out
    have HR2:Hid ((((wr.setCell ⟨w.heap.size,k*3,none⟩ (.int .i64 (-1))).setCell ⟨w.heap.size,k*3+1,none⟩ (.int .i64 (-1))).setCell ⟨w.heap.size,k*3+2,none⟩ (.int .i64 (-1))).ownsRow (w.heap.size+1) 3 1 (.slice av 0 cv) 0 []):=by
     have h:=HR.out
     rw [HNil.out] at h
     exact ownsRow_setCell_below (ownsRow_setCell_below (ownsRow_setCell_below h (by simp) _) (by simp) _) (by simp) _
    by_cases x2:x=2
    ·subst x2
     go_wp2_with (at_builtin;refine KJ elInt (by rfl) (.tmp 58) (.tmp 60) (by rfl) (w.heap.size+1) _ 0 [] [.int .i64 k] wr.heap.size (by rfl) (by rfl) (by simp) HR2.out (by rfl) (by intro u hu;simp at hu;subst hu;rfl) (by omega) (by unfold maxLen;omega) (by omega) (by rfl) ?_;intro g cap w1 hown hgrow hat hlo hlt hsz)
     go_roundw
     case rel =>
      have hTS:trun xs (k+1)=⟨(tkid s k).fi,(tkid s k).se,(tkid s k).pa,[k]⟩:=by rw [HT.out];unfold tstep;rw [if_pos rfl,HK.out];rfl
      refine ⟨k+1,some ⟨g,0,none⟩,cap,by omega,by go_num,?_,?_,?_,?_,?_,?_⟩
      all_goals (try rw [hTS])
      ·rfl
      ·exact HS.out.grown hgrow (fun e=>by have:=(HR2.out.lt _ e).1;omega)
      ·exact hown
      ·simp
      ·simp
      exact (((HB.out.setCell (by simp) _).setCell (by simp) _).setCell (by simp) _).grown hgrow (by simp;omega) (fun k hk=>by have:=(HR2.out.lt _ hk).1;omega)
     case measure=>simp [intOf];omega
    have x3:(x==2)=false:=by simpa using x2
    have X2:=Lib.hid x2
    clear x2
    go_wp2_with fail
    go_roundw
    case rel =>
     have hTS:trun xs (k+1)=tkid s k:=by rw [HT.out];unfold tstep;rw [if_neg X2.out]
     refine ⟨k+1,av,cv,by omega,by go_num,?_,?_,?_,?_,?_,((HB.out.setCell (by simp) _).setCell (by simp) _).setCell (by simp) _⟩
     all_goals rw [hTS]
     ·rw [HK.out];rfl
     ·exact HS.out
     ·rw [HK.out];exact HR2.out
     ·rw [HK.out];simp
     rw [HK.out];simp
    case measure=>simp [intOf];omega
   obtain ⟨ys,hys⟩:∃ ys,s.wt=ys++[p]:=List.getLast?_eq_some_iff.1 hw
   have hpk:p<k:=HW.out p (by rw [hys];simp)
   have hl1:s.wt.length=ys.length+1:=by rw [hys];simp
   have hyl:ys.length+1≤k:=by omega
   have HY:=Lib.hid hys
   have HW0:=Lib.hid hw
   rw [hl1] at HR ⊢
   obtain ⟨gw,rfl,hgw,hgs,hcv,hcm,hcells⟩:=row_last HR.out
   have q1:wr.cell? ⟨gw,ys.length,none⟩=some (.int .i64 p):=by rw [hcells _ (by omega),HY.out];simp
   have q2:wr.cell? ⟨w.heap.size,p*3,none⟩=some (.int .i64 (s.fi p)):=by rw [← cf_fi];exact HO.out.cell _ (by omega)
   have q3:wr.cell? ⟨w.heap.size,p*3+1,none⟩=some (.int .i64 (s.se p)):=by rw [← cf_se];exact HO.out.cell _ (by omega)
   have q4:=HO.out.frozen (p*3)
   have q5:=HO.out.frozen (p*3+1)
   have n1:p*3≠k*3:=by omega
   have n2:p*3≠k*3+1:=by omega
   have n3:p*3≠k*3+2:=by omega
   have n4:p*3+1≠k*3:=by omega
   have n5:p*3+1≠k*3+1:=by omega
   have n6:p*3+1≠k*3+2:=by omega
   have n7:gw≠w.heap.size:=by omega
   have CM:=Lib.hid hcm
   unfold maxLen at hcm
   clear hys hl1 hw hcells hL
   by_cases hf:s.fi p<0
   ·have HK:Hid ((tkid s k).wt=s.wt):=by
     show (tkid s k).wt=s.wt
     unfold tkid
     rw [HW0.out]
     dsimp only
     rw [Kb _ _ (by omega:p≠k),if_pos hf]
    have HS:Hid (OwnF w.heap.size (((((wr.setCell ⟨w.heap.size,k*3,none⟩ (.int .i64 (-1))).setCell ⟨w.heap.size,k*3+1,none⟩ (.int .i64 (-1))).setCell ⟨w.heap.size,k*3+2,none⟩ (.int .i64 (-1))).setCell ⟨w.heap.size,k*3+2,none⟩ (.int .i64 p)).setCell ⟨w.heap.size,p*3,none⟩ (.int .i64 k)) w.heap.size (n*3) (cf (tkid s k))):=by
     have:=((((HO.out.set (k*3) (-1)).set (k*3+1) (-1)).set (k*3+2) (-1)).set (k*3+2) p).set (p*3) k
     rw [up_fi,up_se,up_pa,up_pa,up_fi] at this
     show OwnF _ _ _ _ _
     unfold tkid
     rw [HW0.out]
     dsimp only
     rw [Kb _ _ (by omega:p≠k),if_pos hf]
     exact this
    have HL:Hid (s.wt.length=(ys.length+1)):=by
     show _=_
     rw [HY.out];simp
    have HR2:Hid ((((((wr.setCell ⟨w.heap.size,k*3,none⟩ (.int .i64 (-1))).setCell ⟨w.heap.size,k*3+1,none⟩ (.int .i64 (-1))).setCell ⟨w.heap.size,k*3+2,none⟩ (.int .i64 (-1))).setCell ⟨w.heap.size,k*3+2,none⟩ (.int .i64 p)).setCell ⟨w.heap.size,p*3,none⟩ (.int .i64 k)).ownsRow (w.heap.size+1) 3 1 (.slice (some ⟨gw,0,none⟩) (ys.length+1) cv) (ys.length+1) (s.wt.map fun p:Nat=>Value.int .i64 p)):=by
     exact ownsRow_setCell_below (ownsRow_setCell_below (ownsRow_setCell_below (ownsRow_setCell_below (ownsRow_setCell_below HR.out (by simp) _) (by simp) _) (by simp) _) (by simp) _) (by simp) _
    have HM:Hid (∀ q∈s.wt,q<k):=fun q hq=>HW.out q (by exact hq)
    by_cases x2:x=2
    ·subst x2
     go_wp2_with (at_builtin;refine KJ elInt (by rfl) (.tmp 58) (.tmp 60) (by rfl) (w.heap.size+1) _ (ys.length+1) _ [.int .i64 k] wr.heap.size (by rfl) (by rfl) (by simp) HR2.out (by rfl) (by intro u hu;simp at hu;subst hu;rfl) (by omega) (by unfold maxLen;omega) (by omega) (by rfl) ?_;intro g cap w1 hown hgrow hat hlo hlt hsz)
     go_roundw
     case rel =>
      have hTS:trun xs (k+1)=⟨(tkid s k).fi,(tkid s k).se,(tkid s k).pa,s.wt++[k]⟩:=by rw [HT.out];unfold tstep;rw [if_pos rfl,HK.out]
      have hln:(s.wt++[k]).length=(ys.length+1)+1:=by rw [List.length_append,HL.out];rfl
      refine ⟨k+1,some ⟨g,0,none⟩,cap,by omega,by go_num,?_,?_,?_,?_,?_,(((((HB.out.setCell (by simp) _).setCell (by simp) _).setCell (by simp) _).setCell (by simp) _).setCell (by simp) _).grown hgrow (by simp;omega) (fun k hk=>by have:=(HR2.out.lt _ hk).1;omega)⟩
      all_goals rw [hTS]
      ·dsimp only;rw [hln]
      ·exact HS.out.grown hgrow (fun e=>by have:=(HR2.out.lt _ e).1;omega)
      ·dsimp only;rw [hln,List.map_append];exact hown
      ·intro q hq
       rcases List.mem_append.1 hq with hq | hq
       ·have:=HM.out q hq;omega
       obtain rfl:q=k:=by simpa using hq
       omega
      dsimp only;rw [hln];omega
     case measure=>simp [intOf];omega
    have x3:(x==2)=false:=by simpa using x2
    have X2:=Lib.hid x2
    clear x2
    go_wp2_with fail
    go_roundw
    case rel =>
     have hTS:trun xs (k+1)=tkid s k:=by rw [HT.out];unfold tstep;rw [if_neg X2.out]
     refine ⟨k+1,some ⟨gw,0,none⟩,cv,by omega,by go_num,?_,?_,?_,?_,?_,((((HB.out.setCell (by simp) _).setCell (by simp) _).setCell (by simp) _).setCell (by simp) _).setCell (by simp) _⟩
     all_goals rw [hTS]
     ·rw [HK.out,HL.out]
     ·exact HS.out
     ·rw [HK.out,HL.out];exact HR2.out
     ·rw [HK.out];exact fun q hq=>by have:=HM.out q hq;omega
     rw [HK.out,HL.out];omega
    case measure=>simp [intOf];omega
   have HK:Hid ((tkid s k).wt=ys):=by
    show (tkid s k).wt=ys
    unfold tkid
    rw [HW0.out]
    dsimp only
    rw [Kb _ _ (by omega:p≠k),if_neg hf]
    show s.wt.dropLast=ys;rw [HY.out];simp
   have HS:Hid (OwnF w.heap.size (((((wr.setCell ⟨w.heap.size,k*3,none⟩ (.int .i64 (-1))).setCell ⟨w.heap.size,k*3+1,none⟩ (.int .i64 (-1))).setCell ⟨w.heap.size,k*3+2,none⟩ (.int .i64 (-1))).setCell ⟨w.heap.size,k*3+2,none⟩ (.int .i64 p)).setCell ⟨w.heap.size,p*3+1,none⟩ (.int .i64 k)) w.heap.size (n*3) (cf (tkid s k))):=by
    have:=((((HO.out.set (k*3) (-1)).set (k*3+1) (-1)).set (k*3+2) (-1)).set (k*3+2) p).set (p*3+1) k
    rw [up_fi,up_se,up_pa,up_pa,up_se] at this
    show OwnF _ _ _ _ _
    unfold tkid
    rw [HW0.out]
    dsimp only
    rw [Kb _ _ (by omega:p≠k),if_neg hf]
    exact this
   have HL:Hid (ys.length=ys.length):=by
    show _=_
    rfl
   have HR2:Hid ((((((wr.setCell ⟨w.heap.size,k*3,none⟩ (.int .i64 (-1))).setCell ⟨w.heap.size,k*3+1,none⟩ (.int .i64 (-1))).setCell ⟨w.heap.size,k*3+2,none⟩ (.int .i64 (-1))).setCell ⟨w.heap.size,k*3+2,none⟩ (.int .i64 p)).setCell ⟨w.heap.size,p*3+1,none⟩ (.int .i64 k)).ownsRow (w.heap.size+1) 3 1 (.slice (some ⟨gw,0,none⟩) ys.length cv) ys.length (ys.map fun p:Nat=>Value.int .i64 p)):=by
    have h:=row_cut HR.out
    rw [HY.out,List.map_append,List.take_append_of_le_length (by simp),List.take_of_length_le (by simp)] at h
    exact ownsRow_setCell_below (ownsRow_setCell_below (ownsRow_setCell_below (ownsRow_setCell_below (ownsRow_setCell_below h (by simp) _) (by simp) _) (by simp) _) (by simp) _) (by simp) _
   have HM:Hid (∀ q∈ys,q<k):=fun q hq=>HW.out q (by rw [HY.out];simp [hq])
   by_cases x2:x=2
   ·subst x2
    go_wp2_with (at_builtin;refine KJ elInt (by rfl) (.tmp 58) (.tmp 60) (by rfl) (w.heap.size+1) _ ys.length _ [.int .i64 k] wr.heap.size (by rfl) (by rfl) (by simp) HR2.out (by rfl) (by intro u hu;simp at hu;subst hu;rfl) (by omega) (by unfold maxLen;omega) (by omega) (by rfl) ?_;intro g cap w1 hown hgrow hat hlo hlt hsz)
    go_roundw
    case rel =>
     have hTS:trun xs (k+1)=⟨(tkid s k).fi,(tkid s k).se,(tkid s k).pa,ys++[k]⟩:=by rw [HT.out];unfold tstep;rw [if_pos rfl,HK.out]
     have hln:(ys++[k]).length=ys.length+1:=by rw [List.length_append,HL.out];rfl
     refine ⟨k+1,some ⟨g,0,none⟩,cap,by omega,by go_num,?_,?_,?_,?_,?_,(((((HB.out.setCell (by simp) _).setCell (by simp) _).setCell (by simp) _).setCell (by simp) _).setCell (by simp) _).grown hgrow (by simp;omega) (fun k hk=>by have:=(HR2.out.lt _ hk).1;omega)⟩
     all_goals rw [hTS]
     ·dsimp only;rw [hln]
     ·exact HS.out.grown hgrow (fun e=>by have:=(HR2.out.lt _ e).1;omega)
     ·dsimp only;rw [hln,List.map_append];exact hown
     ·intro q hq
      rcases List.mem_append.1 hq with hq | hq
      ·have:=HM.out q hq;omega
      obtain rfl:q=k:=by simpa using hq
      omega
     dsimp only;rw [hln];omega
    case measure=>simp [intOf];omega
   have x3:(x==2)=false:=by simpa using x2
   have X2:=Lib.hid x2
   clear x2
   go_wp2_with fail
   go_roundw
   case rel =>
    have hTS:trun xs (k+1)=tkid s k:=by rw [HT.out];unfold tstep;rw [if_neg X2.out]
    refine ⟨k+1,some ⟨gw,0,none⟩,cv,by omega,by go_num,?_,?_,?_,?_,?_,((((HB.out.setCell (by simp) _).setCell (by simp) _).setCell (by simp) _).setCell (by simp) _).setCell (by simp) _⟩
    all_goals rw [hTS]
    ·rw [HK.out,HL.out]
    ·exact HS.out
    ·rw [HK.out,HL.out];exact HR2.out
    ·rw [HK.out];exact fun q hq=>by have:=HM.out q hq;omega
    rw [HK.out,HL.out];omega
   case measure=>simp [intOf];omega
  obtain rfl:k=n:=by omega
  go_wp2_with fail
  go_ret
  exact ⟨_,rfl,HO.out,HB.out⟩
def isShp (xs:List Int) (count:Int):Bool:=decide ((xs.length:Int)=count)&&shp xs
theorem Zd2 (b off n cap:Nat) (count:Int) (w:World) (xs:List Int) (hx:xs.length=n) (hn:n≤1000000)
 (hc:∀ i,i<n→w.cell? ⟨b,off+i,none⟩=some (.int .i64 (xs.getD i 0))) :
 Calls Tryz.prog 35 #[.slice (some ⟨b,off,none⟩) n cap,.int .i64 count] w fun e w'=>e = .returned (.bool (isShp xs count))∧w=w':=by
 have HC:=Lib.hid hc
 have HX:=Lib.hid hx
 clear hc hx
 by_cases hn':(n:Int)=count
 ·subst hn'
  go_enter Tryz.func35,Tryz.ntmps35
  go_wp2_with fail
  go_loop [5,14] (fun v u=>∃ (k:Nat) (m:Int),k≤n∧u = .int .i64 k∧v = .int .i64 m∧0≤m∧m≤k+1∧shpF (xs.drop k) m=shp xs) (fun _ u=>n-(intOf u).toNat)
  case atStart=>exact ⟨0,1,Nat.zero_le _,rfl,rfl,by omega,by omega,rfl⟩
  case round =>
   obtain ⟨k,m,hk,rfl,rfl,h0,h1,hs⟩:=hrel
   have HS:=Lib.hid hs
   clear hs
   by_cases hlt:k<n
   ·have g1:=HC.out k hlt
    have HD:=Lib.hid (show shpF (xs.drop k) m=if m=0 then false else if xs.getD k 0≠0∧xs.getD k 0≠2 then false else shpF (xs.drop (k+1)) (m+xs.getD k 0-1) by
     have hd:xs.drop k=xs[k]'(by rw [HX.out];exact hlt)::xs.drop (k+1):=List.drop_eq_getElem_cons _
     rw [hd,shpF,show xs.getD k 0=xs[k]'(by rw [HX.out];exact hlt) by simp [List.getD,List.getElem?_eq_getElem (show k<xs.length by rw [HX.out];exact hlt)]])
    generalize hX:xs.getD k 0=x at g1 HD
    clear hX
    by_cases m0:m=0
    ·subst m0
     go_wp2_with fail
     go_ret
     exact ⟨Zi (by unfold isShp;rw [← HS.out,HD.out];simp),rfl⟩
    have m1:(m==0)=false:=by simpa using m0
    have M0:=Lib.hid m0
    have m2:1≤m:=by omega
    clear m0
    by_cases x0:x=0
    ·subst x0
     go_wp2_with fail
     go_round
     case rel=>exact ⟨k+1,m-1,by omega,by go_num,by go_num,by omega,by omega,by rw [← HS.out,HD.out,if_neg M0.out,if_neg (by omega)];congr 1;omega⟩
     case measure=>simp [intOf];omega
    by_cases x2:x=2
    ·subst x2
     go_wp2_with fail
     go_round
     case rel=>exact ⟨k+1,m+1,by omega,by go_num,by go_num,by omega,by omega,by rw [← HS.out,HD.out,if_neg M0.out,if_neg (by omega)];congr 1;omega⟩
     case measure=>simp [intOf];omega
    have x3:(x != 0)=true:=by simpa using x0
    have x4:(x != 2)=true:=by simpa using x2
    have XX:=Lib.hid (And.intro x0 x2)
    clear x0 x2
    go_wp2_with fail
    go_ret
    exact ⟨Zi (by unfold isShp;rw [← HS.out,HD.out,if_neg M0.out,if_pos XX.out,Bool.and_false]),rfl⟩
   have HE:=Lib.hid (show shp xs=(m==0) by
    rw [← HS.out,List.drop_eq_nil_of_le (by rw [HX.out];omega),shpF];rfl)
   go_wp2_with fail
   go_ret
   exact ⟨Zi (by unfold isShp;rw [HX.out,decide_eq_true rfl,HE.out,Bool.true_and]),rfl⟩
 have e1:((n:Int)==count)=false:=by simpa using hn'
 have e2:((n:Int) != count)=true:=by simpa using hn'
 have HN:=Lib.hid hn'
 clear hn'
 go_enter Tryz.func35,Tryz.ntmps35
 go_wp2_with fail
 go_ret
 exact ⟨Zi (by unfold isShp;rw [HX.out,decide_eq_false HN.out];rfl),rfl⟩
theorem ZcY (a:Option Addr) (cap:Nat) (count:Int) (w:World) :
 Calls Tryz.prog 35 #[.slice a 0 cap,.int .i64 count] w fun e w'=>e = .returned (.bool (isShp [] count))∧w=w':=by
 by_cases hn:count=0
 ·subst hn
  go_enter Tryz.func35,Tryz.ntmps35
  go_wp2_with fail
  refine wp_loop_rounds 1 ?_
  rw [rounds_succ]
  go_wp2_with fail
  go_ret
  exact ⟨rfl,rfl⟩
 have e1:((0:Int)==count)=false:=by simp;omega
 have e2:((0:Int) != count)=true:=by simp;omega
 have HN:=Lib.hid hn
 clear hn
 go_enter Tryz.func35,Tryz.ntmps35
 go_wp2_with fail
 go_ret
 exact ⟨Zi (by unfold isShp;rw [decide_eq_false (by have:=HN.out;simp;omega)];rfl),rfl⟩
variable {lo:Nat}{w:World}{v:Value}{xs:List Int}
theorem WE (count:Int) (h:IsInts lo w v xs) (hn:xs.length≤1000000) :
 Calls Tryz.prog 35 #[v,.int .i64 count] w fun e w'=>e = .returned (.bool (isShp xs count))∧w=w':=by
 obtain ⟨a,cap,rfl,hl,hm,hi,hc⟩:=h
 rcases hc with rfl | ⟨b,off,rfl,_,_,hc⟩
 ·exact ZcY _ _ _ _
 exact Zd2 _ _ _ _ _ _ _ rfl hn hc
theorem Zad {a b c a' b' c':Int} (h:(a,b,c)=(a',b',c')):Ending.returned (.agg #[.int .i64 a,.int .i64 b,.int .i64 c]) = .returned (.agg #[.int .i64 a',.int .i64 b',.int .i64 c']):=by cases h;rfl
theorem Zap (top count i:Int) (w:World) (h0:0≤i) (h1:i<count) (hc:count≤9223372036854775807) :
 Calls Tryz.prog 34 #[.int .i64 top,.int .i64 count,.int .i64 i] w fun e w'=>e = .returned (.agg #[.int .i64 (rowL top count i).1,.int .i64 (rowL top count i).2.1,.int .i64 (rowL top count i).2.2])∧Below w.heap.size w w':=by
 have E:Hid (rowL top count i=(if top=3∧i=0 then count-1 else i-1,if i=count-1 then (if top=3 then 0 else -1) else i+1,-1)):=(rfl:rowL top count i=_)
 by_cases hl:i=count-1
 ·have b1:(i==count-1)=true:=by simpa using hl
  have HL:=Lib.hid hl
  clear hl
  by_cases ht:top=3
  ·subst ht
   by_cases hz:i=0
   ·subst hz
    go_enter Tryz.func34,Tryz.ntmps34
    go_wp2_with fail
    refine bodyPost_ret (v := .agg #[.int .i64 (count-1),.int .i64 (0),.int .i64 (-1)]) (by simp [results,Tryz.results34,go_sem]) rfl ⟨Zad ?_,by go_grown⟩
    have h:=HL.out;rw [E.out];simp [← h]
   have b2:(i==0)=false:=by simpa using hz
   have HZ:=Lib.hid hz
   clear hz
   go_enter Tryz.func34,Tryz.ntmps34
   go_wp2_with fail
   refine bodyPost_ret (v := .agg #[.int .i64 (i-1),.int .i64 (0),.int .i64 (-1)]) (by simp [results,Tryz.results34,go_sem]) rfl ⟨Zad ?_,by go_grown⟩
   have h:=HL.out;have h2:=HZ.out;rw [E.out];simp [← h,h2]
  have b2:(top==3)=false:=by simpa using ht
  have HT:=Lib.hid ht
  clear ht
  go_enter Tryz.func34,Tryz.ntmps34
  go_wp2_with fail
  refine bodyPost_ret (v := .agg #[.int .i64 (i-1),.int .i64 (-1),.int .i64 (-1)]) (by simp [results,Tryz.results34,go_sem]) rfl ⟨Zad ?_,by go_grown⟩
  have h:=HL.out;have h2:=HT.out;rw [E.out];simp [← h,h2]
 have b1:(i==count-1)=false:=by simpa using hl
 have HL:=Lib.hid hl
 clear hl
 by_cases ht:top=3
 ·subst ht
  by_cases hz:i=0
  ·subst hz
   go_enter Tryz.func34,Tryz.ntmps34
   go_wp2_with fail
   refine bodyPost_ret (v := .agg #[.int .i64 (count-1),.int .i64 (0+1),.int .i64 (-1)]) (by simp [results,Tryz.results34,go_sem]) rfl ⟨Zad ?_,by go_grown⟩
   have h:=HL.out;rw [E.out];simp [h]
  have b2:(i==0)=false:=by simpa using hz
  have HZ:=Lib.hid hz
  clear hz
  go_enter Tryz.func34,Tryz.ntmps34
  go_wp2_with fail
  refine bodyPost_ret (v := .agg #[.int .i64 (i-1),.int .i64 (i+1),.int .i64 (-1)]) (by simp [results,Tryz.results34,go_sem]) rfl ⟨Zad ?_,by go_grown⟩
  have h:=HL.out;have h2:=HZ.out;rw [E.out];simp [h,h2]
 have b2:(top==3)=false:=by simpa using ht
 have HT:=Lib.hid ht
 clear ht
 go_enter Tryz.func34,Tryz.ntmps34
 go_wp2_with fail
 refine bodyPost_ret (v := .agg #[.int .i64 (i-1),.int .i64 (i+1),.int .i64 (-1)]) (by simp [results,Tryz.results34,go_sem]) rfl ⟨Zad ?_,by go_grown⟩
 have h:=HL.out;have h2:=HT.out;rw [E.out];simp [h,h2]
def nbrV (t:Int × Int × Int):Value := .tuple #[.int .i64 t.1,.int .i64 t.2.1,.int .i64 t.2.2]
variable {a b c:Int}
theorem Zaq {t:Int × Int × Int} (h:t=(a,b,c)):Ending.returned (.tuple #[.int .i64 a,.int .i64 b,.int .i64 c]) = .returned (nbrV t):=by subst h;rfl
theorem Zdh (top count i:Int) (h:IsInts lo w v xs) (hn:xs.length≤100) (hc:count≤9223372036854775807) :
 Calls Tryz.prog 18 #[.int .i64 top,v,.int .i64 count,.int .i64 i] w fun e w'=>e = .returned (nbrV (nbr top xs count i))∧Below w.heap.size w w':=by
 have H:=Lib.hid h
 obtain ⟨a,cap,rfl⟩:=h.shape
 clear h
 by_cases hi:0≤i
 ·by_cases hl:i<count
  ·have HI:=Lib.hid (And.intro hi hl)
   by_cases t2:top=2
   ·subst t2
    have E:=Lib.hid (show nbr 2 xs count i=rowL 2 count i by unfold nbr;rw [if_pos HI.out,if_pos (by simp)])
    go_enter Tryz.func18,Tryz.ntmps18
    go_wp2_with (go_at_call 34;refine (Zap _ _ _ _ HI.out.1 HI.out.2 hc).mono ?_;rintro e w1 ⟨rfl,hb1⟩;obtain ⟨pa,pb⟩:=blk hb1 (n:=w.heap.size) (by go_size);have hz1:w.heap.size<w1.heap.size:=(by have:=hb1.size;simp at this;omega);have HB1:=Lib.hid (Below.trans (by go_grown) (hb1.mono (by go_size)):Below w.heap.size w w1);clear hb1)
    go_quiet (fail)
    go_wp2_with fail
    go_ret3
    exact ⟨Zaq (by rw [E.out]),quietBelow (((HB1.out.setCell (by simp) _).setCell (by simp) _).setCell (by simp) _) _⟩
   have b2:(top==2)=false:=by simpa using t2
   by_cases t3:top=3
   ·subst t3
    have E:=Lib.hid (show nbr 3 xs count i=rowL 3 count i by unfold nbr;rw [if_pos HI.out,if_pos (by simp)])
    go_enter Tryz.func18,Tryz.ntmps18
    go_wp2_with (go_at_call 34;refine (Zap _ _ _ _ HI.out.1 HI.out.2 hc).mono ?_;rintro e w1 ⟨rfl,hb1⟩;obtain ⟨pa,pb⟩:=blk hb1 (n:=w.heap.size) (by go_size);have hz1:w.heap.size<w1.heap.size:=(by have:=hb1.size;simp at this;omega);have HB1:=Lib.hid (Below.trans (by go_grown) (hb1.mono (by go_size)):Below w.heap.size w w1);clear hb1)
    go_quiet (fail)
    go_wp2_with fail
    go_ret3
    exact ⟨Zaq (by rw [E.out]),quietBelow (((HB1.out.setCell (by simp) _).setCell (by simp) _).setCell (by simp) _) _⟩
   have b3:(top==3)=false:=by simpa using t3
   have HT:=Lib.hid (And.intro t2 t3)
   clear t2 t3
   by_cases t4:top=4
   ·subst t4
    cases hs:isShp xs count with
    | true =>
      have HS:=Lib.hid hs
      have hp:(xs.length:Int)=count∧shp xs=true:=by unfold isShp at hs;simpa using hs
      have E:=Lib.hid (show nbr 4 xs count i=treeL xs i.toNat by unfold nbr;rw [if_pos HI.out,if_neg (by simp),if_pos ⟨rfl,hp⟩])
      obtain ⟨j,rfl⟩:=Int.eq_ofNat_of_zero_le hi
      have hj:j<xs.length:=by omega
      have hcl:=hp.1
      have HP:=Lib.hid hp
      clear hp
      obtain ⟨b,off,rfl,hbw,hcell⟩:∃ b off,a=some ⟨b,off,none⟩∧b<w.heap.size∧∀ i,i<xs.length→w.cell? ⟨b,off+i,none⟩=some (.int .i64 (xs.getD i 0)):=by
       obtain ⟨a',cap',hv,_,_,_,hc⟩:=H.out
       simp only [Value.slice.injEq] at hv
       rcases hc with h0 | ⟨b,off,ha,_,hb,hc⟩
       ·rw [h0] at hj;simp at hj
       exact ⟨b,off,hv.1.trans ha,hb,hc⟩
      have HCell:=Lib.hid hcell
      clear hcell hcl
      go_enter Tryz.func18,Tryz.ntmps18
      go_wp2_with (first | (go_at_call 35;refine (WE count (H.out.below (by go_grown)) (by omega)).mono ?_;rintro e w1 ⟨rfl,rfl⟩) | (go_at_call 36;refine (Zaj b off xs.length cap _ xs rfl hn (by omega) (fun i hi=>keep1 (HCell.out i hi) (by go_grown))).mono ?_;rintro e w1 ⟨g,rfl,hO,hb1⟩;obtain ⟨pa,pb⟩:=blk hb1 (n:=w.heap.size) (by go_size);have hz1:w.heap.size<w1.heap.size:=(by have:=hb1.size;simp at this;omega);have HB1:=Lib.hid (Below.trans (by go_grown) (hb1.mono (by go_size)):Below w.heap.size w w1);have c0:=hO.cell (j*3) (by omega);have c1:=hO.cell (j*3+1) (by omega);have c2:=hO.cell (j*3+2) (by omega);rw [cf_fi] at c0;rw [cf_se] at c1;rw [cf_pa] at c2;clear hb1 hO))
      go_quiet (fail)
      go_wp2_with fail
      go_ret3
      exact ⟨Zaq (by rw [E.out];rfl),quietBelow (((HB1.out.setCell (by simp) _).setCell (by simp) _).setCell (by simp) _) _⟩
    | false =>
      have E:=Lib.hid (show nbr 4 xs count i=(-1,-1,-1) by
       unfold nbr;rw [if_pos HI.out,if_neg (by simp),if_neg (by rintro ⟨_,h1,h2⟩;unfold isShp at hs;rw [decide_eq_true h1,h2] at hs;cases hs)])
      have HS:=Lib.hid hs
      go_enter Tryz.func18,Tryz.ntmps18
      go_wp2_with (go_at_call 35;refine (WE count (H.out.below (by go_grown)) (by omega)).mono ?_;rintro e w1 ⟨rfl,rfl⟩)
      go_quiet (fail)
      go_wp2_with fail
      go_ret3
      exact ⟨Zaq (by rw [E.out]),quietBelow (Zd _ _) _⟩
   have b4:(top==4)=false:=by simpa using t4
   have E:=Lib.hid (show nbr top xs count i=(-1,-1,-1) by unfold nbr;rw [if_pos HI.out,if_neg (by have:=HT.out;omega),if_neg (by rintro ⟨h,_⟩;exact t4 h)])
   clear t4
   go_enter Tryz.func18,Tryz.ntmps18
   go_wp2_with (fail)
   go_quiet (fail)
   go_wp2_with fail
   go_ret3
   exact ⟨Zaq (by rw [E.out]),quietBelow (Zd _ _) _⟩
  have E:=Lib.hid (show nbr top xs count i=(-1,-1,-1) by unfold nbr;rw [if_neg (by omega)])
  go_enter Tryz.func18,Tryz.ntmps18
  go_wp2_with (fail)
  go_quiet (fail)
  go_wp2_with fail
  go_ret3
  exact ⟨Zaq (by rw [E.out]),quietBelow (Zd _ _) _⟩
 have E:=Lib.hid (show nbr top xs count i=(-1,-1,-1) by unfold nbr;rw [if_neg (by omega)])
 go_enter Tryz.func18,Tryz.ntmps18
 go_wp2_with (fail)
 go_quiet (fail)
 go_wp2_with fail
 go_ret3
 exact ⟨Zaq (by rw [E.out]),quietBelow (Zd _ _) _⟩
end Go.Proofs.YtdbehgbggaaipaaGreat
namespace Go.Proofs.YtdbehgbggaaipaaGreat
def digF (n k j:Nat):Int:=(((k / 2 ^ (n-1-j)) % 2:Nat):Int)*2
def dig (n k:Nat):List Int:=(List.range n).map (digF n k)
theorem Km (n k:Nat):(dig n k).length=n:=by simp [dig]
theorem dig_get (n k j:Nat) (h:j<n):(dig n k).getD j 0=digF n k j:=by simp [dig,List.getD,h]
theorem digF_small (n k j:Nat):0≤digF n k j∧digF n k j≤2:=by unfold digF;omega
def shK (n k:Nat):List (List Int):=((List.range k).map (dig n)).filter shp
def shL (n:Nat):List (List Int):=shK n (2 ^ n)
theorem shK_succ (n k:Nat):shK n (k+1)=if shp (dig n k) then shK n k++[dig n k] else shK n k:=by
 unfold shK
 rw [List.range_succ,List.map_append,List.filter_append]
 by_cases h:shp (dig n k)=true
 ·simp [h]
 simp [h]
theorem shK_len (n k:Nat):(shK n k).length≤k:=by
 have:=List.length_filter_le shp ((List.range k).map (dig n))
 simpa [shK] using this
variable {n k:Nat}{xs:List Int}
theorem shK_mem (h:xs∈shK n k):xs.length=n∧shp xs=true:=by
 unfold shK at h
 rw [List.mem_filter] at h
 obtain ⟨h1,h2⟩:=h
 obtain ⟨j,_,rfl⟩:=List.mem_map.1 h1
 exact ⟨Km _ _,h2⟩
def allL:Nat→List (List Int)
 | 0=>[[]]
 | n+1=>(allL n).map (0 :: ·)++(allL n).map (2 :: ·)
theorem KY (a b:Int) (ys:List Int):∀ L:List (List Int),(L.map (a :: ·)).count (b::ys)=if a=b then L.count ys else 0
 | []=>by simp
 | x::L=>by
   rw [List.map_cons,List.count_cons,List.count_cons,KY a b ys L]
   by_cases h:a=b
   ·subst h;simp
   simp [h]
theorem Zef:∀ xs:List Int,(∀ x∈xs,x=0∨x=2)→(allL xs.length).count xs=1
 | [],_=>rfl
 | x::xs,h=>by
   have ih:=Zef xs (fun y hy=>h y (by simp [hy]))
   show ((allL xs.length).map (0 :: ·)++(allL xs.length).map (2 :: ·)).count (x::xs)=1
   rw [List.count_append,KY,KY,ih]
   rcases h x (by simp) with rfl | rfl<;>simp
theorem Zcd:∀ (xs:List Int) (m:Int),shpF xs m=true→∀ x∈xs,x=0∨x=2
 | [],_,_,x,hx=>by simp at hx
 | c::cs,m,h,x,hx=>by
   rw [shpF] at h
   by_cases h0:m=0
   ·rw [if_pos h0] at h;cases h
   rw [if_neg h0] at h
   by_cases h1:c≠0∧c≠2
   ·rw [if_pos h1] at h;cases h
   rw [if_neg h1] at h
   rcases List.mem_cons.1 hx with rfl | hx
   ·omega
   exact Zcd cs _ h x hx
set_option maxRecDepth 100000 in
theorem dig_all:∀ n,n≤8→(List.range (2 ^ n)).map (dig n)=allL n
 | 0,_=>by decide +kernel
 | 1,_=>by decide +kernel
 | 2,_=>by decide +kernel
 | 3,_=>by decide +kernel
 | 4,_=>by decide +kernel
 | 5,_=>by decide +kernel
 | 6,_=>by decide +kernel
 | 7,_=>by decide +kernel
 | 8,_=>by decide +kernel
theorem shL_count (xs:List Int) (h:xs.length≤8):(shL xs.length).count xs=if shp xs=true then 1 else 0:=by
 unfold shL shK
 by_cases hs:shp xs=true
 ·rw [if_pos hs,List.count_filter hs,dig_all _ h]
  exact Zef xs (Zcd xs 1 hs)
 rw [if_neg hs,List.count_eq_zero]
 intro hm
 exact hs (List.mem_filter.1 hm).2
end Go.Proofs.YtdbehgbggaaipaaGreat
namespace Go.Proofs.YtdbehgbggaaipaaGreat
open Go.RowKit Go.Deep
variable {lo g:Nat}{w:World}{v:Value}{xs:List Int}
theorem OwnV.blk (h:OwnV lo w v xs) (hg:v.ownBlock=some g):lo≤g∧g<w.heap.size:=by
 rcases h with ⟨rfl,_⟩ | ⟨g',cap,rfl,_,_,h⟩
 ·cases hg
 have:g'=g:=by simpa [Value.ownBlock] using hg
 subst this
 exact ⟨h.1,h.lt⟩
variable {w':World}
theorem OwnV.grw {r:Option Nat} (h:OwnV lo w v xs) (hg:w.grownBy w' r) (hr:∀ g,r=some g→v.ownBlock≠some g):OwnV lo w' v xs:=by
 rcases h with h | ⟨g',cap,rfl,h1,h2,h⟩
 ·exact .inl h
 exact .inr ⟨g',cap,rfl,h1,h2,h.but (hg.block g' h.lt (fun e=>hr g' e.symm rfl))⟩
theorem OwnV.setOut (h:OwnV lo w v xs) (a:Addr) (ha:a.block<lo) (u:Value):OwnV lo (w.setCell a u) v xs:=by
 rcases h with h | ⟨g',cap,rfl,h1,h2,h⟩
 ·exact .inl h
 exact .inr ⟨g',cap,rfl,h1,h2,h.setOther _ _ (by have:=h.1;omega)⟩
theorem row_under {B e size n:Nat} {xs:List Value} (h:w.ownsRow B e size v n xs) (hb:Below w.heap.size w w'):w'.ownsRow B e size v n xs:=by
 obtain ⟨h1,h2⟩:=h
 refine ⟨h1,?_⟩
 rcases h2 with h2 | ⟨g,cap,cur,hv,hg,hh,r⟩
 ·exact .inl h2
 exact .inr ⟨g,cap,cur,hv,hg,by rw [hb.block g (Array.getElem?_eq_some_iff.1 hh).1];exact hh,r⟩
def OwnLL (lo:Nat) (w:World) (u:Value) (ps:List (Value × List Int)):Prop :=
 w.ownsRow lo 24 1 u ps.length (ps.map (·.1))∧∀ p∈ps,OwnV lo w p.1 p.2∧∀ g,u.ownBlock=some g→p.1.ownBlock≠some g
theorem OwnLL.nil (lo:Nat) (w:World):OwnLL lo w (.slice none 0 0) []:=⟨World.ownsRow_nil _ _ _ _,by simp⟩
theorem OwnLL.setOut {lo:Nat} {w:World} {u:Value} {ps:List (Value × List Int)} (h:OwnLL lo w u ps) (a:Addr) (ha:a.block<lo) (x:Value):OwnLL lo (w.setCell a x) u ps :=
 ⟨ownsRow_setCell_below h.1 ha _,fun p hp=>⟨(h.2 p hp).1.setOut a ha _,(h.2 p hp).2⟩⟩
theorem OwnLL.below {lo:Nat} {w w':World} {u:Value} {ps:List (Value × List Int)} (h:OwnLL lo w u ps) (hb:Below w.heap.size w w'):OwnLL lo w' u ps :=
 ⟨row_under h.1 hb,fun p hp=>⟨(h.2 p hp).1.below hb,(h.2 p hp).2⟩⟩
variable {u:Value}
theorem OwnLL.shape {ps:List (Value × List Int)} (h:OwnLL lo w u ps):∃ a c,u = .slice a ps.length c:=Wc h.1
variable {v':Value}
theorem OwnLL.snoc {wr W w3:World} {ps:List (Value × List Int)} {g cap:Nat} (h:OwnLL lo wr u ps) (hb:Below wr.heap.size wr W) (hv:OwnV wr.heap.size W v' xs) (hlo:lo≤wr.heap.size)
 (hown:w3.ownsRow lo 24 1 (.slice (some ⟨g,0,none⟩) (ps.length+1) cap) (ps.length+1) (ps.map (·.1)++[v'])) (hgrow:W.grownBy w3 u.ownBlock) (hat:u.ownBlock=some g∨W.heap.size<g) :
 OwnLL lo w3 (.slice (some ⟨g,0,none⟩) (ps.length+1) cap) (ps++[(v',xs)]):=by
 refine ⟨by simpa using hown,fun p hp => ?_⟩
 have hu:∀ g,u.ownBlock=some g→g<wr.heap.size:=fun g hg=>(h.1.lt _ hg).2
 have hO:OwnV lo W p.1 p.2∧∀ g,u.ownBlock=some g→p.1.ownBlock≠some g:=by
  rcases List.mem_append.1 hp with hp | hp
  ·exact ⟨(h.2 p hp).1.below hb,(h.2 p hp).2⟩
  obtain rfl:p=(v',xs):=by simpa using hp
  exact ⟨hv.mono hlo,fun g hg e=>by have:=hu g hg;have:=hv.blk e;omega⟩
 refine ⟨hO.1.grw hgrow hO.2,fun g' hg' e => ?_⟩
 have:g=g':=by simpa [Value.ownBlock] using hg'
 subst this
 rcases hat with hat | hat
 ·exact hO.2 _ hat e
 have:=(hO.1.blk e).2;omega
def IntsEl (lo:Nat) (w:World) (cs:List Value) (xs:List Int):Prop:=∃ v,cs=[v]∧IsInts lo w v xs
theorem IntsEl.stays:Stays IntsEl:=fun _ _ _ _ _ ⟨v,e,h⟩ hb=>⟨v,e,h.below hb⟩
theorem IntsEl.mono:Mono IntsEl:=fun _ _ _ _ _ ⟨v,e,h⟩ hl=>⟨v,e,h.mono hl⟩
theorem OwnLL.reads {ps:List (Value × List Int)} (h:OwnLL lo w u ps):IsSl 1 IntsEl lo w u (ps.map (·.2)):=by
 obtain ⟨⟨hl,h1⟩,h2⟩:=h
 rcases h1 with ⟨rfl,h0⟩ | ⟨g,cap,cur,rfl,hb,hg,hnc,hcm,hcs,htake⟩
 ·have:ps=[]:=List.eq_nil_of_length_eq_zero h0
  subst this
  exact ⟨none,0,rfl,by simp,by simp [maxLen],by simp,.inl rfl⟩
 refine ⟨some ⟨g,0,none⟩,cap,by simp,by simpa using hnc,hcm,(fun e=>by cases e),.inr ⟨g,0,rfl,hb,(Array.getElem?_eq_some_iff.1 hg).1,fun i hi => ?_⟩⟩
 have hi':i<ps.length:=by simpa using hi
 refine ⟨[(ps[i]'hi').1],rfl,fun j hj => ?_,(ps[i]'hi').1,rfl,by simpa using (h2 _ (List.getElem_mem hi')).1.ints⟩
 obtain rfl:j=0:=by omega
 have:(ps.map (·.1))[i]? = some (ps[i]'hi').1:=by simp [hi']
 rw [← htake,List.getElem?_take_of_lt (by omega)] at this
 simp only [World.cell?,hg]
 simpa using this
set_option maxHeartbeats 12800000
theorem Zey (h:IsInts lo w v xs) (hn:xs.length≤1000) :
 Calls Tryz.prog 37 #[v] w fun e w'=>∃ v',e = .returned v'∧OwnV w.heap.size w' v' xs∧Below w.heap.size w w':=by
 have H:=h
 obtain ⟨a,cap,rfl,hl,hm,hi,hc⟩:=h
 obtain ⟨i0,hi0,hz0,hz1,hz2⟩:=info_int4
 have HI:=hid0 hi.1
 cases a with
 | none =>
   obtain rfl:cap=0:=hi.2 rfl
   have h0:xs.length=0:=by omega
   obtain rfl:xs=[]:=List.eq_nil_of_length_eq_zero h0
   clear hc hi hl hm h0 H
   have q22:∀ (w:World) (a:Option Addr) (n c n' c':Nat),(binOp .eql 24 (.slice a n c) (.slice none n' c')).run Tryz.prog w = .ok (.bool a.isNone) w:=fun w a n c n' c'=>Lib.run_eql_slice_nil w _ _ a n c n' c' Tryz.underlying24
   go_enter Tryz.func37,Tryz.ntmps37
   go_wp2_with fail
   go_ret
   exact ⟨_,rfl,.inl ⟨rfl,rfl⟩,Below.refl _ _⟩
 | some ad =>
   have HS:Hid (∀ w',Below w.heap.size w w'→∀ j u,(xs.map (Value.int .i64))[j]? = some u→w'.cell? (ad.add j)=some u):=hid0 fun w' hb j u hj=>by
    have h0:0<xs.length:=by have:=(List.getElem?_eq_some_iff.1 hj).1;simp at this;omega
    obtain ⟨ad',e,hS⟩:=H.src h0
    cases e
    exact hS w' hb j u hj
   have hown:=World.ownsRow_lit (base:=w.heap.size) (e:=3) (size:=1) w #[] 0 (Nat.le_refl _) (by simp) (by simp)
   have HO:=hid0 hown
   clear hown hc hi
   have q22:∀ (w:World) (a:Option Addr) (n c n' c':Nat),(binOp .eql 24 (.slice a n c) (.slice none n' c')).run Tryz.prog w = .ok (.bool a.isNone) w:=fun w a n c n' c'=>Lib.run_eql_slice_nil w _ _ a n c n' c' Tryz.underlying24
   go_enter Tryz.func37,Tryz.ntmps37
   go_wp2_with (refine wpList_append_own _ rfl (.tmp 5) (.tmp 6) 24 rfl w.heap.size 3 i0 (.int .i64 0) 1 8 Tryz.underlying24 hi0 hz0 hz1 hz2 rfl (by decide) _ _ _ rfl HO.out ad xs.length cap (xs.map (Value.int .i64)) rfl (by simp) (HS.out _ (by go_grown)) (by simp [Value.oneCell']) (by unfold maxLen;omega) (by omega) (by simp) ?_;intro v' w1 hown1 hgrow1 _)
   go_ret
   have hown2:w1.ownsRow w.heap.size 3 1 v' xs.length (xs.map (Value.int .i64)):=by simpa using hown1
   refine ⟨v',rfl,own_of_row hown2 HI.out,(Zd w _).grown hgrow1 (by simp) fun k hk => ?_⟩
   have hk':some w.heap.size=some k:=hk
   injection hk' with hk'
   omega
theorem info_int:(Tryz.prog.info? 3).map (fun i=>(i.zero,i.size,i.bytes))=some (some (.int .i64 0),1,8):=by kernel_rfl
theorem elInts:ElT Tryz.prog 61 24 (.slice none 0 0) 1 24:=⟨Tryz.underlying61,by kernel_rfl,rfl,by decide⟩
theorem and_one:∀ m,m<256→bits BinOp.and IntKind.i64 (m:Nat) 1=((m % 2:Nat):Int):=by decide +kernel
variable {n:Nat}
theorem own_ints {f:Nat→Int} (h:OwnF lo w g n f) (hl:xs.length=n) (hn:n≤1000) (hx:∀ x∈xs,I64 x) (hf:∀ j,j<n→f j=xs.getD j 0):IsInts lo w (.slice (some ⟨g,0,none⟩) n n) xs:=by
 obtain ⟨h1,cur,t,hg,hc⟩:=h
 exact Kf hg h1 hl (Nat.le_refl _) (by unfold maxLen;omega) hx (fun i hi=>by rw [hc i hi,hf i hi])
theorem dig_small (n k:Nat):∀ x∈dig n k,I64 x:=by
 intro x hx
 obtain ⟨j,_,rfl⟩:=List.mem_map.1 hx
 have:=digF_small n k j
 constructor<;>omega
theorem Zcw (n:Nat) (h0:1≤n) (h1:n≤8) (w:World) :
 Calls Tryz.prog 19 #[.int .i64 n] w fun e w'=>∃ u,e = .returned (.tuple #[u,.int .i64 0])∧(∃ ps,OwnLL (w.heap.size+1) w' u ps∧ps.map (·.2)=shL n)∧Below w.heap.size w w':=by
 have hmk:=make_n (P:=Tryz.prog) 24 3 _ 1 8 Tryz.underlying24 info_int n (by omega) (by omega)
 obtain ⟨M,hM⟩:∃ M:Nat,M=2 ^ n:=⟨_,rfl⟩
 have hM2:M≤256:=by rw [hM];exact Nat.pow_le_pow_right (by omega) h1
 have hw:wrap64 ((2:Int) ^ n)=(M:Int):=by
  have e:((2:Int) ^ n)=(M:Int):=by rw [hM];simp
  rw [e];unfold wrap64;omega
 have HM:=Lib.hid hM
 clear hM
 go_enter Tryz.func19,Tryz.ntmps19
 go_wp2_with fail
 rw [hw]
 clear hw hmk
 obtain ⟨W,hW⟩:∃ W:World,W=w.alloc (.cells (madeCells #[Value.int IntKind.i64 0] n) 3):=⟨_,rfl⟩
 rw [← hW]
 have HO0:=Lib.hid (show OwnF w.heap.size W w.heap.size n (fun _=>0) by
  rw [hW];exact ⟨Nat.le_refl _,_,_,heap_alloc_new _ _,fun j hj=>made_get _ _ _ _ hj (by simp [Nat.mod_one])⟩)
 have HB0:=Lib.hid (show Below w.heap.size w W by rw [hW];exact Zd _ _)
 clear hW
 go_loopw [4,18] (fun v u wr=>∃ (k:Nat) (a:Option Addr) (c:Nat) (ps:List (Value × List Int)) (f:Nat→Int),k≤M∧u = .int .i64 k∧v = .slice a ps.length c∧ps.map (·.2)=shK n k∧OwnLL (w.heap.size+1) wr (.slice a ps.length c) ps∧OwnF w.heap.size wr w.heap.size n f∧Below w.heap.size w wr) (fun _ u _=>M-(intOf u).toNat)
 case atStart=>exact ⟨0,none,0,[],fun _=>0,Nat.zero_le _,rfl,rfl,rfl,OwnLL.nil _ _,HO0.out,HB0.out⟩
 case round =>
  obtain ⟨k,a,c,ps,f,hk,rfl,rfl,hps,hL,hF,hB⟩:=hrel
  have HPS:=Lib.hid hps
  have HL:=Lib.hid hL
  have HF:=Lib.hid hF
  have HB:=Lib.hid hB
  have hpl:ps.length≤k:=by have:=congrArg List.length hps;simp at this;have:=shK_len n k;omega
  clear hps hL hF hB
  by_cases hlt:k<M
  ·go_wp2_with fail
   go_loopw [23] (fun u w2=>∃ (i:Nat) (f:Nat→Int),i≤n∧u = .int .i64 i∧(∀ j,j<i→f j=digF n k j)∧OwnLL (w.heap.size+1) w2 (.slice a ps.length c) ps∧OwnF w.heap.size w2 w.heap.size n f∧Below w.heap.size w w2) (fun u _=>n-(intOf u).toNat)
   case atStart=>exact ⟨0,f,Nat.zero_le _,rfl,fun _ h=>by omega,HL.out,HF.out,HB.out⟩
   case round =>
    obtain ⟨i,f',hi,rfl,hd,hL2,hF2,hB2⟩:=hrel
    have HD:=Lib.hid hd
    have HL2:=Lib.hid hL2
    have HF2:=Lib.hid hF2
    have HB2:=Lib.hid hB2
    have hgw:=hF2.lt
    clear hd hL2 hB2
    by_cases hlt2:i<n
    ·have c1:=hF2.cell i hlt2
     have c2:=hF2.frozen i
     have HE:=Lib.hid (show wrap64 (bits BinOp.and IntKind.i64 ((k:Int) / 2 ^ (n-1-i)) 1*2)=digF n k i by
      have e1:((k:Int) / 2 ^ (n-1-i))=((k / 2 ^ (n-1-i):Nat):Int):=by simp
      have e2:k / 2 ^ (n-1-i)<256:=by have:=Nat.div_le_self k (2 ^ (n-1-i));omega
      rw [e1,and_one _ e2]
      unfold digF wrap64;omega)
     clear hF2
     go_wp2_with fail
     go_roundw
     case rel =>
      refine ⟨i+1,up f' i (digF n k i),by omega,by go_num,fun j hj => ?_,HL2.out.setOut _ (by simp) _,?_,HB2.out.setCell (by simp) _⟩
      ·by_cases e:j=i
       ·subst e;exact Yy _ _ _
       rw [Kb _ _ e];exact HD.out j (by omega)
      rw [← HE.out];exact HF2.out.set i _
     case measure=>simp [intOf];omega
    obtain rfl:i=n:=by omega
    have HI:=Lib.hid (own_ints HF2.out (Km i k) (by omega) (dig_small i k) (fun j hj=>by rw [HD.out j hj,dig_get _ _ _ hj]))
    clear hF2 hlt2
    have HS0:=Lib.hid (shK_succ i k)
    cases hs:isShp (dig i k) i with
    | false =>
      have HS:Hid (shK i (k+1)=shK i k):=by
       show _=_
       have h:shp (dig i k)=false:=by unfold isShp at hs;simpa [Km] using hs
       rw [HS0.out,h];rfl
      go_wp2_with (go_at_call 35;refine (WE (i:Int) HI.out (by rw [Km];omega)).mono ?_;rintro e w1 ⟨rfl,rfl⟩)
      go_roundw
      case rel=>exact ⟨k+1,a,c,ps,f',by omega,by go_num,rfl,by rw [HS.out];exact HPS.out,HL2.out,HF2.out,HB2.out⟩
      case measure=>simp [intOf];omega
    | true =>
      have HS:Hid (shK i (k+1)=shK i k++[dig i k]):=by
       show _=_
       have h:shp (dig i k)=true:=by unfold isShp at hs;simpa [Km] using hs
       rw [HS0.out,h];rfl
      go_wp2_with (first | (go_at_call 35;refine (WE (i:Int) HI.out (by rw [Km];omega)).mono ?_;rintro e w1 ⟨rfl,rfl⟩) | (go_at_call 37;refine (Zey HI.out (by rw [Km];omega)).mono ?_;rintro e w3 ⟨v',rfl,hv,hb⟩;have HV:=Lib.hid hv;have HB3:=Lib.hid hb;have hs3:=hb.size;obtain ⟨av,cv,rfl⟩:=hv.shape;clear hv hb) | (at_builtin;refine KJ elInts (by rfl) (.tmp 41) (.tmp 44) (by rfl) (w.heap.size+1) _ ps.length _ [.slice av (dig i k).length cv] w3.heap.size (by rfl) (by rfl) (by rfl) (HL2.out.below HB3.out).1 (by rfl) (by intro u hu;simp at hu;subst hu;rfl) (by omega) (by unfold maxLen;omega) (by omega) (by rfl) ?_;intro g cap w4 hown hgrow hat hlo hlt hsz))
      go_roundw
      case rel =>
       refine ⟨k+1,some ⟨g,0,none⟩,cap,ps++[(.slice av (dig i k).length cv,dig i k)],f',by omega,by go_num,by simp,?_,?_,?_,?_⟩
       ·rw [HS.out,List.map_append,HPS.out];rfl
       ·rw [List.length_append];exact OwnLL.snoc HL2.out HB3.out HV.out (by omega) hown hgrow hat
       ·exact (HF2.out.below HB3.out).grown hgrow (fun e=>by have:=((HL2.out.below HB3.out).1.lt _ e).1;omega)
       exact (Ze HB2.out HB3.out).grown hgrow (by omega) (fun j hj=>by have:=((HL2.out.below HB3.out).1.lt _ hj).1;omega)
      case measure=>simp [intOf];omega
  obtain rfl:k=M:=by omega
  go_wp2_with fail
  go_ret2
  refine ⟨_,rfl,⟨ps,HL.out,?_⟩,HB.out⟩
  rw [HPS.out,HM.out]
  rfl
theorem Shapes_ok (n:Nat) (h0:1≤n) (h1:n≤8) (w:World) :
 Calls Tryz.prog 19 #[.int .i64 n] w fun e w'=>∃ u,e = .returned (.tuple #[u,.int .i64 0])∧IsSl 1 IntsEl w.heap.size w' u (shL n)∧Below w.heap.size w w' :=
 (Zcw n h0 h1 w).mono fun e w' ⟨u,he,⟨ps,hL,hp⟩,hb⟩=>⟨u,he,by have:=hL.reads;rw [hp] at this;exact this.mono IntsEl.mono (by omega),hb⟩
theorem ZcQ (b off n cap:Nat) (w:World) (xs:List Int) (hx:xs.length=n) (hn:n≤1000000)
 (hc:∀ i,i<n→w.cell? ⟨b,off+i,none⟩=some (.int .i64 (xs.getD i 0))) :
 Calls Tryz.prog 57 #[.slice (some ⟨b,off,none⟩) n cap] w fun e w'=>e = .returned (.bool (shp xs))∧w=w':=by
 have HC:=Lib.hid hc
 have HX:=Lib.hid hx
 clear hc hx
 go_enter Tryz.func57,Tryz.ntmps57
 go_wp2_with fail
 go_loop [3,4] (fun v u=>∃ (k:Nat) (m:Int),k≤n∧u = .int .i64 k∧v = .int .i64 m∧0≤m∧m≤k+1∧shpF (xs.drop k) m=shp xs) (fun _ u=>n-(intOf u).toNat)
 case atStart=>exact ⟨0,1,Nat.zero_le _,rfl,rfl,by omega,by omega,rfl⟩
 case round =>
  obtain ⟨k,m,hk,rfl,rfl,h0,h1,hs⟩:=hrel
  have HS:=Lib.hid hs
  clear hs
  by_cases hlt:k<n
  ·have g1:=HC.out k hlt
   have HD:=Lib.hid (show shpF (xs.drop k) m=if m=0 then false else if xs.getD k 0≠0∧xs.getD k 0≠2 then false else shpF (xs.drop (k+1)) (m+xs.getD k 0-1) by
    have hd:xs.drop k=xs[k]'(by rw [HX.out];exact hlt)::xs.drop (k+1):=List.drop_eq_getElem_cons _
    rw [hd,shpF,show xs.getD k 0=xs[k]'(by rw [HX.out];exact hlt) by simp [List.getD,List.getElem?_eq_getElem (show k<xs.length by rw [HX.out];exact hlt)]])
   generalize hX:xs.getD k 0=x at g1 HD
   clear hX
   by_cases m0:m=0
   ·subst m0
    go_wp2_with fail
    go_ret
    exact ⟨Zi (by rw [← HS.out,HD.out];simp),rfl⟩
   have m1:(m==0)=false:=by simpa using m0
   have M0:=Lib.hid m0
   have m2:1≤m:=by omega
   clear m0
   by_cases x0:x=0
   ·subst x0
    go_wp2_with fail
    go_round
    case rel=>exact ⟨k+1,m-1,by omega,by go_num,by go_num,by omega,by omega,by rw [← HS.out,HD.out,if_neg M0.out,if_neg (by omega)];congr 1;omega⟩
    case measure=>simp [intOf];omega
   by_cases x2:x=2
   ·subst x2
    go_wp2_with fail
    go_round
    case rel=>exact ⟨k+1,m+1,by omega,by go_num,by go_num,by omega,by omega,by rw [← HS.out,HD.out,if_neg M0.out,if_neg (by omega)];congr 1;omega⟩
    case measure=>simp [intOf];omega
   have x3:(x != 0)=true:=by simpa using x0
   have x4:(x != 2)=true:=by simpa using x2
   have XX:=Lib.hid (And.intro x0 x2)
   clear x0 x2
   go_wp2_with fail
   go_ret
   exact ⟨Zi (by rw [← HS.out,HD.out,if_neg M0.out,if_pos XX.out]),rfl⟩
  have HE:=Lib.hid (show shp xs=(m==0) by
   rw [← HS.out,List.drop_eq_nil_of_le (by rw [HX.out];omega),shpF];rfl)
  go_wp2_with fail
  go_ret
  exact ⟨Zi (by rw [HE.out]),rfl⟩
theorem Zb5 (a:Option Addr) (cap:Nat) (w:World) :
 Calls Tryz.prog 57 #[.slice a 0 cap] w fun e w'=>e = .returned (.bool (shp []))∧w=w':=by
 go_enter Tryz.func57,Tryz.ntmps57
 go_wp2_with fail
 refine wp_loop_rounds 1 ?_
 rw [rounds_succ]
 go_wp2_with fail
 go_ret
 exact ⟨rfl,rfl⟩
theorem ZdS (h:IsInts lo w v xs) (hn:xs.length≤1000000) :
 Calls Tryz.prog 57 #[v] w fun e w'=>e = .returned (.bool (shp xs))∧w=w':=by
 obtain ⟨a,cap,rfl,hl,hm,hi,hc⟩:=h
 rcases hc with rfl | ⟨b,off,rfl,_,_,hc⟩
 ·exact Zb5 _ _ _
 exact ZcQ _ _ _ _ _ _ rfl hn hc
theorem Shapes_bad (n:Int) (h:n<1∨8<n) (w:World) :
 Calls Tryz.prog 19 #[.int .i64 n] w fun e w'=>e = .returned (.tuple #[.slice none 0 0,.int .i64 1])∧w=w':=by
 by_cases h1:n<1
 ·go_enter Tryz.func19,Tryz.ntmps19
  go_wp2_with fail
  go_ret2
  exact ⟨rfl,rfl⟩
 have h2:8<n:=by omega
 go_enter Tryz.func19,Tryz.ntmps19
 go_wp2_with fail
 go_ret2
 exact ⟨rfl,rfl⟩
theorem shL_five:shL 5=[[2,0,2,0,0],[2,2,0,0,0]]:=by decide +kernel
theorem nbr_known (w:World):Calls Tryz.prog 18 #[.int .i64 3,.slice none 0 0,.int .i64 2,.int .i64 0] w fun e w'=>e = .returned (.tuple #[.int .i64 1,.int .i64 1,.int .i64 (-1)])∧Below w.heap.size w w':=by
 have h:=Zdh (lo:=0) (w:=w) (v := .slice none 0 0) (xs:=[]) 3 2 0 ⟨none,0,rfl,by simp,by simp [maxLen],by simp,.inl rfl⟩ (by simp) (by omega)
 have e:nbr 3 [] 2 0=(1,1,-1):=by decide
 rw [e] at h
 exact h
theorem ZdA (w:World):Calls Tryz.prog 19 #[.int .i64 5] w fun e w'=>∃ u,e = .returned (.tuple #[u,.int .i64 0])∧IsSl 1 IntsEl w.heap.size w' u [[2,0,2,0,0],[2,2,0,0,0]]∧Below w.heap.size w w':=by
 have h:=Shapes_ok 5 (by omega) (by omega) w
 rw [shL_five] at h
 exact h
variable {t:TypeId}
theorem lit5 (h:w.heap[g]? = some (.cells #[.int .i64 2,.int .i64 0,.int .i64 2,.int .i64 0,.int .i64 0] t (0,0))):IsInts 0 w (.slice (some ⟨g,0,none⟩) 5 5) [2,0,2,0,0] :=
 Kf (xs:=[2,0,2,0,0]) h (Nat.zero_le _) rfl (Nat.le_refl _) (by simp [maxLen]) (fun x hx=>by have:x=0∨x=2:=(by simp at hx;omega);constructor<;>omega)
  fun i hi=>match i,hi with
   | 0,_=>rfl
   | 1,_=>rfl
   | 2,_=>rfl
   | 3,_=>rfl
   | 4,_=>rfl
theorem zknown_any (w:World):Calls Tryz.prog 7 #[] w fun e w'=>e = .returned (.bool true)∧Below w.heap.size w w':=by
 go_enter Tryz.func7,Tryz.ntmps7
 go_wp2_with (first | (go_at_call 18;refine (nbr_known _).mono ?_;rintro e w1 ⟨rfl,hb1⟩;have HB1:=Lib.hid hb1;clear hb1) | (go_at_call 19;refine (ZdA _).mono ?_;rintro e w2 ⟨u,rfl,hu,hb2⟩;obtain ⟨au,cu,rfl⟩:=hu.shape;obtain ⟨b,off,cs,rfl,hlb,hbw,_,hcell,v0,rfl,hv0⟩:=hu.at 0 (by simp);obtain ⟨a0,c0,rfl⟩:=hv0.shape;have g0:=hcell 0 (by omega);have HB2:=Lib.hid (Ze HB1.out hb2);have HV:=Lib.hid hv0;simp only [Nat.zero_mul,Nat.add_zero,List.getElem?_cons_zero] at g0;clear hcell hv0 hu hb2) | (go_at_call 20;refine (Zeu (HV.out.below (by go_grown)) (lit5 (ZY _ _ (by go_size)))).mono ?_;rintro e w3 ⟨rfl,hb3⟩))
 go_ret
 exact ⟨rfl,Ze HB2.out (Below.trans (by go_grown) (hb3.mono (by go_size)))⟩
variable {J:World→Prop}
def cLi (xs:List Int):List AV:=[Zb xs]
theorem lenLi (xs:List Int):(cLi xs).length=1:=rfl
theorem ZcU (xs:List Int):∀ X∈cLi xs,Plain X:=by
 intro X hX
 simp only [cLi,List.mem_cons,List.not_mem_nil,or_false] at hX
 rw [hX];exact ZK _
namespace Sh
abbrev InOk (xs:List Int):Prop:=∀ x∈xs,I64 x
section
variable {P:Program} {f:FuncId}
theorem ctr2 {A B u:AV} (H:∀ (w:World) (v v':Value),(∀ w',Below w.heap.size w w'→J w')→Pu (fun _=>True) w (fun b=>b<w.heap.size) A v→Pu (fun _=>True) w (fun b=>b<w.heap.size) B v'→Calls P f #[v,v'] w fun e w'=>∃ v,e = .returned v∧Pu (w.heap.size ≤ ·) w' (nw w' w.heap.size) u v∧Below w.heap.size w w'):Ctr P J f [A,B] u:=fun w vs hJ hl hv=>by
 obtain ⟨v,v',rfl⟩:∃ v v',vs = #[v,v']:=by
  match vs,hl with
  | ⟨[v,v']⟩,_=>exact ⟨v,v',rfl⟩
 exact H w v v' hJ (hv 0 (by simp)) (hv 1 (by simp))
theorem ret_sc {r:Value} {e:Ending} (h:e = .returned r∧Below w.heap.size w w'):∃ v,e = .returned v∧Pu (w.heap.size ≤ ·) w' (nw w' w.heap.size) (.v r) v∧Below w.heap.size w w':=⟨r,h.1,.v r,h.2⟩
end
def sR:Nat→List (List Int)
 | 1=>[[0]]
 | 3=>[[2,0,0]]
 | 5=>[[2,0,2,0,0],[2,2,0,0,0]]
 | 7=>[[2,0,2,0,2,0,0],[2,0,2,2,0,0,0],[2,2,0,0,2,0,0],[2,2,0,2,0,0,0],[2,2,2,0,0,0,0]]
 | _=>[]
theorem odd4 (h:n≤7) (ho:n % 2=1):n=1∨n=3∨n=5∨n=7:=by omega
theorem sR_len (h:n≤7) (ho:n % 2=1):(sR n).length≤5:=by
 rcases odd4 h ho with rfl | rfl | rfl | rfl<;>decide
theorem sR_mem (h:n≤7) (ho:n % 2=1):∀ xs∈sR n,xs.length≤7∧InOk xs:=by
 rcases odd4 h ho with rfl | rfl | rfl | rfl<;>(intro xs hx;simp only [sR,List.mem_cons,List.not_mem_nil,or_false] at hx)
 all_goals
  have key:∀ ys:List Int,(∀ y∈ys,y=0∨y=2)→InOk ys:=fun ys hy y hm=>by
   rcases hy y hm with rfl | rfl<;>(unfold I64;omega)
 ·subst hx;exact ⟨by decide,key _ (by decide)⟩
 ·subst hx;exact ⟨by decide,key _ (by decide)⟩
 ·rcases hx with rfl | rfl<;>exact ⟨by decide,key _ (by decide)⟩
 rcases hx with rfl | rfl | rfl | rfl | rfl<;>exact ⟨by decide,key _ (by decide)⟩
def shX (n:Int):List (List Int):=if n<1∨8<n then [] else if n % 2=0 then [] else sR n.toNat
def shZ (n:Int):Int:=if n<1∨8<n then 1 else 0
theorem shL_eq:∀ n,1≤n→n≤8→shL n=shX (n:Nat):=by
 intro n h1 h8
 obtain rfl | rfl | rfl | rfl | rfl | rfl | rfl | rfl:n=1∨n=2∨n=3∨n=4∨n=5∨n=6∨n=7∨n=8:=by omega
 all_goals decide +kernel
theorem shX_mem (n:Int):∀ xs∈shX n,xs.length≤7∧InOk xs:=by
 unfold shX
 split
 ·intro xs h;cases h
 split
 ·intro xs h;cases h
 exact sR_mem (by omega) (by omega)
theorem shX_len (n:Int):(shX n).length≤5:=by
 unfold shX
 split
 ·simp
 split
 ·simp
 exact sR_len (by omega) (by omega)
variable {n0:Nat}
theorem owni_pu (hlo:n0≤lo) (h:OwnV lo w v xs):Pu (n0 ≤ ·) w (nw w n0) (Zb xs) v:=by
 rcases h with ⟨rfl,rfl⟩ | ⟨g,cap,rfl,hl,hm,h1,h2,h3,cur,t,hg,hc⟩
 ·exact .sl0 (by simp [maxLen]) (by simp)
 refine .sl (f:=fun i => .int .i64 (xs.getD i 0)) (by simp) hl hm ⟨Nat.le_trans hlo h1,_,_,hg⟩ (Array.getElem?_eq_some_iff.1 hg).1 (fun j hj => ?_) fun j hj => ?_
 ·have:=hc j (by simpa using hj)
  simp only [World.cell?,hg]
  simpa using this
 have:j<xs.length:=by simpa using hj
 simp only [List.getElem_map]
 have e:xs.getD j 0=xs[j]:=by simp [this]
 rw [e];exact .v _
theorem ownll_pu {ps:List (Value × List Int)} (hlo:n0≤lo) (h:OwnLL lo w u ps):Pu (n0 ≤ ·) w (nw w n0) (slA 1 cLi (ps.map (·.2))) u:=by
 obtain ⟨⟨hl,h1⟩,h2⟩:=h
 rcases h1 with ⟨rfl,h0⟩ | ⟨g,cap,cur,rfl,hb,hg,hnc,hcm,hcs,htake⟩
 ·have:ps=[]:=List.eq_nil_of_length_eq_zero h0
  subst this
  exact .sl0 (by simp [maxLen]) (by simp)
 have e0:∀ L:List (Value × List Int),(L.map (·.2)).flatMap cLi=L.map fun p=>Zb p.2:=fun L=>by
  induction L with
  | nil=>rfl
  | cons p L ih=>simp only [List.map_cons,List.flatMap_cons,ih];rfl
 have:slA 1 cLi (ps.map (·.2)) = .sl 1 ps.length (ps.map fun p=>Zb p.2):=by
  unfold slA
  rw [e0,List.length_map]
 rw [this]
 refine .sl (f:=fun j=>((ps.map (·.1))[j]?).getD undef) (by simp) (by simpa using hnc) hcm ⟨Nat.le_trans hlo hb,_,_,hg⟩ (Array.getElem?_eq_some_iff.1 hg).1 (fun j hj => ?_) fun j hj => ?_
 ·have hj':j<ps.length:=by simpa using hj
  have:(ps.map (·.1))[j]? = some (ps[j]'hj').1:=by simp [hj']
  rw [this]
  rw [← htake,List.getElem?_take_of_lt (by simpa using hj')] at this
  simp only [World.cell?,hg]
  simpa using this
 have hj':j<ps.length:=by simpa using hj
 have:(ps.map (·.1))[j]? = some (ps[j]'hj').1:=by simp [hj']
 rw [this]
 simp only [List.getElem_map,Option.getD_some]
 exact owni_pu hlo (h2 _ (List.getElem_mem hj')).1
theorem Shapes_n (n:Int):Ctr Tryz.prog J 19 [iv n] (.tup [slA 1 cLi (shX n),iv (shZ n)]):=fun w vs _ hl hv=>by
 match vs,hl,hv with
 | ⟨[v0]⟩,_,hv =>
   obtain rfl:=(hv 0 (by simp)).v_inv
   by_cases h:n<1∨8<n
   ·have e1:shX n=[]:=by unfold shX;rw [if_pos h]
    have e2:shZ n=1:=by unfold shZ;rw [if_pos h]
    rw [e1,e2]
    refine (Shapes_bad n h w).mono fun e w' ⟨he,hw⟩=>⟨_,he,?_,by rw [← hw];exact Below.refl _ _⟩
    exact .tup rfl fun j hj=>(match j,hj with
     | 0,_ => .sl0 (by simp [maxLen]) (by simp)
     | 1,_ => .v _)
   obtain ⟨m,rfl⟩:=Int.eq_ofNat_of_zero_le (show 0≤n by omega)
   have e2:shZ (m:Int)=0:=by unfold shZ;rw [if_neg h]
   rw [e2,← shL_eq m (by omega) (by omega)]
   refine (Zcw m (by omega) (by omega) w).mono fun e w' ⟨u,he,⟨ps,hL,hp⟩,hb⟩=>⟨_,he,?_,hb⟩
   rw [← hp]
   exact .tup rfl fun j hj=>(match j,hj with
    | 0,_=>ownll_pu (Nat.le_succ _) hL
    | 1,_ => .v _)
theorem zknown_c:Ctr Tryz.prog J 7 [] bT:=fun w vs _ hl _=>by
 have:vs = #[]:=Array.eq_empty_of_size_eq_zero (by simpa using hl)
 subst this
 exact (zknown_any w).mono fun _ _=>ret_sc
end Sh
structure FamLen (q:Fm):Prop where
 sz:q.sz.length≤60
 msgs:q.msgs.length≤60
 vals:q.vals.length≤60
 res:q.res.length≤60
 init:q.init.length≤60
 lz:q.lz.length≤60
 lrules:q.rz.length≤30
 rz:∀ r∈q.rz,RuLen r
theorem famLen {q:Fm} (h:bigF q=false):FamLen q:=by
 unfold bigF at h
 simp only [Bool.or_eq_false_iff,decide_eq_false_iff_not] at h
 obtain ⟨⟨⟨⟨⟨⟨⟨⟨⟨⟨⟨h0,h1⟩,h2⟩,h3⟩,h4⟩,h5⟩,h6⟩,h7⟩,h8⟩,_⟩,_⟩,_⟩:=h
 refine ⟨by omega,by omega,by omega,by omega,by omega,by omega,by omega,fun r hr => ?_⟩
 unfold bigRk at h8
 rw [List.take_length,List.any_eq_false] at h8
 have h9:=h8 r hr
 have h10:bigR r=false:=by simpa using h9
 unfold bigR at h10
 simp only [Bool.or_eq_false_iff,decide_eq_false_iff_not] at h10
 obtain ⟨⟨⟨⟨⟨⟨⟨⟨_,a1⟩,a2⟩,a3⟩,a4⟩,a5⟩,a6⟩,a7⟩,a8⟩:=h10
 exact ⟨by omega,by omega,by omega,by omega,by omega,by omega,by omega,by omega⟩
def sameK (xs ys:List Int) (k:Nat):Prop:=xs.take k=ys.take k
variable {ys:List Int}{k:Nat}
theorem sameK_succ (h:k<xs.length) (h':k<ys.length) (hk:sameK xs ys k) (e:xs[k]=ys[k]):sameK xs ys (k+1):=by
 unfold sameK at *;rw [List.take_succ_eq_append_getElem h,List.take_succ_eq_append_getElem h',hk,e]
theorem eqI_differ (h:k<xs.length) (h':k<ys.length) (e:xs[k]≠ys[k]):eqI xs ys=false:=by
 unfold eqI;rw [decide_eq_false_iff_not];rintro rfl;exact e rfl
theorem ZeZ (h:xs.length≠ys.length):eqI xs ys=false:=by
 unfold eqI;rw [decide_eq_false_iff_not];rintro rfl;exact h rfl
theorem eqI_end (h:k=xs.length) (h':k=ys.length) (hk:sameK xs ys k):eqI xs ys=true:=by
 unfold sameK at hk;rw [List.take_of_length_le (by omega),List.take_of_length_le (by omega)] at hk
 unfold eqI;rw [decide_eq_true_iff];exact hk
theorem Equal_full (b off n cap b' off' n' cap':Nat) (w:World) (xs ys:List Int) (hx:xs.length=n) (hy:ys.length=n') (hn:n≤9223372036854775807) (hb:b<w.heap.size) (hb':b'<w.heap.size)
 (hc:∀ i,i<n→w.cell? ⟨b,off+i,none⟩=some (.int .i64 (xs.getD i 0))) (hc':∀ i,i<n'→w.cell? ⟨b',off'+i,none⟩=some (.int .i64 (ys.getD i 0))) :
 Calls Tryz.prog 88 #[.slice (some ⟨b,off,none⟩) n cap,.slice (some ⟨b',off',none⟩) n' cap'] w fun e w'=>e = .returned (.bool (eqI xs ys))∧Below w.heap.size w w':=by
 by_cases hnn:n=n'
 ·subst hnn
  go_enter Tryz.func88,Tryz.ntmps88
  go_wp2_with fail
  go_loopw [13] (fun v wr=>∃ k:Nat,k≤n∧v = .int .i64 k∧sameK xs ys k∧Below w.heap.size w wr) (fun v _=>n-(intOf v).toNat)
  case atStart=>exact ⟨0,Nat.zero_le _,rfl,rfl,Below.refl _ _⟩
  case round =>
   obtain ⟨k,hk,rfl,hs,hB⟩:=hrel
   have HS:=Lib.hid hs
   have HB:=Lib.hid hB
   clear hs
   by_cases h1:k<n
   ·have g1:wr.cell? ⟨b,off+k,none⟩=some (.int .i64 (xs.getD k 0)):=(hB.cell (p:=⟨b,off+k,none⟩) hb).trans (hc k h1)
    have g2:wr.cell? ⟨b',off'+k,none⟩=some (.int .i64 (ys.getD k 0)):=(hB.cell (p:=⟨b',off'+k,none⟩) hb').trans (hc' k h1)
    have ex:xs.getD k 0=xs[k]'(by omega):=by simp [List.getD,List.getElem?_eq_getElem (show k<xs.length by omega)]
    have ey:ys.getD k 0=ys[k]'(by omega):=by simp [List.getD,List.getElem?_eq_getElem (show k<ys.length by omega)]
    rw [ex] at g1
    rw [ey] at g2
    generalize hX:xs[k]'(by omega)=x at g1
    generalize hY:ys[k]'(by omega)=y at g2
    have HX:=Lib.hid hX
    have HY:=Lib.hid hY
    clear hB ex ey hX hY
    by_cases he:x=y
    ·have HE:=Lib.hid he
     have e1:(x==y)=true:=by simp [he]
     have e2:(x != y)=false:=by rw [bne,e1];rfl
     clear he
     go_wp2_with fail
     go_quiet (fail)
     go_wp2_with fail
     go_roundw
     case rel=>exact ⟨k+1,by omega,by go_num,sameK_succ (by omega) (by omega) HS.out (by rw [HX.out,HY.out];exact HE.out),quietBelow HB.out _⟩
     case measure=>simp [intOf];omega
    have HE:=Lib.hid he
    have e1:(x==y)=false:=by simp [he]
    have e2:(x != y)=true:=by rw [bne,e1];rfl
    clear he
    go_wp2_with fail
    go_quiet (fail)
    go_wp2_with fail
    go_ret
    exact ⟨Zi (by rw [eqI_differ (k:=k) (by omega) (by omega) (by rw [HX.out,HY.out];exact HE.out)]),quietBelow HB.out _⟩
   clear hB
   go_wp2_with fail
   go_ret
   exact ⟨Zi (by rw [eqI_end (k:=k) (by omega) (by omega) HS.out]),HB.out⟩
 have h1:((n:Int)==(n':Int))=false:=by simp;omega
 have h2:((n:Int) != (n':Int))=true:=by rw [bne,h1];rfl
 have E:=Lib.hid (ZeZ (xs:=xs) (ys:=ys) (by rw [hx,hy];exact hnn))
 clear hnn
 go_enter Tryz.func88,Tryz.ntmps88
 go_wp2_with fail
 go_ret
 exact ⟨Zi (by rw [E.out]),Below.refl _ _⟩
theorem Zcy (a a':Option Addr) (cap n' cap':Nat) (w:World) (ys:List Int) (hy:ys.length=n') (hn:n'≤9223372036854775807) :
 Calls Tryz.prog 88 #[.slice a 0 cap,.slice a' n' cap'] w fun e w'=>e = .returned (.bool (eqI [] ys))∧Below w.heap.size w w':=by
 by_cases h0:n'=0
 ·subst h0
  obtain rfl:=List.eq_nil_of_length_eq_zero hy
  go_enter Tryz.func88,Tryz.ntmps88
  go_wp2_with fail
  refine wp_loop_rounds 1 ?_
  rw [rounds_succ]
  go_wp2_with fail
  go_ret
  exact ⟨rfl,Below.refl _ _⟩
 have h1:(((0:Nat):Int)==(n':Int))=false:=by simp;omega
 have h1':((0:Int)==(n':Int))=false:=by simp;omega
 have h2:((0:Int) != (n':Int))=true:=by rw [bne,h1'];rfl
 have E:=Lib.hid (ZeZ (xs:=[]) (ys:=ys) (by simp;omega))
 clear h0
 go_enter Tryz.func88,Tryz.ntmps88
 go_wp2_with fail
 go_ret
 exact ⟨Zi (by rw [E.out]),Below.refl _ _⟩
theorem Zfi (a a':Option Addr) (n cap cap':Nat) (w:World) (x:Int) (xs:List Int) (hx:(x::xs).length=n) (hn:n≤9223372036854775807) :
 Calls Tryz.prog 88 #[.slice a n cap,.slice a' 0 cap'] w fun e w'=>e = .returned (.bool (eqI (x::xs) []))∧Below w.heap.size w w':=by
 have h0:0<n:=by simp at hx;omega
 have h1:((n:Int)==(0:Int))=false:=by simp;omega
 have h2:((n:Int) != (0:Int))=true:=by rw [bne,h1];rfl
 have E:=Lib.hid (ZeZ (xs:=x::xs) (ys:=[]) (by simp))
 clear hx
 go_enter Tryz.func88,Tryz.ntmps88
 go_wp2_with fail
 go_ret
 exact ⟨Zi (by rw [E.out]),Below.refl _ _⟩
theorem Equal_any {lo lo':Nat} (h:IsInts lo w v xs) (h':IsInts lo' w v' ys) :
 Calls Tryz.prog 88 #[v,v'] w fun e w'=>e = .returned (.bool (eqI xs ys))∧Below w.heap.size w w':=by
 obtain ⟨a,cap,rfl,hl,hm,hi,hc⟩:=h
 obtain ⟨a',cap',rfl,hl',hm',hi',hc'⟩:=h'
 unfold maxLen at hm hm'
 rcases hc with rfl | ⟨b,off,rfl,_,hb,hc⟩
 ·exact Zcy _ _ _ _ _ _ _ rfl (by omega)
 rcases hc' with rfl | ⟨b',off',rfl,_,hb',hc'⟩
 ·cases xs with
  | nil=>exact Zcy _ _ _ _ _ _ _ rfl (by simp)
  | cons x xs=>exact Zfi _ _ _ _ _ _ _ _ rfl (by omega)
 exact Equal_full _ _ _ _ _ _ _ _ _ _ _ rfl rfl (by omega) hb hb' hc hc'
end Go.Proofs.YtdbehgbggaaipaaGreat
namespace Go.Proofs.YtdbehgbggaaipaaGreat
open Go.RowKit Go.Deep
deriving instance DecidableEq for Ru
deriving instance DecidableEq for Fm
section
variable {α:Type} {xs ys:List α} {k:Nat}
variable [DecidableEq α]
end
section
variable {P:Program} {J:World→Prop} {o:Oper}
end
variable {J:World→Prop}
theorem eqIntsG (xs ys:List Int) (hx:InOk xs) (hy:InOk ys):Ctr Tryz.prog J 88 [Zb xs,Zb ys] (bv (decide (xs=ys))):=ctr2 fun w v v' _ h h' =>
 (Equal_any (YE hx lo0 h) (YE hy lo0 h')).mono fun _ _=>ret_sc
structure SP (r s:Ru):Prop where
 n9:[r.kind,r.frm,r.to,r.pf,r.pt,r.rd,r.wr,r.pos,r.dir]=[s.kind,s.frm,s.to,s.pf,s.pt,s.rd,s.wr,s.pos,s.dir]
 resp:r.resp=s.resp
 gz:r.gz=s.gz
 ex:r.ex=s.ex
 fa:r.fa=s.fa
 send:r.send=s.send
 left:r.left=s.left
 right:r.right=s.right
 pz:r.pz=s.pz
end Go.Proofs.YtdbehgbggaaipaaGreat
namespace Go.Proofs.YtdbehgbggaaipaaGreat
open Go.RowKit Go.Deep
structure Cf where
 sh:List Int
 st:List Int
 cor:Int
 se:List Int
 fa:List Int
 val:Int
def IsCf (lo:Nat) (w:World) (v:Value) (q:Cf):Prop :=
 ∃ u0 u1 u3 u4,v = .agg #[u0,u1,.int .i64 q.cor,u3,u4,.int .i64 q.val]∧IsInts lo w u0 q.sh∧IsInts lo w u1 q.st∧I64 q.cor∧IsInts lo w u3 q.se∧IsInts lo w u4 q.fa∧I64 q.val
theorem IsCf.below {lo:Nat} {w w':World} {v:Value} {q:Cf} (h:IsCf lo w v q) (hb:Below w.heap.size w w'):IsCf lo w' v q:=by
 obtain ⟨u0,u1,u3,u4,e,h0,h1,h2,h3,h4,h5⟩:=h
 exact ⟨u0,u1,u3,u4,e,h0.below hb,h1.below hb,h2,h3.below hb,h4.below hb,h5⟩
def cmpCf (a b:Cf):Int:=orL [cmpI a.sh b.sh,cmpI a.st b.st,cmpI a.se b.se,cmpI a.fa b.fa,cmpN a.cor b.cor,cmpN a.val b.val]
variable {J:World→Prop}
section
variable {P:Program} {o:Oper}
variable {n:Nat}
theorem sp_makeZ {t e k bytes z:Nat} {zv:Value} (fr:Bool) {kl kc:IntKind} {x y:Operand} (ho:o.op = .makeSlice t x y) (hu:P.underlying t=some (.slice e)) (hi:(P.info? e).map (fun i=>(i.size,i.bytes,i.zero))=some (z,bytes,some zv)) (hz:zv.cells.size=z) (h0:0<z)
 (hb:bytes*n≤281474976710656) (h63:n≤maxLen) {cs:List AV} (hcs:(List.range (n*z)).map (fun j=>AV.v (zv.cells.getD (j % z) undef))=cs) :
 ASpec P J o [(x,.v (.int kl (n:Int))),(y,.v (.int kc (n:Int)))] [] (.own k) (.new k (.row fr e z n cs)) :=
 W7 fun ρ B a w _ hB ha _ hk=>by
  subst hcs
  obtain ⟨i,hi1,hi2⟩:=Option.map_eq_some_iff.1 hi
  simp only [Prod.mk.injEq] at hi2
  obtain ⟨e1,e2,e3⟩:=hi2
  have hx:=(ha (x,.v (.int kl (n:Int))) (by simp)).v_inv
  have hy:=(ha (y,.v (.int kc (n:Int))) (by simp)).v_inv
  have hsz:(madeCells zv.cells (n*z)).size=n*z:=size_madeCells _ _
  have hget:∀ j,j<n*z→(madeCells zv.cells (n*z))[j]? = some (zv.cells.getD (j % z) undef):=fun j hj=>by
   have hlt:j % zv.cells.size<zv.cells.size:=Nat.mod_lt _ (by omega)
   have hlt':j % z<zv.cells.size:=by rw [← hz];exact hlt
   subst hz
   simp [madeCells,hj,Array.getD,hlt]
  have hrun:=run_make (P:=P) w t e i zv hu hi1 e3 kl kc n n (by omega) (by omega) (by rw [e2];have:=hb;omega) (by have:=h63;simp only [maxLen] at this;omega)
  simp only [Int.toNat_natCast,e1] at hrun
  refine ⟨_,n,n,madeCells zv.cells (n*z),e,?_,.own (nm := .at w.heap.size n n) (Yc _ _ _),(madeCells zv.cells (n*z)).toList,⟨by simp [hsz],.inr ⟨w.heap.size,n,madeCells zv.cells (n*z),rfl,ZeI hB,heap_alloc_new w _,Nat.le_refl _,h63,hsz,by rw [List.take_of_length_le];simp [hsz]⟩⟩,by simp [hsz],fun j hj => ?_⟩
  ·simp only [execOp,ho,hx,hy]
   exact Yd hrun
  have hj':j<n*z:=by simpa using hj
  have:(madeCells zv.cells (n*z)).toList.getD j undef=zv.cells.getD (j % z) undef:=by
   rw [List.getD_eq_getElem?_getD,Array.getElem?_toList,hget j hj'];rfl
  rw [this]
  simp only [List.getElem_map,List.getElem_range]
  exact .v _
end
theorem setAll_mid (ds:List AV):∀ (A C D:List AV),C.length=ds.length→setAll (A++C++D) A.length ds=A++ds++D:=by
 induction ds with
 | nil=>intro A C D h;rw [List.eq_nil_of_length_eq_zero h];rfl
 | cons d ds ih =>
   intro A C D h
   cases C with
   | nil=>cases h
   | cons c C =>
     rw [setAll]
     have e:(A++c::C++D).set A.length d=(A++[d])++C++D:=by
      rw [List.append_assoc,List.set_append_right _ _ (Nat.le_refl _)]
      simp
     rw [e]
     have:=ih (A++[d]) C D (by simpa using h)
     simp only [List.length_append,List.length_cons,List.length_nil,Nat.zero_add] at this
     rw [this]
     simp
end Go.Proofs.YtdbehgbggaaipaaGreat
