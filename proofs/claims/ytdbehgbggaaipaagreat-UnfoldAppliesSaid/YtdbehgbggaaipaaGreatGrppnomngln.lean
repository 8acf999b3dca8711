import Derived.Test.YtdbehgbggaaipaaGreatGrpkeegmnpc
import Derived.Test.YtdbehgbggaaipaaGreatGrpodlhbjnj
import Derived.Test.YtdbehgbggaaipaaGreatGrpiiicjbhn
import Derived.Test.YtdbehgbggaaipaaGreatGrpbifnacna
import Derived.Test.YtdbehgbggaaipaaGreatGrpdmbijldf
import Derived.Test.YtdbehgbggaaipaaGreatGrpjjcjfmdi
set_option linter.all false
namespace Go.Proofs.YtdbehgbggaaipaaGreat
open Go.RowKit Go.Deep
variable {J:World→Prop}
section
variable {P:Program} {o:Oper}
variable {len n k off:Nat}
theorem Zdu {t e:TypeId} {m:Int} {ik:IntKind} (x y:Operand) (ho:o.op = .slice t x none (some y) none) (hu:P.underlying t=some (.array len e)) (hz:(P.info? e).map (·.size)=some 1) (hn:n≤len) (h0:Nat.blt 0 len=true) (hmn:m=(n:Int)) :
 ASpec P J o [(x,.box k off),(y,.v (.int ik m))] [] (.bsl k off n) .no :=
 ZH fun ρ B a w _ ha _=>by
  subst hmn
  obtain ⟨b,c,n1,h1',h2⟩:=(ha (x,.box k off) (by simp)).box_inv
  have hy:=(ha (y,.v (.int ik (n:Int))) (by simp)).v_inv
  obtain ⟨it,hi,_⟩:=Option.map_eq_some_iff.1 hz
  have h0':0<len:=by rwa [Nat.blt_eq] at h0
  refine ⟨.slice (some ⟨b,off,none⟩) n len,?_,.bsl (o:=off) (m:=n) h1' (.inl ⟨b,c,n1,off,len,rfl,rfl,fun _=>rfl⟩)⟩
  simp only [execOp,ho,h2]
  refine Yb ?_
  have r2:(Instr.sliceBound (a.eval y) len .sliceAlen).run P w = .ok n w:=by
   rw [hy];simp [Instr.sliceBound,asIntOf,hn]
  simp [Instr.sliceAt,run_underlying hu,Instr.sureAddr,Instr.sliceBounds,sizeOf,typeInfo,hi,r2,Addr.add_mid]
theorem sp_lenBsl {t e:TypeId} (x:Operand) (ho:o.op = .call { callee := .builtin .len,args := #[x],argTypes := #[t] }) (hu:P.underlying t=some (.slice e)):ASpec P J o [(x,.bsl k off n)] [] (.v (.int .i64 n)) .no :=
 ZH fun ρ B a w _ ha _=>by
  obtain ⟨nm,_,h3⟩:=(ha (x,.bsl k off n) (by simp)).bsl_part
  refine ⟨.int .i64 n,?_,.pu (.v _)⟩
  rcases h3 with ⟨b,c,n1,o',cap,rfl,h4,_⟩ | ⟨rfl,h4⟩<;>simp [execOp,ho,resolve,invoke,builtin,h4,Zbf hu]
theorem Zex {t e:TypeId} {n k off off':Nat} {ik:IntKind} {i:Int} (x y:Operand) (ho:o.op = .indexAddr t x y) (hu:P.underlying t=some (.slice e)) (hz:(P.info? e).map (·.size)=some 1) (h0:0≤i) (h1:i<n) (he:off+i.toNat*1=off') :
 ASpec P J o [(x,.bsl k off n),(y,.v (.int ik i))] [] (.box k off') .no :=
 ZH fun ρ B a w _ ha _=>by
  obtain ⟨b,c,n1,cp,h1',h2⟩:=(ha (x,.bsl k off n) (by simp)).bsl_inv (by omega)
  have hy:=(ha (y,.v (.int ik i)) (by simp)).v_inv
  refine ⟨_,?_,.box (o:=off') h1'⟩
  simp only [execOp,ho,h2,hy]
  exact Yb (by rw [Zby hu hz _ _ _ _ _ _ h0 h1,he])
theorem Yx {t e:TypeId} {cs ds:List AV} (x:Operand) (ho:o.op = .slice t x none none none) (hu:P.underlying t=some (.array len e)) (hz:(P.info? e).map (·.size)=some 1) (h0:Nat.blt 0 len=true) (hm:Nat.ble len maxLen=true) (hd:(cs.drop off).take len=ds) (hl:ds.length=len) :
 ASpec P J o [(x,.el cs off)] [] (.sl 1 len ds) .no :=
 ZH fun ρ B a w _ ha _=>by
  obtain ⟨b,base,f,h2,hb,hw,hf,hp⟩:=rel_el (ha (x,.el cs off) (by simp))
  obtain ⟨it,hi,_⟩:=Option.map_eq_some_iff.1 hz
  have h0':0<len:=by rwa [Nat.blt_eq] at h0
  refine ⟨.slice (some ⟨b,base+off,none⟩) len len,?_,.pu (.sl (f:=fun j=>f (off+j)) (by omega) (Nat.le_refl _) (Nat.le_of_ble_eq_true hm) hb hw (fun j hj => ?_) fun j hj => ?_)⟩
  ·simp only [execOp,ho,h2]
   refine Yb ?_
   simp [Instr.sliceAt,run_underlying hu,Instr.sureAddr,Instr.sliceBounds,sizeOf,typeInfo,hi,Addr.add_mid]
  ·subst hd
   obtain ⟨h5,_⟩:=Kb cs off _ j hj
   rw [Nat.add_assoc];exact hf _ h5
  subst hd
  obtain ⟨h5,h6⟩:=Kb cs off _ j hj
  rw [h6];exact hp _ h5
end
variable {cs:List AV}
theorem Zas {h:AHeap} {t:ATm} (i k o:Nat) {T:TypeId} {t':ATm} (hb:h k=some (.box T cs)) (hi:t.f i = .box k o) (hv:cs.all AV.pu1=true) (ht:(⟨t.n,fun j=>if j=i then .el cs o else (t.f j).wk3 (fun j => !(j==k)) h⟩:ATm)=t') (hk:k<hand:=by decide) :
 Wk h t (fun j=>if j=k then none else (h j).map (ABlk.wk (fun j => !(j==k)) h)) t':=by
 subst ht
 intro J w0 ρ a w s
 refine ⟨kept (fun j => !(j==k)) ρ,?_⟩
 have H:∀ X x,Rel ρ w0.heap.size w X x→Rel (kept (fun j => !(j==k)) ρ) w0.heap.size w (X.wk3 (fun j => !(j==k)) h) x:=fun X x hx=>ZeF s.wf s.hp hx
 have H1:∀ X x,Rel ρ w0.heap.size w X x→Rel (kept (fun j => !(j==k)) ρ) w0.heap.size w (X.wk1 (fun j => !(j==k)) h) x:=fun X x hx=>Kf s.wf s.hp hx
 have hsub:∀ k' nm,kept (fun j => !(j==k)) ρ k'=some nm→ρ k'=some nm∧k'≠k:=fun k' nm e=>by
  dsimp only [kept] at e
  split at e
  ·rename_i e1;exact ⟨e,by simpa using e1⟩
  cases e
 have hyes:∀ k',k'≠k→kept (fun j => !(j==k)) ρ k'=ρ k':=fun k' e=>KU (by simpa using e)
 refine ⟨⟨fun j k b c d m n hj hk=>s.wf.inj _ _ _ _ _ _ _ (hsub _ _ hj).1 (hsub _ _ hk).1,fun k b c n hk=>s.wf.lo _ _ _ _ (hsub _ _ hk).1⟩,s.hH,s.bel,s.inv,fun j X hj => ?_,fun j hl hj => ?_,fun j hj=>(hyes j (by omega)).trans (s.pin j hj),s.tl,fun j hj => ?_,s.df,fun j hj => ?_⟩
 ·by_cases e:j=k
  ·rw [if_pos e] at hj;cases hj
  rw [if_neg e] at hj
  obtain ⟨Y,hY,rfl⟩:=Option.map_eq_some_iff.1 hj
  obtain ⟨nm,g1,g2⟩:=s.hp j Y hY
  refine ⟨nm,(hyes j e).trans g1,?_⟩
  cases Y with
  | box T cs =>
    obtain ⟨b,c,n,vs,rfl,q1,q2,q3⟩:=g2
    exact ⟨b,c,n,vs,rfl,q1,by simpa using q2,fun j hj=>by rw [List.getElem_map];exact H1 _ _ (q3 j (by simpa using hj))⟩
  | row fr e z n cs =>
    obtain ⟨xs,q1,q2,q3⟩:=g2
    exact ⟨xs,q1,q2,fun j hj=>(q3 j hj).weak fun b hb=>⟨fun k c n hk=>hb.1 _ _ _ (hsub _ _ hk).1,hb.2⟩⟩
 ·by_cases e:j=k
  ·subst e;exact ZeP (by simp)
  rw [if_neg e] at hj
  rw [hyes j e]
  exact s.dom j hl (by simpa using hj)
 ·show Rel _ _ _ (if j=i then _ else _) _
  by_cases e:j=i
  ·subst e
   rw [if_pos rfl]
   have h1:=s.tm j hj
   rw [hi] at h1
   obtain ⟨b,c,n,g1,g2⟩:=h1.box_inv
   obtain ⟨nm,g3,b',c',n',vs,e0,q1,q2,q3⟩:=s.hp k _ hb
   rw [g1] at g3;cases g3;cases e0
   have hnk:okOf (kept (fun j => !(j==k)) ρ) b:=fun k' c' n' hk'=>by
    have:=hsub _ _ hk'
    exact this.2 (s.wf.inj _ _ _ _ _ _ _ this.1 g1)
   rw [g2]
   have:=(Pu.el (F:=(w0.heap.size ≤ ·)) (w:=w) (ok:=okOf (kept (fun j => !(j==k)) ρ)) (off:=0) (o:=o) (cs:=cs) (f:=fun j=>vs.getD j undef) hnk (s.wf.lo _ _ _ _ g1).2 (fun j hj => ?_) fun j hj => ?_)
   ·rw [Nat.zero_add] at this
    exact .pu this
   ·have hj2:j<vs.size:=by omega
    rw [Nat.zero_add]
    simp [World.cell?,q1,Array.getD,hj2]
   exact ((q3 j hj).pu1 (List.all_eq_true.1 hv _ (List.getElem_mem hj))).weak fun b hb k' c' n' hk'=>hb _ _ _ (hsub _ _ hk').1
  rw [if_neg e];exact H _ _ (s.tm j hj)
 show (if j=k then _ else _)=none
 by_cases e:j=k
 ·rw [if_pos e]
 rw [if_neg e,s.gh j hj];rfl
namespace Ap
open En
variable {l:List Int}{i:Nat}{x:Int}
theorem ZaK (h:i<l.length) (j:Nat):(l.set i x).getD j 0=if i=j then x else l.getD j 0:=by
 rw [List.getD_eq_getElem?_getD,List.getD_eq_getElem?_getD]
 by_cases e:i=j
 ·subst e;rw [if_pos rfl,List.getElem?_set_self h];rfl
 rw [if_neg e,List.getElem?_set_ne e]
def wst (c:Cf) (l:List Int):Cf:=⟨c.sh,l,c.cor,c.se,c.fa,c.val⟩
def wse (c:Cf) (l:List Int):Cf:=⟨c.sh,c.st,c.cor,l,c.fa,c.val⟩
def wfa (c:Cf) (l:List Int):Cf:=⟨c.sh,c.st,c.cor,c.se,l,c.val⟩
variable {s:Int}{c:Cf}
theorem cfV_setSt (h:i<8) (hl:i<c.st.length):setAll (cfV s c) (1+i*1) [iv x]=cfV s (wst c (c.st.set i x)):=by
 obtain rfl | rfl | rfl | rfl | rfl | rfl | rfl | rfl:i=0∨i=1∨i=2∨i=3∨i=4∨i=5∨i=6∨i=7:=by omega
 all_goals (unfold cfV wst;simp only [ZaK hl];rfl)
theorem cfV_setSe (h:i<3) (hl:i<c.se.length):setAll (cfV s c) (9+i*1) [iv x]=cfV s (wse c (c.se.set i x)):=by
 obtain rfl | rfl | rfl:i=0∨i=1∨i=2:=by omega
 all_goals (unfold cfV wse;simp only [ZaK hl];rfl)
theorem cfV_setFa (h:i<3) (hl:i<c.fa.length):setAll (cfV s c) (12+i*1) [iv x]=cfV s (wfa c (c.fa.set i x)):=by
 obtain rfl | rfl | rfl:i=0∨i=1∨i=2:=by omega
 all_goals (unfold cfV wfa;simp only [ZaK hl];rfl)
variable {k:Nat}
theorem cfV_se (h:k<3):(cfV s c)[9+k*1]? = some (iv (c.se.getD k 0)):=by
 obtain rfl | rfl | rfl:k=0∨k=1∨k=2:=by omega
 all_goals rfl
def brd (r:Ru) (s:Int):Int:=r.resp.getD s.toNat 0
def brL (r:Ru) (l:List Int) (j:Nat):List Int:=(List.range l.length).map fun q=>if q<j then brd r (l.getD q 0) else l.getD q 0
theorem brL_len (r:Ru) (l:List Int) (j:Nat):(brL r l j).length=l.length:=by simp [brL]
variable {r:Ru}
theorem Zen {j q:Nat} (h:q<l.length):(brL r l j)[q]'(by rw [brL_len];exact h)=if q<j then brd r (l.getD q 0) else l.getD q 0:=by simp [brL]
theorem brL_zero (r:Ru) (l:List Int):brL r l 0=l:=by
 refine List.ext_getElem (brL_len _ _ _) fun q h1 h2 => ?_
 rw [Zen h2,if_neg (by omega),Ct.getD_at h2]
variable {j:Nat}
theorem brL_all (r:Ru) (l:List Int) (h:l.length≤j):brL r l j=l.map (brd r):=by
 refine List.ext_getElem (by rw [brL_len,List.length_map]) fun q h1 h2 => ?_
 have hq:q<l.length:=by rw [brL_len] at h1;exact h1
 rw [Zen hq,if_pos (by omega),Ct.getD_at hq,List.getElem_map]
theorem brL_get (h:j<l.length):(brL r l j).getD j 0=l.getD j 0:=by
 rw [Ct.getD_at (by rw [brL_len];exact h),Zen h,if_neg (by omega)]
theorem brL_set :(brL r l j).set j (brd r (l.getD j 0))=brL r l (j+1):=by
 refine List.ext_getElem (by rw [List.length_set,brL_len,brL_len]) fun q h1 h2 => ?_
 have hq:q<l.length:=by rw [brL_len] at h2;exact h2
 rw [List.getElem_set,Zen hq,Zen hq]
 by_cases e:j=q
 ·subst e;rw [if_pos rfl,if_pos (by omega)]
 rw [if_neg e]
 by_cases e2:q<j
 ·rw [if_pos e2,if_pos (by omega)]
 rw [if_neg e2,if_neg (by omega)]
theorem br_step (h:j<c.st.length) (h8:c.st.length≤8) (hx:x=brd r (c.st.getD j 0)):setAll (cfV s (wst c (brL r c.st j))) (1+j*1) [iv x]=cfV s (wst c (brL r c.st (j+1))):=by
 rw [cfV_setSt (c:=wst c (brL r c.st j)) (by omega) (by show j<(brL r c.st j).length;rw [brL_len];exact h)]
 show cfV s (wst c ((brL r c.st j).set j x))=_
 rw [hx,brL_set]
theorem br_load (h:j<c.st.length) (h8:c.st.length≤8):(cfV s (wst c (brL r c.st j)))[1+j*1]? = some (iv (c.st.getD j 0)):=by
 rw [cfV_st (by omega)]
 show some (iv ((brL r c.st j).getD j 0))=_
 rw [brL_get h]
theorem brd_at (h:x.toNat<r.resp.length):r.resp[x.toNat]=brd r x:=by
 unfold brd;rw [Ct.getD_at h]
variable {p:Fm}
theorem cst_in {n f:Int} (h:CfV p n f c) (hj:j<c.st.length):0≤c.st.getD j 0∧c.st.getD j 0<p.sz.length:=by
 rw [Ct.getD_at hj];exact h.st _ (List.getElem_mem hj)
def st0 (c:Cf) (r:Ru):List Int:=if r.kind=3 then c.st.map (brd r) else c.st
def st1 (c:Cf) (r:Ru) (i:Nat):List Int:=(st0 c r).set i r.to
def stA (c:Cf) (r:Ru) (i:Nat) (k:Int):List Int:=if r.kind=2∨r.kind=5 then (st1 c r i).set k.toNat r.pt else st1 c r i
theorem st0_len (c:Cf) (r:Ru):(st0 c r).length=c.st.length:=by unfold st0;split<;>simp
theorem st1_len (c:Cf) (r:Ru) (i:Nat):(st1 c r i).length=c.st.length:=by unfold st1;rw [List.length_set,st0_len]
theorem stA_len (c:Cf) (r:Ru) (i:Nat) (k:Int):(stA c r i k).length=c.st.length:=by unfold stA;split<;>simp [st1_len]
def snd (l ms:List Int):List Int:=ms.foldl (fun l m=>l.set m.toNat (l.getD m.toNat 0+1)) l
theorem snd_len (ms:List Int):∀ l:List Int,(snd l ms).length=l.length:=by
 induction ms with
 | nil=>intro l;rfl
 | cons m ms ih=>intro l;show (snd _ ms).length=_;rw [ih,List.length_set]
theorem Zbe (l ms:List Int) (h:k<ms.length):snd l (ms.take (k+1))=(snd l (ms.take k)).set ms[k].toNat ((snd l (ms.take k)).getD ms[k].toNat 0+1):=by
 unfold snd
 rw [List.take_succ_eq_append_getElem h,List.foldl_append]
 rfl
variable {a:Int}
theorem getD_in (h:∀ x∈l,0≤x∧x≤a) (ha:0≤a) (j:Nat):0≤l.getD j 0∧l.getD j 0≤a:=by
 by_cases hj:j<l.length
 ·rw [Ct.getD_at hj];exact h _ (List.getElem_mem hj)
 rw [List.getD_eq_getElem?_getD,List.getElem?_eq_none (by omega)];exact ⟨by decide,ha⟩
theorem snd_in (ms:List Int):∀ (l:List Int) (a:Int),0≤a→(∀ x∈l,0≤x∧x≤a)→∀ x∈snd l ms,0≤x∧x≤a+ms.length:=by
 induction ms with
 | nil=>intro l a ha h x hx;have:=h x hx;simp;exact this
 | cons m ms ih =>
   intro l a ha h x hx
   have:=ih (l.set m.toNat (l.getD m.toNat 0+1)) (a+1) (by omega) (fun y hy => ?_) x hx
   ·rw [List.length_cons];omega
   rcases List.mem_or_eq_of_mem_set hy with h1 | rfl
   ·have:=h y h1;omega
   have:=getD_in h ha m.toNat;omega
def seA (cor:Int) (c:Cf) (r:Ru) (i k:Nat):List Int:=if (i:Int)<cor then snd c.se (r.send.take k) else c.se
def faA (cor:Int) (c:Cf) (r:Ru) (i k:Nat):List Int:=if (i:Int)<cor then c.fa else snd c.fa (r.send.take k)
def mid (cor:Int) (c:Cf) (r:Ru) (i:Nat) (kp:Int) (k:Nat):Cf:=⟨c.sh,stA c r i kp,c.cor,seA cor c r i k,faA cor c r i k,c.val⟩
def af (cor:Int) (c:Cf) (r:Ru) (i:Nat) (kp:Int):Cf:=⟨c.sh,stA c r i kp,c.cor,seA cor c r i r.send.length,faA cor c r i r.send.length,if 0≤r.wr then r.wr else c.val⟩
theorem mid_zero (cor:Int) (c:Cf) (r:Ru) (i:Nat) (kp:Int):mid cor c r i kp 0=wst c (stA c r i kp):=by
 unfold mid wst seA faA snd
 simp
theorem seA_len (cor:Int) (c:Cf) (r:Ru) (i k:Nat):(seA cor c r i k).length=c.se.length:=by unfold seA;split<;>simp [snd_len]
theorem faA_len (cor:Int) (c:Cf) (r:Ru) (i k:Nat):(faA cor c r i k).length=c.fa.length:=by unfold faA;split<;>simp [snd_len]
variable {cor:Int}
theorem seA_in (h:∀ x∈c.se,0≤x∧x≤1048576):∀ x∈seA cor c r i k,0≤x∧x≤1048576+r.send.length:=by
 intro x hx
 unfold seA at hx
 split at hx
 ·have:=snd_in (r.send.take k) c.se 1048576 (by decide) h x hx
  have hl:(r.send.take k).length≤r.send.length:=by simp;omega
  omega
 have:=h x hx;omega
theorem faA_in (h:∀ x∈c.fa,0≤x∧x≤1048576):∀ x∈faA cor c r i k,0≤x∧x≤1048576+r.send.length:=by
 intro x hx
 unfold faA at hx
 split at hx
 ·have:=h x hx;omega
 have:=snd_in (r.send.take k) c.fa 1048576 (by decide) h x hx
 have hl:(r.send.take k).length≤r.send.length:=by simp;omega
 omega
variable {kp:Int}
theorem se_step (hc:(i:Int)<cor) (hk:k<r.send.length) (h3:r.send[k].toNat<3) (hl:r.send[k].toNat<c.se.length) :
 setAll (cfV s (mid cor c r i kp k)) (9+r.send[k].toNat*1) [iv ((seA cor c r i k).getD r.send[k].toNat 0+1)]=cfV s (mid cor c r i kp (k+1)):=by
 rw [cfV_setSe (c:=mid cor c r i kp k) h3 (by show _<(seA cor c r i k).length;rw [seA_len];exact hl)]
 refine congrArg (cfV s) ?_
 unfold wse mid
 have e1:seA cor c r i (k+1)=(seA cor c r i k).set r.send[k].toNat ((seA cor c r i k).getD r.send[k].toNat 0+1):=by
  unfold seA;rw [if_pos hc,if_pos hc,Zbe _ _ hk]
 have e2:faA cor c r i (k+1)=faA cor c r i k:=by unfold faA;rw [if_pos hc,if_pos hc]
 rw [e1,e2]
theorem fa_step (hc:¬ (i:Int)<cor) (hk:k<r.send.length) (h3:r.send[k].toNat<3) (hl:r.send[k].toNat<c.fa.length) :
 setAll (cfV s (mid cor c r i kp k)) (12+r.send[k].toNat*1) [iv ((faA cor c r i k).getD r.send[k].toNat 0+1)]=cfV s (mid cor c r i kp (k+1)):=by
 rw [cfV_setFa (c:=mid cor c r i kp k) h3 (by show _<(faA cor c r i k).length;rw [faA_len];exact hl)]
 refine congrArg (cfV s) ?_
 unfold wfa mid
 have e1:faA cor c r i (k+1)=(faA cor c r i k).set r.send[k].toNat ((faA cor c r i k).getD r.send[k].toNat 0+1):=by
  unfold faA;rw [if_neg hc,if_neg hc,Zbe _ _ hk]
 have e2:seA cor c r i (k+1)=seA cor c r i k:=by unfold seA;rw [if_neg hc,if_neg hc]
 rw [e1,e2]
theorem cfV_rowSe (h:c.se.length≤3):((cfV s c).drop 9).take c.se.length=c.se.map iv:=by
 apply List.ext_getElem?
 intro j
 rw [List.getElem?_take]
 by_cases hj:j<c.se.length
 ·rw [if_pos hj,List.getElem?_drop,List.getElem?_map,List.getElem?_eq_getElem hj,Option.map_some]
  have:=cfV_se (s:=s) (c:=c) (k:=j) (by omega)
  rw [Nat.mul_one,Ct.getD_at hj] at this
  exact this
 rw [if_neg hj,List.getElem?_map,List.getElem?_eq_none (by omega)];rfl
theorem cfV_rowFa (h:c.fa.length≤3):((cfV s c).drop 12).take c.fa.length=c.fa.map iv:=by
 apply List.ext_getElem?
 intro j
 rw [List.getElem?_take]
 by_cases hj:j<c.fa.length
 ·rw [if_pos hj,List.getElem?_drop,List.getElem?_map,List.getElem?_eq_getElem hj,Option.map_some]
  have:=cfV_fa (s:=s) (c:=c) (k:=j) (by omega)
  rw [Nat.mul_one,Ct.getD_at hj] at this
  exact this
 rw [if_neg hj,List.getElem?_map,List.getElem?_eq_none (by omega)];rfl
theorem bel3 {m:Int} (h:l.length≤3) (hm:0<m):Rd.belB [l.getD 0 0,l.getD 1 0,l.getD 2 0] m=Rd.belB l m:=by
 have h0:Rd.outB m 0=false:=by unfold Rd.outB;simp;omega
 match l,h with
 | [],_=>simp [Rd.belB,h0]
 | [a],_=>simp [Rd.belB,h0]
 | [a,b],_=>simp [Rd.belB,h0]
 | [a,b,d],_=>rfl
theorem flat_li (L:List (List Int)):L.flatMap cLi=L.map Zb:=by
 induction L with
 | nil=>rfl
 | cons a l ih=>rw [List.flatMap_cons,ih];rfl
variable {sh:List Int}
theorem sh_at {L:List (List Int)} (h:L[i]? = some sh):(L.flatMap cLi)[i*1]? = some (Zb sh):=by
 rw [flat_li,Nat.mul_one,List.getElem?_map,h];rfl
theorem shT_top {top n:Int} (h:0<(((Ns.shT top n).length:Nat):Int)):top=4:=by
 by_cases e:top=4
 ·exact e
 rw [Ns.shT_no e] at h;simp at h
def z16:List AV:=[iv 0,iv 0,iv 0,iv 0,iv 0,iv 0,iv 0,iv 0,iv 0,iv 0,iv 0,iv 0,iv 0,iv 0,iv 0,iv 0]
def zC:Cf:=⟨[],[],0,[],[],0⟩
theorem en_at {n t f:Int} {g:Nat→Int} {x y k:Int} (h:enB p n t f c g x y k=true):∃ (r i:Nat),r<p.rz.length∧i<c.st.length∧x=(r:Int)∧y=(i:Int):=by
 unfold enB at h
 rw [Bool.and_eq_true,Bool.and_eq_true] at h
 obtain ⟨a,b,_⟩:=h
 unfold isP at a b
 simp only [Bool.and_eq_true,decide_eq_true_eq] at a b
 exact ⟨x.toNat,y.toNat,by omega,by omega,by omega,by omega⟩
theorem rule_get {r:Nat} (hr:r<p.rz.length):p.rz.getD r default=p.rz[r]:=by
 rw [List.getD_eq_getElem?_getD,List.getElem?_eq_getElem hr];rfl
theorem pt_of {n t f:Int} {g:Nat→Int} {r i:Nat} {k:Int} {hr:r<p.rz.length} (h:enB p n t f c g (r:Int) (i:Int) k=true):ptB c p.rz[r] i k=true:=by
 unfold enB at h
 rw [Bool.and_eq_true,Bool.and_eq_true,Int.toNat_natCast,Int.toNat_natCast,rule_get hr] at h
 have h2:=h.2.2
 unfold enR at h2
 rw [Bool.and_eq_true,Bool.and_eq_true] at h2
 exact h2.2.1
theorem hpt_of {n t f:Int} {g:Nat→Int} {r i:Nat} {k:Int} {hr:r<p.rz.length} (h:enB p n t f c g (r:Int) (i:Int) k=true) (h25:p.rz[r].kind=2∨p.rz[r].kind=5):0≤k∧k<(c.st.length:Int):=by
 have h2:=pt_of (hr:=hr) h
 unfold ptB at h2
 rw [if_pos h25,Bool.and_eq_true,Bool.and_eq_true] at h2
 have:=h2.1.1
 unfold isP at this
 simp only [Bool.and_eq_true,decide_eq_true_eq] at this
 exact this
theorem ZeN (h:x∈l.set i a):x∈l∨x=a:=List.mem_or_eq_of_mem_set h
theorem st_in {n f:Int} (hc:CfV p n f c) (R:RuV p r) {k:Int}:∀ x∈stA c r i k,0≤x∧x<p.sz.length:=by
 have h0:∀ x∈st0 c r,0≤x∧x<p.sz.length:=fun x hx=>by
  unfold st0 at hx
  split at hx
  ·rename_i h3
   obtain ⟨y,hy,rfl⟩:=List.mem_map.1 hx
   have h4:=hc.st y hy
   have h5:=R.re h3
   have h6:y.toNat<r.resp.length:=by omega
   rw [← brd_at h6]
   exact h5.2 _ (List.getElem_mem h6)
  exact hc.st x hx
 have h1:∀ x∈st1 c r i,0≤x∧x<p.sz.length:=fun x hx=>by
  rcases ZeN hx with h | rfl
  ·exact h0 x h
  exact R.tf.1
 intro x hx
 unfold stA at hx
 split at hx
 ·rename_i h25
  rcases ZeN hx with h | rfl
  ·exact h1 x h
  exact R.pt h25
 exact h1 x hx
theorem af_ok (HL:FamLen p) {n f:Int} (hc:CfV p n f c) (hv:valE p=0) (HC:Rd.CgOk c) (l8:c.st.length≤8) {r:Nat} (hr:r<p.rz.length) (_:i<c.st.length) :Rd.CgOk (af (n-f) c p.rz[r] i kp):=by
 have R:=val_in hv (List.getElem_mem hr)
 have hz:=val_sizes hv
 have h6:=HL.sz
 have hsl:=(HL.rz _ (List.getElem_mem hr)).send
 have hls:=hc.ls
 have hlf:=hc.lf
 refine ⟨HC.sh,fun x hx => ?_,fun x hx => ?_,fun x hx => ?_,HC.lsh,?_,?_,?_⟩
 ·have:=st_in hc R x hx;unfold I64;omega
 ·have:=seA_in hc.se x hx;unfold I64;omega
 ·have:=faA_in hc.fa x hx;unfold I64;omega
 ·show (stA _ _ _ _).length≤100
  rw [stA_len];omega
 ·show (seA _ _ _ _ _).length≤100
  rw [seA_len];omega
 show (faA _ _ _ _ _).length≤100
 rw [faA_len];omega
theorem shI_T {n f:Int} (hc:CfV p n f c) (_:valE p=0) (h4:p.top=4):0≤Rd.shI p.top (Ns.shT p.top (Ns.cntE p n f)) c.sh∧Rd.shI p.top (Ns.shT p.top (Ns.cntE p n f)) c.sh<(((Ns.shT p.top (Ns.cntE p n f)).length:Nat):Int)∧(Ns.shT p.top (Ns.cntE p n f))[(Rd.shI p.top (Ns.shT p.top (Ns.cntE p n f)) c.sh).toNat]? = some c.sh:=by
 have h0:0≤Ns.cntE p n f:=by have:=hc.ln;omega
 have h:=shI_at hc (by omega) (by omega) h0
 have e:shS p.top (Ns.cntE p n f).toNat=Ns.shT p.top (Ns.cntE p n f):=by
  unfold shS;rw [if_pos h4,Ns.shT_tree h4,Int.toNat_of_nonneg h0]
 rwa [e] at h
theorem sh_no {n f:Int} (hc:CfV p n f c) (h4:¬ p.top=4):c.sh=[]:=by
 have h:=hc.sh
 rw [Rd.shB_no h4,decide_eq_true_iff] at h
 exact List.eq_nil_of_length_eq_zero (by omega)
def afX (p:Fm) (n f:Int) (c:Cf) (x y k:Int):Cf:=af (n-f) c (p.rz.getD x.toNat default) y.toNat k
def lgB (c:Cf):Bool:=Rd.belB c.se 1048577&&Rd.belB c.fa 1048577
def apE (p:Fm) (n t f:Int) (c:Cf) (x y k:Int):Int :=
 if Rd.vcE p n t f c=0 then (if enB p n t f c (hdJ p f c p.msgs.length) x y k=true then (if lgB (afX p n f c x y k)=true then 0 else 4) else 9) else Rd.vcE p n t f c
def apC (p:Fm) (n t f:Int) (c:Cf) (x y k:Int):Cf:=if apE p n t f c x y k=0 then afX p n f c x y k else zC
section
variable {p:Fm} {n t f:Int} {c:Cf} {x y k:Int} {r i:Nat}
theorem afX_at (hr:r<p.rz.length):afX p n f c (r:Int) (i:Int) k=af (n-f) c p.rz[r] i k:=by
 unfold afX;rw [Int.toNat_natCast,Int.toNat_natCast,rule_get hr]
theorem lg_and {c:Cf}:lgB c=true↔Rd.belB c.se 1048577=true∧Rd.belB c.fa 1048577=true:=by unfold lgB;rw [Bool.and_eq_true]
theorem apE_err (hz:¬ Rd.vcE p n t f c=0):apE p n t f c x y k=Rd.vcE p n t f c:=by unfold apE;rw [if_neg hz]
theorem apC_err (hz:¬ Rd.vcE p n t f c=0):apC p n t f c x y k=zC:=by unfold apC;rw [apE_err hz,if_neg hz]
theorem apE_no (hz:Rd.vcE p n t f c=0) (he:enB p n t f c (hdJ p f c p.msgs.length) x y k=false):apE p n t f c x y k=9:=by unfold apE;rw [if_pos hz,he];rfl
theorem apC_no (hz:Rd.vcE p n t f c=0) (he:enB p n t f c (hdJ p f c p.msgs.length) x y k=false):apC p n t f c x y k=zC:=by unfold apC;rw [apE_no hz he];rfl
theorem apE_ok (hz:Rd.vcE p n t f c=0) (he:enB p n t f c (hdJ p f c p.msgs.length) (r:Int) (i:Int) k=true) (hr:r<p.rz.length) (hl:Rd.belB (af (n-f) c p.rz[r] i k).se 1048577=true∧Rd.belB (af (n-f) c p.rz[r] i k).fa 1048577=true):apE p n t f c (r:Int) (i:Int) k=0:=by
 unfold apE;rw [if_pos hz,if_pos he,afX_at hr,if_pos (lg_and.2 hl)]
theorem apC_ok (hz:Rd.vcE p n t f c=0) (he:enB p n t f c (hdJ p f c p.msgs.length) (r:Int) (i:Int) k=true) (hr:r<p.rz.length) (hl:Rd.belB (af (n-f) c p.rz[r] i k).se 1048577=true∧Rd.belB (af (n-f) c p.rz[r] i k).fa 1048577=true):apC p n t f c (r:Int) (i:Int) k=af (n-f) c p.rz[r] i k:=by
 unfold apC;rw [apE_ok hz he hr hl,if_pos rfl,afX_at hr]
theorem apE_lg (hz:Rd.vcE p n t f c=0) (he:enB p n t f c (hdJ p f c p.msgs.length) (r:Int) (i:Int) k=true) (hr:r<p.rz.length) (hl:¬ (Rd.belB (af (n-f) c p.rz[r] i k).se 1048577=true∧Rd.belB (af (n-f) c p.rz[r] i k).fa 1048577=true)):apE p n t f c (r:Int) (i:Int) k=4:=by
 unfold apE;rw [if_pos hz,if_pos he,afX_at hr,if_neg (fun h=>hl (lg_and.1 h))]
theorem apC_lg (hz:Rd.vcE p n t f c=0) (he:enB p n t f c (hdJ p f c p.msgs.length) (r:Int) (i:Int) k=true) (hr:r<p.rz.length) (hl:¬ (Rd.belB (af (n-f) c p.rz[r] i k).se 1048577=true∧Rd.belB (af (n-f) c p.rz[r] i k).fa 1048577=true)):apC p n t f c (r:Int) (i:Int) k=zC:=by
 unfold apC;rw [apE_lg hz he hr hl];rfl
end
end Ap
def pair (k:Nat) (nm:Nm) (k2:Nat) (nm2:Nm):Names:=⟨fun j=>if j=k then some nm else if j=k2 then some nm2 else none,fun _=>False⟩
section
variable {k k2:Nat} {nm nm2:Nm}
theorem pair_one:pair k nm k2 nm2 k=some nm:=if_pos rfl
theorem pair_two (h:k≠k2):pair k nm k2 nm2 k2=some nm2:=(if_neg fun e=>h e.symm).trans (if_pos rfl)
variable {j:Nat}
theorem ZeJ {x:Nm} (h:pair k nm k2 nm2 j=some x):(j=k∧x=nm)∨(j=k2∧x=nm2):=by
 dsimp only [pair] at h
 split at h
 ·rename_i e;exact .inl ⟨e,(Option.some.inj h).symm⟩
 split at h
 ·rename_i e;exact .inr ⟨e,(Option.some.inj h).symm⟩
 cases h
end
def New2 (B:Nat) (w:World) (nm nm2:Nm):Prop:=(∀ b c n,nm = .at b c n→B≤b∧b<w.heap.size)∧(∀ b c n,nm2 = .at b c n→B≤b∧b<w.heap.size)∧∀ b c n c' n',nm = .at b c n→nm2 ≠ .at b c' n'
def CtrO2 (P:Program) (J:World→Prop) (f:FuncId) (args:List AV) (k:Nat) (Y:ABlk) (k2:Nat) (Y2:ABlk) (u:AV):Prop :=
 ∀ (w:World) (vs:Array Value),(∀ w',Below w.heap.size w w'→J w')→vs.size=args.length→(∀ j (hj:j<args.length),Pu (fun _=>True) w (fun b=>b<w.heap.size) args[j] (vs.getD j undef)) →
  Calls P f vs w fun e w'=>∃ v nm nm2,e = .returned v∧New2 w.heap.size w' nm nm2∧BlkR (pair k nm k2 nm2) w' w.heap.size nm Y∧BlkR (pair k nm k2 nm2) w' w.heap.size nm2 Y2∧Rel (pair k nm k2 nm2) w.heap.size w' u v∧Below w.heap.size w w'
section
variable {P:Program} {o:Oper}
variable {u:AV}{k2 e2 z2 n2:Nat}{cs2:List AV}
theorem ZaA {c:Operand} {xs:Array Operand} {ats:Array TypeId} {f:FuncId} {Xs Ys:List AV} {k e z n:Nat} (rd:List (Nat × ABlk)) (hC:CtrO2 P J f Ys k (.row true e z n cs) k2 (.row true e2 z2 n2 cs2) u) (ho:o.op = .call { callee := .value c,args:=xs,argTypes:=ats })
 (hf : (P.funcs[f]?).map (fun fn => (fn.name == "runtime.NumGoroutine") || fn.body.isNone) = some false) (hl : xs.size = Xs.length) (hv : Xs.map (AV.view rd) = Ys) (hfl : Xs.all AV.flat2 = true) (hs : u.safe3 = true) (hkk : Nat.beq k k2 = false := by rfl) :
 ASpec P J o ((c,.v (.func (.func f) #[] #[]))::xs.toList.zip Xs) rd u (.nws k (.row true e z n cs) k2 (.row true e2 z2 n2 cs2)):=by
 subst hv
 have hne:k≠k2:=fun e=>by rw [e,Nat.beq_refl] at hkk;cases hkk
 intro ρ B a w K Q hwf hB hJ ha hr hnew hk
 refine K5 ho (ha (c,.v (.func (.func f) #[] #[])) (by simp)).v_inv hf ?_
 rw [Array.append_empty]
 refine (hC w (xs.map a.eval) (fun w' h=>hJ w' (Kt h)) (by simpa using hl) fun j hj => ?_).mono fun e' w' ⟨v,nm,nm2,he,hnm,hblk,hblk2,hrel,hb⟩=>⟨v,he,hk (upd (upd ρ k nm) k2 nm2) w' v ?_⟩
 ·have hj1:j<Xs.length:=by simpa using hj
  have hj2:j<xs.size:=by omega
  rw [List.getElem_map]
  have hm:(xs[j],Xs[j])∈(c,AV.v (.func (.func f) #[] #[]))::xs.toList.zip Xs:=by
   refine List.mem_cons_of_mem _ ?_
   rw [List.mem_iff_getElem]
   exact ⟨j,by simp;omega,by simp⟩
  have:=(ha _ hm).view hwf hr (List.all_eq_true.1 hfl _ (List.getElem_mem hj1))
  simpa [Array.getD,hj2] using this
 have h1:upd (upd ρ k nm) k2 nm2 k=some nm:=(Yo hne).trans (Yk _ _ _)
 have h2:upd (upd ρ k nm) k2 nm2 k2=some nm2:=Yk _ _ _
 have h3:∀ j,j≠k→j≠k2→upd (upd ρ k nm) k2 nm2 j=ρ j:=fun j e1 e2=>(Yo e2).trans (Yo e1)
 have hok:∀ b,okOf (pair k nm k2 nm2) b→w.heap.size≤b→okOf (upd (upd ρ k nm) k2 nm2) b:=fun b hb1 hb2 j c' n' hj=>by
  by_cases e1:j=k
  ·subst e1
   rw [h1] at hj
   exact hb1 j c' n' (by rw [pair_one];exact hj)
  by_cases e2:j=k2
  ·subst e2
   rw [h2] at hj
   exact hb1 j c' n' (by rw [pair_two hne];exact hj)
  rw [h3 j e1 e2] at hj
  have:=(hwf.lo _ _ _ _ hj).2
  omega
 have hn:∀ j x,pair k nm k2 nm2 j=some x→upd (upd ρ k nm) k2 nm2 j=some x:=fun j x hj=>by
  rcases ZeJ hj with ⟨rfl,rfl⟩ | ⟨rfl,rfl⟩
  ·exact h1
  exact h2
 have hblkr:∀ {nm':Nm} {e z n:Nat} {cs:List AV},BlkR (pair k nm k2 nm2) w' w.heap.size nm' (.row true e z n cs)→BlkR (upd (upd ρ k nm) k2 nm2) w' B nm' (.row true e z n cs):=fun ⟨ys,q1,q2,q3⟩ =>
  ⟨ys,ZdS q1 (show rowB true B≤rowB true w.heap.size from hB),q2,fun j hj=>(q3 j hj).mono (fun b hb1 hw=>⟨⟨hok b hb1.1 (hb1.2 rfl).1,fun _=>⟨Nat.le_trans hB (hb1.2 rfl).1,(hb1.2 rfl).2⟩⟩,hw,rfl⟩) fun b _ h=>Nat.le_trans hB h⟩
 refine ⟨rfl,hb.os,hb.tape,hb.output,hb.size,fun b hb' _=>hb.block b hb',fun j hj hj2=>h3 j (fun e1=>hj (by rw [e1];rfl)) (fun e1=>hj2 (by rw [e1];rfl)),(fun _ _ h=>by cases h),fun k' X he' => ?_,ZdM (fun X x h => ?_) hn hs hrel,fun k' X he' => ?_⟩
 ·cases he'
  exact ⟨nm,h1,fun b c' n' e1=>⟨(hnm.1 b c' n' e1).2,.inl (Nat.le_trans hB (hnm.1 b c' n' e1).1),.inl (hnm.1 b c' n' e1).1⟩,hblkr hblk⟩
 ·cases h with
  | fr h=>exact .fr (h.mono (fun b hb1 hw=>⟨⟨hok b hb1.1 hb1.2.1,Nat.le_trans hB hb1.2.1,hb1.2.2⟩,hw,rfl⟩) fun b _ h=>Nat.le_trans hB h)
 cases he'
 refine ⟨nm2,h2,fun b c' n' e1=>⟨(hnm.2.1 b c' n' e1).2,Nat.le_trans hB (hnm.2.1 b c' n' e1).1,(hnm.2.1 b c' n' e1).1,fun k'' c'' n'' hk'' hat => ?_⟩,hblkr hblk2⟩
 cases hk''
 rw [h1] at hat
 exact hnm.2.2 b c'' n'' c' n' (Option.some.inj hat) e1
end
def AV.rep1 (k0 k j0 k2:Nat):AV→AV
 | .v x => .v x
 | .fr X => .fr X
 | .own j=>if j=k0 then .own k else if j=j0 then .own k2 else .any
 | _ => .any
def AV.rep2 (k0 k j0 k2:Nat):AV→AV
 | .agg cs => .agg (cs.map (AV.rep1 k0 k j0 k2))
 | X=>X.rep1 k0 k j0 k2
section
variable {w0:Wb} {ρ:Names} {h:AHeap} {t:ATm} {a:Act} {w:World} {k0 k j0 k2:Nat} {nm nm2:Nm}
variable {X:AV}
theorem rel_rep1 (hne:k≠k2) (hk:ρ k0=some nm) (hj:ρ j0=some nm2) {x:Value} (hr:Rel ρ w0.heap.size w X x):Rel (pair k nm k2 nm2) w0.heap.size w (X.rep1 k0 k j0 k2) x:=by
 cases hr with
 | pu hr =>
   cases hr with
   | v x=>exact .pu (.v x)
   | fr hr =>
     exact .pu (.fr (hr.weak fun b hb=>⟨fun j c n hj'=>by
      rcases ZeJ hj' with ⟨rfl,e⟩ | ⟨rfl,e⟩
      ·exact hb.1 k0 c n (by rw [hk,← e])
      exact hb.1 j0 c n (by rw [hj,← e]),hb.2⟩))
   | _=>exact .anyR
 | own hj' =>
   rename_i j nm'
   simp only [AV.rep1]
   split
   ·rename_i e
    subst e
    rw [hk] at hj';cases hj'
    exact .own pair_one
   split
   ·rename_i e
    subst e
    rw [hj] at hj';cases hj'
    exact .own (pair_two hne)
   exact .anyR
 | _=>exact .anyR
theorem rel_rep2 (hne:k≠k2) (hk:ρ k0=some nm) (hj:ρ j0=some nm2) {x:Value} (hr:Rel ρ w0.heap.size w X x):Rel (pair k nm k2 nm2) w0.heap.size w (X.rep2 k0 k j0 k2) x:=by
 cases X with
 | agg cs =>
   obtain ⟨vs,rfl,hl,hc⟩:=hr.agg_inv
   exact .agg (by simpa using hl) fun j hj'=>by rw [List.getElem_map];exact rel_rep1 hne hk hj (hc j (by simpa using hj'))
 | _=>exact rel_rep1 hne hk hj hr
end
def AV.rep3 (k0 k j0 k2:Nat):AV→AV
 | .tup cs => .tup (cs.map (AV.rep2 k0 k j0 k2))
 | X=>X.rep2 k0 k j0 k2
variable {ρ:Names}{w:World}{k0 k j0 k2:Nat}{X:AV}
theorem rel_rep3 {w0:Wb} {nm nm2:Nm} (hne:k≠k2) (hk:ρ k0=some nm) (hj:ρ j0=some nm2) {x:Value} (hr:Rel ρ w0.heap.size w X x):Rel (pair k nm k2 nm2) w0.heap.size w (X.rep3 k0 k j0 k2) x:=by
 cases X with
 | tup cs =>
   obtain ⟨vs,rfl,hl,hc⟩:=hr.tup_inv
   exact .tup (by simpa using hl) fun j hj'=>by rw [List.getElem_map];exact rel_rep2 hne hk hj (hc j (by simpa using hj'))
 | _=>exact rel_rep2 hne hk hj hr
def RetO2 (w0:Wb) (k:Nat) (Y:ABlk) (k2:Nat) (Y2:ABlk) (u:AV) (e:Ending) (w':World):Prop :=
 ∃ v nm nm2,e = .returned v∧New2 w0.heap.size w' nm nm2∧BlkR (pair k nm k2 nm2) w' w0.heap.size nm Y∧BlkR (pair k nm k2 nm2) w' w0.heap.size nm2 Y2∧Rel (pair k nm k2 nm2) w0.heap.size w' u v∧Bel w0 w'
section
variable {P:Program} {w0:Wb} {h:AHeap} {t:ATm}
variable {e2 z2 n2:Nat}{cs2:List AV}{u:AV}
theorem Sat.give2 {a:Act} (s:Sat J w0 ρ h t a w) {k0 k e z n:Nat} (hne:k≠k2) (hkj:k0≠j0) (hk:h k0=some (.row true e z n cs)) (hj:h j0=some (.row true e2 z2 n2 cs2)) {x:Value} (hr:Rel ρ w0.heap.size w X x) (hu:X.rep3 k0 k j0 k2=u) :
 RetO2 w0 k (.row true e z n cs) k2 (.row true e2 z2 n2 cs2) u (.returned x) w:=by
 subst hu
 obtain ⟨nm,h1,hb0⟩:=s.hp _ _ hk
 obtain ⟨nm2,h2,hb2⟩:=s.hp _ _ hj
 have hw:∀ {nm':Nm} {e z n:Nat} {cs:List AV},BlkR ρ w w0.heap.size nm' (.row true e z n cs)→BlkR (pair k nm k2 nm2) w w0.heap.size nm' (.row true e z n cs):=fun ⟨ys,q1,q2,q3⟩ =>
  ⟨ys,q1,q2,fun j hj=>(q3 j hj).weak fun b hb=>⟨fun j c n hj'=>by
   rcases ZeJ hj' with ⟨rfl,e⟩ | ⟨rfl,e⟩
   ·exact hb.1 k0 c n (by rw [h1,← e])
   exact hb.1 j0 c n (by rw [h2,← e]),hb.2⟩⟩
 refine ⟨x,nm,nm2,rfl,⟨fun b c n' e=>⟨hb0.lowR e,by subst e;exact (s.wf.lo _ _ _ _ h1).2⟩,fun b c n' e=>⟨hb2.lowR e,by subst e;exact (s.wf.lo _ _ _ _ h2).2⟩,fun b c n' c' n'' e1 e2 => ?_⟩,hw hb0,hw hb2,rel_rep3 hne h1 h2 hr,s.bel⟩
 subst e1 e2
 exact hkj (s.wf.inj _ _ _ _ _ _ _ h1 h2)
theorem Zaw {fn:Func} {r:ResultVar} (k0 j0:Nat) {k e z n:Nat} (hr:fn.results = #[r]) (h1:ResV P h t r X) (hk:h k0=some (.row true e z n cs)) (hj:h j0=some (.row true e2 z2 n2 cs2)) (hu:X.rep3 k0 k j0 k2=u) (hne:k≠k2) (hkj:Nat.beq k0 j0=false:=by rfl) :
 ETri J w0 h t (bodyPost P fn (RetO2 w0 k (.row true e z n cs) k2 (.row true e2 z2 n2 cs2) u) .ret):=fun ρ a w s=>by
 obtain ⟨v,g1,g2⟩:=Y5 s h1
 refine ⟨s.df,v,?_,s.give2 hne (fun e=>by rw [e,Nat.beq_refl] at hkj;cases hkj) hk hj g2 hu⟩
 unfold results
 rw [hr,Sem.run_bind,Zbg (v:=v) (by cases r<;>exact g1)]
 rfl
theorem tri_giveT2 {fn:Func} {r r':ResultVar} {X X' u:AV} (k0 j0:Nat) {k e z n:Nat} (hr:fn.results = #[r,r']) (h1:ResV P h t r X) (h2:ResV P h t r' X') (hk:h k0=some (.row true e z n cs)) (hj:h j0=some (.row true e2 z2 n2 cs2)) (hu:(AV.tup [X,X']).rep3 k0 k j0 k2=u) (hne:k≠k2) (hkj:Nat.beq k0 j0=false:=by rfl) :
 ETri J w0 h t (bodyPost P fn (RetO2 w0 k (.row true e z n cs) k2 (.row true e2 z2 n2 cs2) u) .ret):=fun ρ a w s=>by
 obtain ⟨v,g1,g2⟩:=Y5 s h1
 obtain ⟨v',g1',g2'⟩:=Y5 s h2
 refine ⟨s.df,.tuple #[v,v'],?_,s.give2 hne (fun e=>by rw [e,Nat.beq_refl] at hkj;cases hkj) hk hj (.tup rfl fun j hj => ?_) hu⟩
 ·unfold results
  rw [hr,Sem.run_bind,ZcZ (v:=v) (v':=v') (by cases r<;>exact g1) (by cases r'<;>exact g1')]
  rfl
 simp only [List.length_cons,List.length_nil] at hj
 match j,hj with
 | 0,_=>exact g2
 | 1,_=>exact g2'
variable {n:Nat}
theorem KY {f:FuncId} {fn:Func} {c:Code} {args:List AV} {Y:ABlk} {Y2:ABlk} (hf:P.funcs[f]? = some fn) (hb:fn.body=some c) (hpl:∀ X∈args,Plain X) (hnt:fn.ntmps=n) (hna:args.length≤n)
 (H:∀ w0,ETri J w0 (ofL []) (ofT n ((List.range args.length).zip args)) (c.wp P (bodyPost P fn (RetO2 w0 k Y k2 Y2 u)))):CtrO2 P J f args k Y k2 Y2 u:=fun w vs hJ hl hv=>by
 refine (calls_of_wp hf hb (H ⟨w,fun _=>False,fun _=>none⟩ ⟨fun _=>none,fun _=>False⟩ _ w ⟨⟨(fun _ _ _ _ _ _ _ h=>by cases h),(fun _ _ _ _ h=>by cases h)⟩,rfl,Bel.refl _,(fun w' h=>hJ w' (h.below fun _ h=>h)),(fun _ _ h=>by cases h),fun _ _ _=>rfl,fun _ _=>rfl,by simp [hl,hnt,ofT];omega,fun i hi => ?_,rfl,fun _ _=>rfl⟩)).mono fun e w' ⟨v,nm,nm2,q1,q2,q3,q4,q5,q6⟩=>⟨v,nm,nm2,q1,q2,q3,q4,q5,q6.below fun _ h=>h⟩
 simp only [ofT]
 cases hf:((List.range args.length).zip args).find? fun p=>p.1==i with
 | none=>exact .anyR
 | some p =>
   have hm:=List.mem_of_find?_eq_some hf
   have hk':p.1=i:=by have:=List.find?_some hf;simpa using this
   obtain ⟨j,hj,e⟩:=List.getElem_of_mem hm
   simp only [List.getElem_zip,List.getElem_range] at e
   subst e
   dsimp only at hk'
   subst hk'
   have hj1:j<args.length:=by simp at hj;omega
   simp only [Option.map_some,Option.getD_some]
   have:=(hv j hj1).plain (F':=(w.heap.size ≤ ·)) (hpl _ (List.getElem_mem hj1))
   have hj2:j<vs.size:=by omega
   have e:(vs++Array.replicate (fn.ntmps-vs.size) undef).getD j undef=vs.getD j undef:=by simp [Array.getD,hj2,Array.getElem_append_left hj2];omega
   rw [e]
   exact .pu (this.weak fun b _ k c n hk=>by cases hk)
end
namespace Ra
open En Ap
def stP (c:Cf) (r:Ru) (k:Int):List Int:=if r.kind=2∨r.kind=5 then (st0 c r).set k.toNat r.pt else st0 c r
theorem stP_len (c:Cf) (r:Ru) (k:Int):(stP c r k).length=c.st.length:=by unfold stP;split<;>simp [st0_len]
variable {c:Cf}{r:Ru}{i:Nat}
theorem stP_fin {k:Int} (h:r.kind=2∨r.kind=5→k.toNat≠i):(stP c r k).set i r.to=stA c r i k:=by
 unfold stP stA st1
 by_cases h2:r.kind=2∨r.kind=5
 ·rw [if_pos h2,if_pos h2,List.set_comm _ _ (h h2)]
 rw [if_neg h2,if_neg h2]
def wv (c:Cf) (r:Ru):Int:=if 0≤r.wr then r.wr else c.val
variable {l:List Int}{x:Int}
theorem set_row :setAll (l.map iv) (i*1) [iv x]=(l.set i x).map iv:=by
 show (l.map iv).set (i*1) (iv x)=_
 rw [Nat.mul_one,List.map_set]
variable {j:Nat}
theorem br_row (hx:x=brd r (c.st.getD j 0)):setAll ((brL r c.st j).map iv) (j*1) [iv x]=(brL r c.st (j+1)).map iv:=by
 rw [set_row,hx,brL_set]
theorem fin_row {k:Int} (h:r.kind=2∨r.kind=5→k.toNat≠i):setAll ((stP c r k).map iv) (i*1) [iv r.to]=(stA c r i k).map iv:=by
 rw [set_row,stP_fin h]
variable {cor:Int}
theorem ZeA (hc:(i:Int)<cor) (hk:k<r.send.length):seA cor c r i (k+1)=(seA cor c r i k).set r.send[k].toNat ((seA cor c r i k).getD r.send[k].toNat 0+1):=by
 unfold seA;rw [if_pos hc,if_pos hc,Zbe _ _ hk]
theorem ZeT (hc:¬ (i:Int)<cor) (hk:k<r.send.length):faA cor c r i (k+1)=(faA cor c r i k).set r.send[k].toNat ((faA cor c r i k).getD r.send[k].toNat 0+1):=by
 unfold faA;rw [if_neg hc,if_neg hc,Zbe _ _ hk]
theorem se_row (hc:(i:Int)<cor) (hk:k<r.send.length):setAll ((seA cor c r i k).map iv) (r.send[k].toNat*1) [iv ((seA cor c r i k).getD r.send[k].toNat 0+1)]=(seA cor c r i (k+1)).map iv:=by
 rw [set_row,ZeA hc hk]
theorem fa_row (hc:¬ (i:Int)<cor) (hk:k<r.send.length):setAll ((faA cor c r i k).map iv) (r.send[k].toNat*1) [iv ((faA cor c r i k).getD r.send[k].toNat 0+1)]=(faA cor c r i (k+1)).map iv:=by
 rw [set_row,ZeT hc hk]
theorem bel_of {m:Int} (h:∀ x∈l,0≤x∧x<m):Rd.belB l m=true:=by
 unfold Rd.belB
 rw [Bool.not_eq_true',List.any_eq_false]
 intro x hx
 have:=h x hx
 unfold Rd.outB
 simp only [Bool.or_eq_true,decide_eq_true_eq,not_or]
 omega
variable {M:Int}{m:Nat}
theorem bel_set (hb:Rd.belB l M=true) (hm:m<l.length) (h0:0≤x):Rd.belB (l.set m x) M=decide (x<M):=by
 by_cases h:x<M
 ·rw [decide_eq_true h]
  refine bel_of fun y hy => ?_
  rcases ZeN hy with h1 | rfl
  ·exact Zba hb y h1
  exact ⟨h0,h⟩
 rw [decide_eq_false h,Bool.eq_false_iff]
 intro e
 have hx:x∈l.set m x:=List.mem_iff_getElem.2 ⟨m,by rw [List.length_set];exact hm,List.getElem_set_self (by rw [List.length_set];exact hm)⟩
 exact h (Zba e x hx).2
theorem bel_inc (hn:∀ x∈l,0≤x) (hb:Rd.belB l M=false):Rd.belB (l.set m (l.getD m 0+1)) M=false:=by
 rw [Bool.eq_false_iff] at hb ⊢
 intro e
 refine hb (bel_of fun y hy=>⟨hn y hy,?_⟩)
 obtain ⟨j,hj,rfl⟩:=List.getElem_of_mem hy
 by_cases a:m=j
 ·subst a
  have hx:l.getD m 0+1∈l.set m (l.getD m 0+1):=List.mem_iff_getElem.2 ⟨m,by rw [List.length_set];exact hj,List.getElem_set_self (by rw [List.length_set];exact hj)⟩
  have:=(Zba e _ hx).2
  rw [Ct.getD_at hj] at this
  omega
 have hx:l[j]∈l.set m (l.getD m 0+1):=List.mem_iff_getElem.2 ⟨j,by rw [List.length_set];exact hj,List.getElem_set_ne a (by rw [List.length_set];exact hj)⟩
 exact (Zba e _ hx).2
section
variable {p:Fm} {n f:Int} {c:Cf} {r:Ru} {i k:Nat} {cor:Int}
variable {b:Bool}
theorem se_yes (hc:CfV p n f c) (hi:(i:Int)<cor) (hk:k<r.send.length) (hm:r.send[k].toNat<c.se.length) (hb:b=Rd.belB (seA cor c r i k) 1048577) (ht:b=true):decide ((seA cor c r i (k+1)).getD r.send[k].toNat 0≤1048576)=Rd.belB (seA cor c r i (k+1)) 1048577:=by
 rw [ht] at hb
 have h0:=Ap.getD_in (seA_in (cor:=cor) (r:=r) (i:=i) (k:=k) hc.se) (by omega) r.send[k].toNat
 rw [ZeA hi hk,ZaK (by rw [seA_len];exact hm),if_pos rfl,bel_set hb.symm (by rw [seA_len];exact hm) (by omega)]
 by_cases a:(seA cor c r i k).getD r.send[k].toNat 0+1≤1048576
 ·rw [decide_eq_true a,decide_eq_true (by omega)]
 rw [decide_eq_false a,decide_eq_false (by omega)]
theorem se_nope (hc:CfV p n f c) (hi:(i:Int)<cor) (hk:k<r.send.length) (hb:b=Rd.belB (seA cor c r i k) 1048577) (ht:b=false):false=Rd.belB (seA cor c r i (k+1)) 1048577:=by
 rw [ht] at hb
 rw [ZeA hi hk,bel_inc (fun x hx=>(seA_in hc.se x hx).1) hb.symm]
theorem fa_yes (hc:CfV p n f c) (hi:¬ (i:Int)<cor) (hk:k<r.send.length) (hm:r.send[k].toNat<c.fa.length) (hb:b=Rd.belB (faA cor c r i k) 1048577) (ht:b=true):decide ((faA cor c r i (k+1)).getD r.send[k].toNat 0≤1048576)=Rd.belB (faA cor c r i (k+1)) 1048577:=by
 rw [ht] at hb
 have h0:=Ap.getD_in (faA_in (cor:=cor) (r:=r) (i:=i) (k:=k) hc.fa) (by omega) r.send[k].toNat
 rw [ZeT hi hk,ZaK (by rw [faA_len];exact hm),if_pos rfl,bel_set hb.symm (by rw [faA_len];exact hm) (by omega)]
 by_cases a:(faA cor c r i k).getD r.send[k].toNat 0+1≤1048576
 ·rw [decide_eq_true a,decide_eq_true (by omega)]
 rw [decide_eq_false a,decide_eq_false (by omega)]
theorem fa_nope (hc:CfV p n f c) (hi:¬ (i:Int)<cor) (hk:k<r.send.length) (hb:b=Rd.belB (faA cor c r i k) 1048577) (ht:b=false):false=Rd.belB (faA cor c r i (k+1)) 1048577:=by
 rw [ht] at hb
 rw [ZeT hi hk,bel_inc (fun x hx=>(faA_in hc.fa x hx).1) hb.symm]
theorem bel_se (hc:CfV p n f c):Rd.belB c.se 1048577=true:=bel_of fun x hx=>by have:=hc.se x hx;omega
theorem bel_fa (hc:CfV p n f c):Rd.belB c.fa 1048577=true:=bel_of fun x hx=>by have:=hc.fa x hx;omega
theorem se_start (hc:CfV p n f c):true=Rd.belB (seA cor c r i 0) 1048577:=by
 have e:seA cor c r i 0=c.se:=by unfold seA snd;split<;>simp
 rw [e,bel_se hc]
theorem fa_start (hc:CfV p n f c):true=Rd.belB (faA cor c r i 0) 1048577:=by
 have e:faA cor c r i 0=c.fa:=by unfold faA snd;split<;>simp
 rw [e,bel_fa hc]
variable {k':Int}
theorem lg_se (hc:CfV p n f c) (hi:(i:Int)<cor):lgB (af cor c r i k')=Rd.belB (seA cor c r i r.send.length) 1048577:=by
 have e:(af cor c r i k').fa=c.fa:=if_pos hi
 unfold lgB
 rw [e,bel_fa hc,Bool.and_true]
 rfl
theorem lg_fa (hc:CfV p n f c) (hi:¬ (i:Int)<cor):lgB (af cor c r i k')=Rd.belB (faA cor c r i r.send.length) 1048577:=by
 have e:(af cor c r i k').se=c.se:=if_neg hi
 unfold lgB
 rw [e,bel_se hc,Bool.true_and]
 rfl
theorem res_se (hi:(i:Int)<cor):[Zb c.sh,AV.sl 1 (0+c.st.length) ((stA c r i k').map iv),iv c.cor,.sl 1 (0+c.se.length) ((seA cor c r i r.send.length).map iv),Zb c.fa,iv (wv c r)]=Rd.cCg (af cor c r i k'):=by
 have e:(af cor c r i k').fa=c.fa:=if_pos hi
 unfold Rd.cCg
 rw [e,show 0+c.st.length=(stA c r i k').length by rw [stA_len];omega,show 0+c.se.length=(seA cor c r i r.send.length).length by rw [seA_len];omega]
 rfl
theorem res_fa (hi:¬ (i:Int)<cor):[Zb c.sh,AV.sl 1 (0+c.st.length) ((stA c r i k').map iv),iv c.cor,Zb c.se,.sl 1 (0+c.fa.length) ((faA cor c r i r.send.length).map iv),iv (wv c r)]=Rd.cCg (af cor c r i k'):=by
 have e:(af cor c r i k').se=c.se:=if_neg hi
 unfold Rd.cCg
 rw [e,show 0+c.st.length=(stA c r i k').length by rw [stA_len];omega,show 0+c.fa.length=(faA cor c r i r.send.length).length by rw [faA_len];omega]
 rfl
theorem se_zero:seA cor c r i 0=c.se:=by unfold seA snd;split<;>simp
theorem fa_zero:faA cor c r i 0=c.fa:=by unfold faA snd;split<;>simp
end
end Ra
namespace Ra
open En Ap
variable {c:Cf}{r:Ru}{i:Nat}
theorem pt_ne {k:Int} (h:ptB c r i k=true) (h25:r.kind=2∨r.kind=5):k.toNat≠i:=by
 unfold ptB at h
 rw [if_pos h25,Bool.and_eq_true,Bool.and_eq_true] at h
 have h1:=h.1.1
 have h2:=h.1.2
 unfold isP at h1
 simp only [Bool.and_eq_true,decide_eq_true_eq,Bool.not_eq_true',decide_eq_false_iff_not] at h1 h2
 omega
section
variable {p:Fm} {n t f:Int} {c:Cf} {x y k:Int}
theorem apE_y (hz:Rd.vcE p n t f c=0) (he:enB p n t f c (hdJ p f c p.msgs.length) x y k=true) (hl:lgB (afX p n f c x y k)=true):apE p n t f c x y k=0:=by unfold apE;rw [if_pos hz,if_pos he,if_pos hl]
theorem apC_y (hz:Rd.vcE p n t f c=0) (he:enB p n t f c (hdJ p f c p.msgs.length) x y k=true) (hl:lgB (afX p n f c x y k)=true):apC p n t f c x y k=afX p n f c x y k:=by unfold apC;rw [apE_y hz he hl,if_pos rfl]
theorem apE_n (hz:Rd.vcE p n t f c=0) (he:enB p n t f c (hdJ p f c p.msgs.length) x y k=true) (hl:lgB (afX p n f c x y k)=false):apE p n t f c x y k=4:=by unfold apE;rw [if_pos hz,if_pos he,hl];rfl
theorem apC_n (hz:Rd.vcE p n t f c=0) (he:enB p n t f c (hdJ p f c p.msgs.length) x y k=true) (hl:lgB (afX p n f c x y k)=false):apC p n t f c x y k=zC:=by unfold apC;rw [apE_n hz he hl];rfl
end
end Ra
namespace Ap
variable {r:Ru}{c:Cf}{j:Nat}
theorem brd_el {h:j<c.st.length} (hr:c.st[j].toNat<r.resp.length):r.resp[c.st[j].toNat]=brd r (c.st.getD j 0):=by
 rw [brd_at hr,Ct.getD_at h]
variable {p:Fm}
theorem cst_el {n f:Int} (hc:En.CfV p n f c) (h:j<c.st.length):0≤c.st[j]∧c.st[j]<p.sz.length:=hc.st _ (List.getElem_mem h)
end Ap
set_option maxHeartbeats 12800000
set_option maxRecDepth 100000 in
theorem Zaf (xs:List Int) (hx:xs.length≤17592186044416) (k:Nat):CtrO Tryz.prog J 21 [Zb xs] k (.row true 3 1 (0+xs.length) (xs.map iv)) (.own k):=by
 refine ZeX Tryz.func21 rfl (by intro X hX;simp at hX;subst hX;exact ZM _) (n:=6) rfl (by simp) (fun w0 => ?_)
 refine kW 6 [] [(0,Zb xs)] (jB (oS (nz) (jD (Za (Yz rfl (Zbt (z:=1) (k:=1) true rfl U24 (by kernel_rfl)) T0 T0 rfl (oS (Zb xs) (Yz rfl (WU (n:=0) (cs:=[]) (fr:=true) (m:=xs.length) (ds:=(xs.map iv)) (⟨U24,by kernel_rfl,by decide⟩:Elt Tryz.prog 24 3 1 8) (.tmp 3) (.tmp 4) rfl (fun _ d hd=>by obtain ⟨x,_,rfl⟩:=List.mem_map.1 hd;rfl) (by unfold maxLen;omega) (by omega) (fun d hd=>by obtain ⟨x,_,rfl⟩:=List.mem_map.1 hd;rfl) (es:=(xs.map iv)) (by rw [Zdq];rfl)) ⟨I0,I0,T0⟩ ⟨rfl,T0⟩ rfl (oS (.own 1) (jE ?_)))))))))
 refine tri_give1 1 Tryz.results21 (.tmp rfl) rfl rfl
variable {c:Cf}
set_option maxRecDepth 100000 in
theorem CopyCf_se (HC:Rd.CgOk c) (k k2:Nat) (hkk:k≠k2):CtrO2 Tryz.prog J 8 [.agg (Rd.cCg c)] k (.row true 3 1 (0+c.st.length) (c.st.map iv)) k2 (.row true 3 1 (0+c.se.length) (c.se.map iv)) (.agg [.fr (Zb c.sh),.own k,iv c.cor,.own k2,.fr (Zb c.fa),iv c.val]):=by
 refine KY Tryz.func8 rfl (pN (Zh (Rd.plain_cg c)) pZ) (n:=20) rfl (by simp) (fun w0 => ?_)
 refine kW 20 [] [(0,.agg (Rd.cCg c))] (jB (oX 1 (.agg (Rd.cCg c)) (oZ 2 Z31 (jD ?_))))
 refine tD (dW (dW (dk (Kd c.sh (Nat.le_trans HC.lsh (by decide))) [Zb c.sh] rfl rfl (dW (dS (Zb c.st) (dR (Zaa (c := .func 21) (xs := #[.tmp 7]) [] (Zaf c.st (Nat.le_trans HC.lst (by decide)) 3) rfl (by kernel_rfl) rfl (Xs:=[Zb c.st]) rfl rfl rfl) ⟨I0,I0,T0⟩ T0 rfl (dW (dS (iv c.cor) (dW (dS (Zb c.se) (dR (Zaa (c := .func 21) (xs := #[.tmp 12]) [] (Zaf c.se (Nat.le_trans HC.lse (by decide)) 4) rfl (by kernel_rfl) rfl (Xs:=[Zb c.se]) rfl rfl rfl) ⟨I0,I0,T0⟩ T0 rfl (dW (dW (dk (Kd c.fa (Nat.le_trans HC.lfa (by decide))) [Zb c.fa] rfl rfl (dW (dS (iv c.val) (dR (Zbu [0,1,2,3,4,5] [.tmp 5,.tmp 8,.tmp 10,.tmp 13,.tmp 16,.tmp 18] [.fr (Zb c.sh),.own 3,iv c.cor,.own 4,.fr (Zb c.fa),iv c.val] [.inr 0,.inr 1,.inr 2,.inr 3,.inr 4,.inr 5] rfl rfl rfl rfl rfl (fun _=>by kernel_rfl) rfl (ds:=[.fr (Zb c.sh),.own 3,iv c.cor,.own 4,.fr (Zb c.fa),iv c.val]) rfl) ⟨I0,I0,I0,I0,I0,I0,T0⟩ T0 T0 (dY (eD ?_)))))))))))))))))))
 refine kW 20 [(2,.box 31 [.fr (Zb c.sh),.own 3,iv c.cor,.own 4,.fr (Zb c.fa),iv c.val]),(3,.row true 3 1 (0+c.st.length) (c.st.map iv)),(4,.row true 3 1 (0+c.se.length) (c.se.map iv))] [(2,bx 2)] (Ze (ZV ?_))
 refine Zaw 3 4 Tryz.results8 (.cellS rfl rfl U31 rfl (z:=6) (by kernel_rfl) rfl (by decide)) rfl rfl rfl hkk
set_option maxRecDepth 100000 in
theorem CopyCf_fa (HC:Rd.CgOk c) (k k2:Nat) (hkk:k≠k2):CtrO2 Tryz.prog J 8 [.agg (Rd.cCg c)] k (.row true 3 1 (0+c.st.length) (c.st.map iv)) k2 (.row true 3 1 (0+c.fa.length) (c.fa.map iv)) (.agg [.fr (Zb c.sh),.own k,iv c.cor,.fr (Zb c.se),.own k2,iv c.val]):=by
 refine KY Tryz.func8 rfl (pN (Zh (Rd.plain_cg c)) pZ) (n:=20) rfl (by simp) (fun w0 => ?_)
 refine kW 20 [] [(0,.agg (Rd.cCg c))] (jB (oX 1 (.agg (Rd.cCg c)) (oZ 2 Z31 (jD ?_))))
 refine tD (dW (dW (dk (Kd c.sh (Nat.le_trans HC.lsh (by decide))) [Zb c.sh] rfl rfl (dW (dS (Zb c.st) (dR (Zaa (c := .func 21) (xs := #[.tmp 7]) [] (Zaf c.st (Nat.le_trans HC.lst (by decide)) 3) rfl (by kernel_rfl) rfl (Xs:=[Zb c.st]) rfl rfl rfl) ⟨I0,I0,T0⟩ T0 rfl (dW (dS (iv c.cor) (dW (dW (dk (Kd c.se (Nat.le_trans HC.lse (by decide))) [Zb c.se] rfl rfl (dW (dS (Zb c.fa) (dR (Zaa (c := .func 21) (xs := #[.tmp 15]) [] (Zaf c.fa (Nat.le_trans HC.lfa (by decide)) 4) rfl (by kernel_rfl) rfl (Xs:=[Zb c.fa]) rfl rfl rfl) ⟨I0,I0,T0⟩ T0 rfl (dW (dS (iv c.val) (dR (Zbu [0,1,2,3,4,5] [.tmp 5,.tmp 8,.tmp 10,.tmp 13,.tmp 16,.tmp 18] [.fr (Zb c.sh),.own 3,iv c.cor,.fr (Zb c.se),.own 4,iv c.val] [.inr 0,.inr 1,.inr 2,.inr 3,.inr 4,.inr 5] rfl rfl rfl rfl rfl (fun _=>by kernel_rfl) rfl (ds:=[.fr (Zb c.sh),.own 3,iv c.cor,.fr (Zb c.se),.own 4,iv c.val]) rfl) ⟨I0,I0,I0,I0,I0,I0,T0⟩ T0 T0 (dY (eD ?_)))))))))))))))))))
 refine kW 20 [(2,.box 31 [.fr (Zb c.sh),.own 3,iv c.cor,.fr (Zb c.se),.own 4,iv c.val]),(3,.row true 3 1 (0+c.st.length) (c.st.map iv)),(4,.row true 3 1 (0+c.fa.length) (c.fa.map iv))] [(2,bx 2)] (Ze (ZV ?_))
 refine Zaw 3 4 Tryz.results8 (.cellS rfl rfl U31 rfl (z:=6) (by kernel_rfl) rfl (by decide)) rfl rfl rfl hkk
set_option maxRecDepth 100000
set_option maxHeartbeats 6400000
theorem has_c (xs:List Int) (x:Int) (hx:xs.length≤9223372036854775807):Ctr Tryz.prog J 69 [Zb xs,iv x] (bv (decide (x∈xs))):=by
 refine Zm Tryz.func69 rfl (pN (ZM _) (pN (.v _) pZ)) (n:=18) rfl (by simp) (fun w0 => ?_)
 refine kW 18 [] [(0,Zb xs),(1,iv x)] (jB (oS bF (jD (jB (oS (iv 0) (kN 18 [] [(0,Zb xs),(1,iv x),(4,bF),(5,iv 0)] (Ze (Zn ?_))))))))
 refine ZK (σ:={k:Nat // k≤xs.length∧noI xs x k}) (fun s=>(ofL [],ofT 18 [(0,Zb xs),(1,iv x),(5,iv s.1)])) (fun s=>xs.length-s.1) ⟨0,Nat.zero_le _,noI_zero _ _⟩ (Zp [] _) (fun s => ?_)
 obtain ⟨k,hk0,hs0⟩:=s
 show ETri J w0 (ofL []) (ofT 18 [(0,Zb xs),(1,iv x),(5,iv k)]) _
 refine jM ?_
 by_cases hs1:(k:Int)<(xs.length:Int)
 refine Za (oW (oW (oW (ol (dT hs1) (jH (Zq (jC (Zn (Zl ?_)))))))))
 by_cases hs2:xs[k]=x
 refine Za (oS (Zb xs) (oS (iv k) (oC (xS (k*1) 12 13 U24) I0 I0 (oL (iv xs[k]) (Zw xs (by omega)) (oW (oe (dT hs2) (jG (oS bT (jE (Zo (Zd (Zd (Zo (Zd ?_))))))))))))))
 refine Zg Tryz.results69 (.tmp rfl) ?_
 exact congrArg (fun b:Bool=>AV.v (.bool b)) ((has_yes (k:=k) (by omega) hs2).symm)
 refine Za (oS (Zb xs) (oS (iv k) (oC (xS (k*1) 12 13 U24) I0 I0 (oL (iv xs[k]) (Zw xs (by omega)) (oW (oe (dF hs2) (jI (Zq (Zv (Ze (Za (oS (iv k) (oV ((k+1:Nat):Int) (oS (iv (k+1:Nat)) (kN 18 [] [(0,Zb xs),(1,iv x),(5,iv (k+1:Nat)),(9,bT),(17,bF)] (Ze ?_))))))))))))))))
 refine Zs ⟨k+1,by omega,noI_succ' (by omega) hs0 hs2⟩ (show xs.length-(k+1)<xs.length-k by omega) ?_
 exact Zp [] _
 refine Za (oW (oW (oW (ol (dF hs1) (jI (jO (jC (Za (oS bF (jE ?_))))))))))
 refine Zg Tryz.results69 (.tmp rfl) ?_
 exact congrArg (fun b:Bool=>AV.v (.bool b)) ((has_no (k:=k) (by omega) hs0).symm)
theorem index_c (xs:List Int) (x:Int) (hx:xs.length≤9223372036854775807):Ctr Tryz.prog J 115 [Zb xs,iv x] (iv (idxI xs x)):=by
 refine Zm Tryz.func115 rfl (pN (ZM _) (pN (.v _) pZ)) (n:=19) rfl (by simp) (fun w0 => ?_)
 refine kW 19 [] [(0,Zb xs),(1,iv x)] (jB (oS (iv 0) (kN 19 [] [(0,Zb xs),(1,iv x),(4,iv 0)] (jC (jB (oF (iv xs.length) (oS (iv 0) (kN 19 [] [(0,Zb xs),(1,iv x),(4,iv 0),(7,iv xs.length),(8,iv 0)] (Ze (Zn ?_))))))))))
 refine ZK (σ:={k:Nat // k≤xs.length∧noI xs x k}) (fun s=>(ofL [],ofT 19 [(0,Zb xs),(1,iv x),(7,iv xs.length),(8,iv s.1)])) (fun s=>xs.length-s.1) ⟨0,Nat.zero_le _,noI_zero _ _⟩ (Zp [] _) (fun s => ?_)
 obtain ⟨k,hk0,hs0⟩:=s
 show ETri J w0 (ofL []) (ofT 19 [(0,Zb xs),(1,iv x),(7,iv xs.length),(8,iv k)]) _
 refine Zl ?_
 by_cases hs1:(k:Int)<(xs.length:Int)
 refine Za (ol (dT hs1) (jD (Ya rfl (Zq (jC (Zn (jB (oF (iv k) (jD ?_)))))))))
 by_cases hs2:x=xs[k]
 refine Za (oW (oS (Zb xs) (oS (iv k) (oC (xS (k*1) 12 13 U24) I0 I0 (oL (iv xs[k]) (Zw xs (by omega)) (oe (dT hs2) (jG (oF (iv k) (jE (Zo (Zd (Zd (Zo (Zd ?_))))))))))))))
 refine Zg Tryz.results115 (.tmp rfl) ?_
 exact congrArg (fun x:Int=>AV.v (.int .i64 x)) (idx_yes (by omega) hs0 hs2)
 refine Za (oW (oS (Zb xs) (oS (iv k) (oC (xS (k*1) 12 13 U24) I0 I0 (oL (iv xs[k]) (Zw xs (by omega)) (oe (dF hs2) (jI (Zq (Zv (Ze (Za (oV ((k+1:Nat):Int) (oS (iv (k+1:Nat)) (kN 19 [] [(0,Zb xs),(1,iv x),(5,iv k),(7,iv xs.length),(8,iv (k+1:Nat)),(9,bT),(16,bF)] (Ze ?_)))))))))))))))
 refine Zs ⟨k+1,by omega,noI_succ (by omega) hs0 hs2⟩ (show xs.length-(k+1)<xs.length-k by omega) ?_
 exact Zp [] _
 refine Za (ol (dF hs1) (jD (ZD rfl (jO (jC (Za (oS (iv (-1)) (jE ?_))))))))
 refine Zg Tryz.results115 (.tmp rfl) ?_
 exact congrArg (fun x:Int=>AV.v (.int .i64 x)) (idx_no (k:=k) (by omega) hs0)
theorem Wl (xs:List Int) (x:Int) (hx:xs.length≤9223372036854775807):Ctr Tryz.prog J 97 [Zb xs,iv x] (bv (decide (x∈xs))):=by
 refine Zm Tryz.func97 rfl (pN (ZM _) (pN (.v _) pZ)) (n:=9) rfl (by simp) (fun w0 => ?_)
 refine kW 9 [] [(0,Zb xs),(1,iv x)] (jB (oS bF (jD (Za (oW (oW (oK (index_c xs x hx) [Zb xs,iv x] rfl rfl (oC (Zbs rfl rfl) I0 I0 (oS (bv (decide (0≤idxI xs x))) (jE ?_))))))))))
 refine Zg Tryz.results97 (.tmp rfl) ?_
 exact congrArg (fun b:Bool=>AV.v (.bool b)) (idx_has xs x)
variable {n i:Nat}
theorem Jd.in_w (h:i<n):Rd.inW 0 ((n:Int)-1) (i:Int)=true:=by
 unfold Rd.inW
 rw [decide_eq_true (by omega),decide_eq_true (by omega)];rfl
variable {sh:List Int}
theorem Jd.ringS (hi:i<n):(((i+1:Nat):Nat):Int).tmod (n:Int)=Jd.lkS 3 sh n i:=by
 unfold Jd.lkS rowL
 rw [if_neg (by omega)]
 dsimp only
 by_cases e:(i:Int)=(n:Int)-1
 ·rw [if_pos e,if_pos rfl,show (((i+1:Nat):Nat):Int)=(n:Int) by omega,Int.tmod_self]
 rw [if_neg e,Int.tmod_eq_of_lt (by omega) (by omega)];omega
theorem Jd.t_2 (hs:shp sh=true) (hi:i<sh.length) (h:sh[i]=2):Jd.lkF 4 sh sh.length i=((i+1:Nat):Int)∧Jd.lkS 4 sh sh.length i=(trun sh sh.length).se i:=by
 have:=((Tr.tree_kids hs hi).2 (by rw [Ct.getD_at hi];exact h)).1
 unfold Jd.lkF Jd.lkS
 rw [if_pos rfl,if_pos rfl,this]
 exact ⟨by omega,rfl⟩
theorem Jd.t_0 (hs:shp sh=true) (hi:i<sh.length) (h:¬ sh[i]=2):Jd.lkF 4 sh sh.length i = -1∧Jd.lkS 4 sh sh.length i = -1:=by
 have:=(Tr.tree_kids hs hi).1 (by rw [Ct.getD_at hi];exact h)
 unfold Jd.lkF Jd.lkS
 rw [if_pos rfl,if_pos rfl]
 exact this
variable {xs:List Int}
theorem end_c (hs:shp xs=true) (lx:xs.length≤100) {j E:Nat} (hj1:j≤E) (hE:Tr.pre xs E+1=Tr.pre xs j) (hP:∀ t,j≤t→t<E→Tr.pre xs j≤Tr.pre xs t) (hl:E≤xs.length):Ctr Tryz.prog J 66 [Zb xs,iv j] (iv (E:Int)):=by
 refine Zm Tryz.func66 rfl (pN (ZM _) (pN (.v _) pZ)) (n:=18) rfl (by simp) (fun w0 => ?_)
 refine kW 18 [] [(0,Zb xs),(1,iv j)] (jB (oS (iv 0) (kN 18 [] [(0,Zb xs),(1,iv j),(4,iv 0)] (jC (Za (oS (iv 1) (kN 18 [] [(0,Zb xs),(1,iv j),(4,iv 0),(5,iv 1)] (jC (Zn ?_)))))))))
 refine ZK (σ:={s:Nat × Int // j≤s.1∧s.1≤E∧s.2=1+Tr.pre xs s.1-Tr.pre xs j}) (fun s=>(ofL [],ofT 18 [(0,Zb xs),(1,iv s.1.1),(4,iv 0),(5,iv s.1.2)])) (fun s=>E-s.1.1) ⟨(j,1),Nat.le_refl _,hj1,by dsimp only;omega⟩ (Zp [] _) (fun s => ?_)
 obtain ⟨⟨t,o⟩,ht0,ht1,hto⟩:=s
 show ETri J w0 (ofL []) (ofT 18 [(0,Zb xs),(1,iv t),(4,iv 0),(5,iv o)]) _
 dsimp only at ht0 ht1 hto
 have hb1:=Tr.pre_bd hs t (by omega)
 have hb2:=Tr.pre_bd hs j (by omega)
 refine jM ?_
 by_cases hs1:0<o
 have ht2:t<E:=by
  rcases Nat.lt_or_ge t E with h | h
  ·exact h
  exfalso;have e:t=E:=by omega
  subst e;omega
 have ht3:t<xs.length:=by omega
 have h02:=Tr.shp_02 hs ht3
 refine Za (oW (og (dT hs1) (jH (Zq (Ze (Zn (jB (oS (iv o) (oS (Zb xs) (oS (iv t) (oC (xS (t*1) 9 10 U24) I0 I0 (oL (iv xs[t]) (Zw xs (by omega)) (oU (xs[t]-1) (oV (o+xs[t]-1) (oS (iv (o+xs[t]-1)) (jA (Za (oS (iv t) (oV ((t+1:Nat):Int) ?_)))))))))))))))))))
 refine oS (iv (t+1:Nat)) (kN 18 [] [(0,Zb xs),(1,iv (t+1:Nat)),(4,iv 0),(5,iv (o+xs[t]-1)),(7,bT)] (Zv (Ze ?_)))
 refine Zs ⟨(t+1,o+xs[t]-1),by dsimp only;omega,by dsimp only;omega,by dsimp only;rw [Tr.pre_succ ht3];omega⟩ (show E-(t+1)<E-t by omega) ?_
 show Wk _ _ (ofL []) (ofT 18 [(0,Zb xs),(1,iv ((t+1):Nat)),(4,iv 0),(5,iv (o+xs[t]-1))])
 exact Zp [] _
 have ht2:t=E:=by
  rcases Nat.lt_or_ge t E with h | h
  ·exfalso;have:=hP t ht0 h;omega
  omega
 refine Za (oW (og (dF hs1) (jI (jO (jC (Za (oF (iv t) (jE ?_))))))))
 refine Zg Tryz.results66 (.tmp rfl) ?_
 subst ht2
 exact rfl
theorem Zeb (hs:shp xs=true) (lx:xs.length≤100) (hi:i<xs.length) (h2:xs[i]=2):Ctr Tryz.prog J 66 [Zb xs,iv ((i+1:Nat):Int)] (iv ((trun xs xs.length).se i)):=by
 obtain ⟨_,e,he,h3,h4,h5⟩:=(Tr.tree_kids hs hi).2 (by rw [Ct.getD_at hi];exact h2)
 have T:=(Zbn xs hs).1.snd i hi
 rw [he]
 refine end_c hs lx h4 h3 h5 ?_
 rcases T with h | ⟨j,hj,h,_⟩<;>omega
theorem nbRing_c (hi:i<n) (hn:n≤100) :Ctr Tryz.prog J 43 [iv 3,Zb sh,iv n,iv i] (.tup [iv (Jd.lkF 3 sh n i),iv (Jd.lkS 3 sh n i),iv (-1)]):=by
 refine Zm Tryz.func43 rfl (pN (.v _) (pN (ZM _) (pN (.v _) (pN (.v _) pZ)))) (n:=99) rfl (by simp) (fun w0 => ?_)
 refine kW 99 [] [(0,iv 3),(1,Zb sh),(2,iv n),(3,iv i)] (jB (oS (iv 0) (oS (iv 0) (oS (iv 0) (jD (jB (oW (oS (iv n) (oU ((n:Int)-1) (oK (Zr Ku (Jd.in_w hi)) [iv i,iv 0,iv ((n:Int)-1)] rfl rfl (oS bF (jF (jM (Za ?_))))))))))))))
 refine oS (iv 3) (oC (ZF (r:=true) rfl (by decide)) I0 I0 (jG (oS (iv i) (oU ((i:Int)-1) (oS (iv ((i:Int)-1)) (jD (Zl ?_)))))))
 by_cases hs1:(i:Int)=0
 refine Za (oW (oe (dT hs1) (jH (Za (oS (iv n) (oU ((n:Int)-1) (oS (iv ((n:Int)-1)) (jD ?_))))))))
 refine tD (dW (dS (iv i) (dC (WV (c:=((i+1:Nat):Int)) rfl (w64 (by omega) (by omega) (by omega))) I0 I0 (dS (iv n) (dC (sp_rem (c:=(Jd.lkS 3 sh n i)) rfl (by omega) (Jd.ringS hi)) I0 I0 (dS (iv ((n:Int)-1)) (dS (iv (Jd.lkS 3 sh n i)) (dS (iv (-1)) (eD ?_)))))))))
 refine Ze (jN ?_)
 refine Ky Tryz.results43 (.tmp rfl) (.tmp rfl) (.tmp rfl) ?_
 rw [show Jd.lkF 3 sh n i=(n:Int)-1 by unfold Jd.lkF rowL;rw [if_neg (by omega)];dsimp only;rw [if_pos ⟨rfl,hs1⟩]]
 exact rfl
 refine Za (oW (oe (dF hs1) (jF (Zl ?_))))
 refine tD (dW (dS (iv i) (dC (WV (c:=((i+1:Nat):Int)) rfl (w64 (by omega) (by omega) (by omega))) I0 I0 (dS (iv n) (dC (sp_rem (c:=(Jd.lkS 3 sh n i)) rfl (by omega) (Jd.ringS hi)) I0 I0 (dS (iv ((i:Int)-1)) (dS (iv (Jd.lkS 3 sh n i)) (dS (iv (-1)) (eD ?_)))))))))
 refine Ze (jN ?_)
 refine Ky Tryz.results43 (.tmp rfl) (.tmp rfl) (.tmp rfl) ?_
 rw [show Jd.lkF 3 sh n i=(i:Int)-1 by unfold Jd.lkF rowL;rw [if_neg (by omega)];dsimp only;rw [if_neg fun h=>hs1 h.2]]
 exact rfl
theorem nbLine_c (hi:i<n) (hn:n≤100) :Ctr Tryz.prog J 43 [iv 2,Zb sh,iv n,iv i] (.tup [iv (Jd.lkF 2 sh n i),iv (Jd.lkS 2 sh n i),iv (-1)]):=by
 refine Zm Tryz.func43 rfl (pN (.v _) (pN (ZM _) (pN (.v _) (pN (.v _) pZ)))) (n:=99) rfl (by simp) (fun w0 => ?_)
 refine kW 99 [] [(0,iv 2),(1,Zb sh),(2,iv n),(3,iv i)] (jB (oS (iv 0) (oS (iv 0) (oS (iv 0) (jD (jB (oW (oS (iv n) (oU ((n:Int)-1) (oK (Zr Ku (Jd.in_w hi)) [iv i,iv 0,iv ((n:Int)-1)] rfl rfl (oS bF (jF (jM (Za ?_))))))))))))))
 refine oS (iv 2) (oC (ZF (r:=false) rfl (by decide)) I0 I0 (jF (jM (Za (oS (iv 2) (oC (ZF (r:=true) rfl (by decide)) I0 I0 (jG (oS (iv i) (oU ((i:Int)-1) (oS (iv i) (oV ((i+1:Nat):Int) (oS (iv ((i:Int)-1)) (oS (iv (i+1:Nat)) (Yi ?_))))))))))))))
 refine jC (Zl ?_)
 by_cases hs1:((i+1:Nat):Int)=(n:Int)
 refine Za (oW (oW (oe (dT hs1) (jH (Za (oS (iv (-1)) (jD (Za (oW (oW (oS (iv ((i:Int)-1)) (oS (iv (-1)) (oS (iv (-1)) (jE (Zd ?_)))))))))))))))
 refine Ky Tryz.results43 (.tmp rfl) (.tmp rfl) (.tmp rfl) ?_
 rw [show Jd.lkF 2 sh n i=(i:Int)-1 by unfold Jd.lkF rowL;rw [if_neg (by omega)];dsimp only;rw [if_neg (by omega)],show Jd.lkS 2 sh n i=(-1) by unfold Jd.lkS rowL;rw [if_neg (by omega)];dsimp only;rw [if_pos (by omega),if_neg (by omega)]]
 exact rfl
 refine Za (oW (oW (oe (dF hs1) (jF (jB (oW (oW (oS (iv ((i:Int)-1)) (oS (iv (i+1:Nat)) (oS (iv (-1)) (jE (Zd ?_))))))))))))
 refine Ky Tryz.results43 (.tmp rfl) (.tmp rfl) (.tmp rfl) ?_
 rw [show Jd.lkF 2 sh n i=(i:Int)-1 by unfold Jd.lkF rowL;rw [if_neg (by omega)];dsimp only;rw [if_neg (by omega)],show Jd.lkS 2 sh n i=((i+1:Nat):Int) by unfold Jd.lkS rowL;rw [if_neg (by omega)];dsimp only;rw [if_neg (by omega)];omega]
 exact rfl
namespace En
def parI (sh:List Int) (i k:Nat) (q:Int):Prop :=
 (q = -1∧∀ j:Nat,j<k→(trun sh sh.length).fi j≠(i:Int)∧(trun sh sh.length).se j≠(i:Int))∨∃ j:Nat,j<k∧q=(j:Int)∧((trun sh sh.length).fi j=(i:Int)∨(trun sh sh.length).se j=(i:Int))
theorem par_zero :parI sh i 0 (-1) := .inl ⟨rfl,fun _ h=>absurd h (by omega)⟩
theorem par_here (hs:shp sh=true) (hk:k<sh.length) (h2:sh[k]=2) (h:((k+1:Nat):Int)=(i:Int)∨(trun sh sh.length).se k=(i:Int)):parI sh i (k+1) (k:Int):=by
 refine .inr ⟨k,by omega,rfl,?_⟩
 rcases h with h | h
 ·have:=((Tr.tree_kids hs hk).2 (by rw [Ct.getD_at hk];exact h2)).1
  exact .inl (by omega)
 exact .inr h
variable {q:Int}
theorem par_skip (hs:shp sh=true) (hk:k<sh.length) (h0:parI sh i k q) (h:¬ sh[k]=2∨(sh[k]=2∧¬ ((k+1:Nat):Int)=(i:Int)∧¬ (trun sh sh.length).se k=(i:Int))):parI sh i (k+1) q:=by
 rcases h0 with ⟨hq,h0⟩ | ⟨j,hj,hq,h0⟩
 ·refine .inl ⟨hq,fun j hj => ?_⟩
  by_cases e:j=k
  ·subst e
   rcases h with h | ⟨h2,h3,h4⟩
   ·have:=(Tr.tree_kids hs hk).1 (by rw [Ct.getD_at hk];exact h)
    omega
   have:=((Tr.tree_kids hs hk).2 (by rw [Ct.getD_at hk];exact h2)).1
   exact ⟨by omega,h4⟩
  exact h0 j (by omega)
 exact .inr ⟨j,by omega,hq,h0⟩
theorem par_end (hs:shp sh=true) (hi:i<sh.length) (hk:¬ k<i) (hk2:k≤i) (h:parI sh i k q):q=lkP 4 sh sh.length i:=by
 obtain rfl:k=i:=by omega
 have T:=(Zbn sh hs).1
 unfold lkP
 rw [if_pos rfl]
 rcases h with ⟨hq,h0⟩ | ⟨j,hj,hq,h0⟩
 ·rcases T.par k hi with e | ⟨p,hp,e,h1⟩
  ·rw [hq,e]
  exfalso
  have hpi:p<k:=by
   by_cases h2:sh.getD p 0=2
   ·obtain ⟨a,e2,b1,_,b3,_⟩:=(Tr.tree_kids hs hp).2 h2
    rcases h1 with h1 | h1<;>omega
   have:=(Tr.tree_kids hs hp).1 h2
   omega
  have:=h0 p hpi
  rcases h1 with h1 | h1
  ·exact this.1 h1
  exact this.2 h1
 rcases h0 with h0 | h0
 ·rcases T.fst j (by omega) with e | ⟨m,hm,e,h1⟩
  ·omega
  have:m=k:=by omega
  rw [hq,← this];exact h1.symm
 rcases T.snd j (by omega) with e | ⟨m,hm,e,h1⟩
 ·omega
 have:m=k:=by omega
 rw [hq,← this];exact h1.symm
def nF (top:Int) (sh:List Int) (n i:Nat):Int:=if top=1 then -1 else Jd.lkF top sh n i
def nS (top:Int) (sh:List Int) (n i:Nat):Int:=if top=1 then -1 else Jd.lkS top sh n i
def nP (top:Int) (sh:List Int) (n i:Nat):Int:=if top=1 then -1 else lkP top sh n i
variable {top:Int}
theorem lkP_row (h:¬ top=4):lkP top sh n i = -1:=by
 unfold lkP;rw [if_neg h];rfl
theorem both (hs:shp sh=true) (hi:i<sh.length):(0≤Jd.lkS 4 sh sh.length i↔¬ Jd.lkF 4 sh sh.length i = -1):=by
 by_cases h:sh[i]=2
 ·obtain ⟨a,e,b1,_,b3,_⟩:=(Tr.tree_kids hs hi).2 (by rw [Ct.getD_at hi];exact h)
  unfold Jd.lkF Jd.lkS
  rw [if_pos rfl,if_pos rfl]
  constructor
  ·intro _;omega
  intro _;omega
 have:=Jd.t_0 hs hi h
 rw [this.1,this.2]
 constructor<;>omega
theorem lineS (hi:i<n):(0≤Jd.lkS 2 sh n i↔¬ Jd.lkS 2 sh n i = -1):=by
 unfold Jd.lkS rowL
 rw [if_neg (by omega)]
 dsimp only
 (repeat' split)<;>omega
variable {p:Fm}{f:Int}{fo:Bool}{m:Nat}
theorem g_1 (hm:m<p.msgs.length) (h:p.fzz=1):hdG p f c fo m=c.se.getD m 0+c.fa.getD m 0:=by
 have:hdJ p f c p.msgs.length m=c.se.getD m 0+c.fa.getD m 0:=by unfold hdJ;rw [if_pos hm];unfold hdV;rw [if_pos (.inl h)]
 unfold hdG
 rw [if_pos h]
 split<;>exact this
theorem g_f (hm:m<p.msgs.length):hdG p f c false m=hdV p f c m:=by
 unfold hdG
 rw [if_neg (by decide)]
 unfold hdJ;rw [if_pos hm]
theorem g_t (h:¬ p.fzz=1):hdG p f c true m=c.se.getD m 0:=by
 unfold hdG
 rw [if_pos rfl,if_neg h]
theorem g_2 (hm:m<p.msgs.length) (h:p.fzz=2) (e:fo=false):hdG p f c fo m=c.se.getD m 0+c.fa.getD m 0:=by
 rw [e,g_f hm];unfold hdV;rw [if_pos (.inr h)]
theorem g_3 (hm:m<p.msgs.length) (h1:¬ p.fzz=1) (h2:¬ p.fzz=2) (h3:p.fzz=3) (e:fo=false):hdG p f c fo m=c.se.getD m 0+f:=by
 rw [e,g_f hm];unfold hdV;rw [if_neg (by omega),if_pos h3]
theorem g_0 (hm:m<p.msgs.length) (h1:¬ p.fzz=1) (h2:¬ p.fzz=2) (h3:¬ p.fzz=3):hdG p f c fo m=c.se.getD m 0:=by
 cases fo with
 | true=>exact g_t h1
 | false=>rw [g_f hm];unfold hdV;rw [if_neg (by omega),if_neg h3]
end En
theorem rEv_c {l:Ln} {n t f:Int}:Ctr Tryz.prog J 67 [.agg (cLn l),.agg (cSz n t f)] (.tup [iv (evN l.c l.n l.t l.f n t f),iv (evE l.c l.n l.t l.f n t f)]):=ctr2 fun w v v' _ h h'=>by
 obtain ⟨vs,rfl,hl,hv⟩:=YZ h
 have e:vs=[.int .i64 l.c,.int .i64 l.n,.int .i64 l.t,.int .i64 l.f]:=by
  rw [cells4 hl,(hv 0 (by simp [cLn])).v_inv,(hv 1 (by simp [cLn])).v_inv,(hv 2 (by simp [cLn])).v_inv,(hv 3 (by simp [cLn])).v_inv]
 subst e
 rw [sz_of h']
 exact (ZcT l.c l.n l.t l.f n t f w).mono fun _ _ hh=>⟨_,hh.1,.tup rfl fun j hj=>(match j,hj with
  | 0,_ => .v _
  | 1,_ => .v _),by first | exact hh.2 | (rw [← hh.2];exact Below.refl _ _) | (rw [hh.2];exact Below.refl _ _)⟩
abbrev XEr1_h1 (x0:List Int) (x1:Nat) (x2:Nat):List (Nat × AV):=[(1,Zb x0),(3,iv x1),(8,iv 0),(9,iv 0),(10,iv 0),(14,iv (x1+1:Nat)),(15,iv ((trun x0 x0.length).se x1)),(16,iv x2),(17,iv (x2+1:Nat)),(73,bT),(94,bT)]
abbrev XEr1_h2 (x0:List Int) (x1:Nat) (x2:Nat):List (Nat × AV):=[(1,Zb x0),(3,iv x1),(8,iv 0),(9,iv 0),(10,iv 0),(14,iv (x1+1:Nat)),(15,iv ((trun x0 x0.length).se x1)),(16,iv (x2:Int)),(17,iv ((x2+1):Nat))]
abbrev XEr1_h3 (x0:List Int) (x1:Nat) (x2:Nat):List (Nat × AV):=[(1,Zb x0),(3,iv x1),(8,iv 0),(9,iv 0),(10,iv 0),(14,iv (-1)),(15,iv (-1)),(16,iv x2),(17,iv (x2+1:Nat)),(73,bT),(94,bT)]
abbrev XEr1_h4 (x0:List Int) (x1:Nat) (x2:Nat):List (Nat × AV):=[(1,Zb x0),(3,iv x1),(8,iv 0),(9,iv 0),(10,iv 0),(14,iv (-1)),(15,iv (-1)),(16,iv (x2:Int)),(17,iv ((x2+1):Nat))]
theorem nbTreeP_c (hI:InOk sh) (hs:shp sh=true) (lsh:sh.length≤100) (hi:i<sh.length):Ctr Tryz.prog J 43 [iv 4,Zb sh,iv sh.length,iv i] (.tup [iv (Jd.lkF 4 sh sh.length i),iv (Jd.lkS 4 sh sh.length i),iv (En.lkP 4 sh sh.length i)]):=by
 refine Zm Tryz.func43 rfl (pN (.v _) (pN (ZM _) (pN (.v _) (pN (.v _) pZ)))) (n:=99) rfl (by simp) (fun w0 => ?_)
 refine kW 99 [] [(0,iv 4),(1,Zb sh),(2,iv sh.length),(3,iv i)] (jB (oS (iv 0) (oS (iv 0) (oS (iv 0) (jD (jB (oW (oS (iv sh.length) (oU ((sh.length:Int)-1) (oK (Zr Ku (Jd.in_w hi)) [iv i,iv 0,iv ((sh.length:Int)-1)] rfl rfl (oS bF (jF (jM (Za ?_))))))))))))))
 refine oS (iv 4) (oC (ZF (r:=false) rfl (by decide)) I0 I0 (jF (jM (Za (oS (iv 4) (oC (ZF (r:=false) rfl (by decide)) I0 I0 (jF (jM (Za (oS (iv 4) (oC (Yq (r:=false) rfl (by decide)) I0 I0 (oS bF (oF (iv sh.length) ?_)))))))))))))
 refine oS (iv sh.length) (gC (Yq rfl (dT' rfl)) I0 I0 (oF bF (oW (oK (Zr (Rd.IsShape_c hI lsh) hs) [Zb sh] rfl rfl (oW (oS bF (jF (jB (oS (iv (-1)) (oS (iv (-1)) (oS (iv (-1)) (jD (Zl ?_)))))))))))))
 by_cases hs1:sh[i]=2
 refine Za (oS (Zb sh) (oS (iv i) (oC (xS (i*1) 60 61 U24) I0 I0 (oL (iv sh[i]) (Zw sh (by omega)) (oe (dT hs1) (jG (oS (iv i) (oV ((i+1:Nat):Int) (oS (iv (i+1:Nat)) (jA (Za (oW (oS (iv i) (oV ((i+1:Nat):Int) (oK (Zeb hs lsh (by omega) hs1) [Zb sh,iv (i+1:Nat)] rfl rfl (oS (iv ((trun sh sh.length).se i)) (kN 99 [] [(1,Zb sh),(3,iv i),(8,iv 0),(9,iv 0),(10,iv 0),(14,iv (i+1:Nat)),(15,iv ((trun sh sh.length).se i)),(16,iv (-1))] (Ze ?_))))))))))))))))))
 refine jM (Za (oS (iv 0) (kN 99 [] [(1,Zb sh),(3,iv i),(8,iv 0),(9,iv 0),(10,iv 0),(14,iv (i+1:Nat)),(15,iv ((trun sh sh.length).se i)),(16,iv (-1)),(17,iv 0)] (Ze (Zn ?_)))))
 refine ZK (σ:={s:Nat × Int // s.1≤i∧En.parI sh i s.1 s.2}) (fun s=>(ofL [],ofT 99 [(1,Zb sh),(3,iv i),(8,iv 0),(9,iv 0),(10,iv 0),(14,iv (i+1:Nat)),(15,iv ((trun sh sh.length).se i)),(16,iv s.1.2),(17,iv s.1.1)])) (fun s=>i-s.1.1) ⟨(0,-1),Nat.zero_le _,En.par_zero⟩ (Zp [] _) (fun s => ?_)
 obtain ⟨⟨k,q⟩,hk0,hpi⟩:=s
 show ETri J w0 (ofL []) (ofT 99 [(1,Zb sh),(3,iv i),(8,iv 0),(9,iv 0),(10,iv 0),(14,iv (i+1:Nat)),(15,iv ((trun sh sh.length).se i)),(16,iv q),(17,iv k)]) _
 dsimp only at hk0 hpi
 refine jM ?_
 by_cases hs2:(k:Int)<(i:Int)
 refine Za (oW (oW (ol (dT hs2) (jH (Zq (jC (Zn (Zl ?_))))))))
 by_cases hs3:sh[k]=2
 by_cases hs4:((k+1:Nat):Int)=(i:Int)
 refine Za (oS (Zb sh) (oS (iv k) (oC (xS (k*1) 76 77 U24) I0 I0 (oL (iv sh[k]) (Zw sh (by omega)) (oe (dT hs3) (oS bT (oS (iv k) (oV ((k+1:Nat):Int) (oW (oe (dT hs4) (oS bT (qK (qK (qK (qK (qK (qK (oW (oS bT (jH (Za ?_)))))))))))))))))))))
 refine oF (iv k) (Yi (Zv (Ze (Za (oS (iv k) (oV ((k+1:Nat):Int) (oS (iv (k+1:Nat)) (kN 99 [] (XEr1_h1 sh i k) (Ze ?_)))))))))
 refine Zs ⟨(k+1,(k:Int)),by dsimp only;omega,(En.par_here hs (by omega) hs3 (.inl hs4))⟩ (show i-(k+1)<i-k by omega) ?_
 show Wk _ _ (ofL []) (ofT 99 (XEr1_h2 sh i k))
 exact Zp [] _
 by_cases hs5:((trun sh sh.length).se k)=(i:Int)
 refine Za (oS (Zb sh) (oS (iv k) (oC (xS (k*1) 76 77 U24) I0 I0 (oL (iv sh[k]) (Zw sh (by omega)) (oe (dT hs3) (oS bT (oS (iv k) (oV ((k+1:Nat):Int) (oW (oe (dF hs4) (oS bF (oW (oS (iv k) (oV ((k+1:Nat):Int) (oK (Zeb hs lsh (by omega) hs3) [Zb sh,iv (k+1:Nat)] rfl rfl (oW (oe (dT hs5) (oW (oS bT (jH (Za ?_)))))))))))))))))))))
 refine oF (iv k) (Yi (Zv (Ze (Za (oS (iv k) (oV ((k+1:Nat):Int) (oS (iv (k+1:Nat)) (kN 99 [] (XEr1_h1 sh i k) (Ze ?_)))))))))
 refine Zs ⟨(k+1,(k:Int)),by dsimp only;omega,(En.par_here hs (by omega) hs3 (.inr hs5))⟩ (show i-(k+1)<i-k by omega) ?_
 show Wk _ _ (ofL []) (ofT 99 (XEr1_h2 sh i k))
 exact Zp [] _
 refine Za (oS (Zb sh) (oS (iv k) (oC (xS (k*1) 76 77 U24) I0 I0 (oL (iv sh[k]) (Zw sh (by omega)) (oe (dT hs3) (oS bT (oS (iv k) (oV ((k+1:Nat):Int) (oW (oe (dF hs4) (oS bF (oW (oS (iv k) (oV ((k+1:Nat):Int) (oK (Zeb hs lsh (by omega) hs3) [Zb sh,iv (k+1:Nat)] rfl rfl (oW (oe (dF hs5) (oW (oS bF (jI (Zq ?_)))))))))))))))))))))
 refine Zv (Ze (Za (oS (iv k) (oV ((k+1:Nat):Int) (oS (iv (k+1:Nat)) (kN 99 [] [(1,Zb sh),(3,iv i),(8,iv 0),(9,iv 0),(10,iv 0),(14,iv (i+1:Nat)),(15,iv ((trun sh sh.length).se i)),(16,iv q),(17,iv (k+1:Nat)),(73,bT),(94,bF)] (Ze ?_)))))))
 refine Zs ⟨(k+1,q),by dsimp only;omega,(En.par_skip hs (by omega) hpi (.inr ⟨hs3,hs4,hs5⟩))⟩ (show i-(k+1)<i-k by omega) ?_
 show Wk _ _ (ofL []) (ofT 99 [(1,Zb sh),(3,iv i),(8,iv 0),(9,iv 0),(10,iv 0),(14,iv (i+1:Nat)),(15,iv ((trun sh sh.length).se i)),(16,iv q),(17,iv ((k+1):Nat))])
 exact Zp [] _
 refine Za (oS (Zb sh) (oS (iv k) (oC (xS (k*1) 76 77 U24) I0 I0 (oL (iv sh[k]) (Zw sh (by omega)) (oe (dF hs3) (oS bF (qK (qK (qK (qK (qK (qK (qK (qK (qK (qK (qK (qK (oS bF (jI (Zq ?_)))))))))))))))))))))
 refine Zv (Ze (Za (oS (iv k) (oV ((k+1:Nat):Int) (oS (iv (k+1:Nat)) (kN 99 [] [(1,Zb sh),(3,iv i),(8,iv 0),(9,iv 0),(10,iv 0),(14,iv (i+1:Nat)),(15,iv ((trun sh sh.length).se i)),(16,iv q),(17,iv (k+1:Nat)),(73,bT),(94,bF)] (Ze ?_)))))))
 refine Zs ⟨(k+1,q),by dsimp only;omega,(En.par_skip hs (by omega) hpi (.inl hs3))⟩ (show i-(k+1)<i-k by omega) ?_
 show Wk _ _ (ofL []) (ofT 99 [(1,Zb sh),(3,iv i),(8,iv 0),(9,iv 0),(10,iv 0),(14,iv (i+1:Nat)),(15,iv ((trun sh sh.length).se i)),(16,iv q),(17,iv ((k+1):Nat))])
 exact Zp [] _
 refine Za (oW (oW (ol (dF hs2) (jI (jO (jC (Za (oW (oW (oW (oS (iv (i+1:Nat)) (oS (iv ((trun sh sh.length).se i)) (oS (iv q) (jE ?_))))))))))))))
 refine Ky Tryz.results43 (.tmp rfl) (.tmp rfl) (.tmp rfl) ?_
 rw [(Jd.t_2 hs hi hs1).1,(Jd.t_2 hs hi hs1).2,← En.par_end hs hi (by omega) hk0 hpi]
 exact rfl
 refine Za (oS (Zb sh) (oS (iv i) (oC (xS (i*1) 60 61 U24) I0 I0 (oL (iv sh[i]) (Zw sh (by omega)) (oe (dF hs1) (jF (jM (Za (oS (iv 0) (kN 99 [] [(1,Zb sh),(3,iv i),(8,iv 0),(9,iv 0),(10,iv 0),(14,iv (-1)),(15,iv (-1)),(16,iv (-1)),(17,iv 0)] (Ze (Zn ?_))))))))))))
 refine ZK (σ:={s:Nat × Int // s.1≤i∧En.parI sh i s.1 s.2}) (fun s=>(ofL [],ofT 99 [(1,Zb sh),(3,iv i),(8,iv 0),(9,iv 0),(10,iv 0),(14,iv (-1)),(15,iv (-1)),(16,iv s.1.2),(17,iv s.1.1)])) (fun s=>i-s.1.1) ⟨(0,-1),Nat.zero_le _,En.par_zero⟩ (Zp [] _) (fun s => ?_)
 obtain ⟨⟨k,q⟩,hk0,hpi⟩:=s
 show ETri J w0 (ofL []) (ofT 99 [(1,Zb sh),(3,iv i),(8,iv 0),(9,iv 0),(10,iv 0),(14,iv (-1)),(15,iv (-1)),(16,iv q),(17,iv k)]) _
 dsimp only at hk0 hpi
 refine jM ?_
 by_cases hs6:(k:Int)<(i:Int)
 refine Za (oW (oW (ol (dT hs6) (jH (Zq (jC (Zn (Zl ?_))))))))
 by_cases hs7:sh[k]=2
 by_cases hs8:((k+1:Nat):Int)=(i:Int)
 refine Za (oS (Zb sh) (oS (iv k) (oC (xS (k*1) 76 77 U24) I0 I0 (oL (iv sh[k]) (Zw sh (by omega)) (oe (dT hs7) (oS bT (oS (iv k) (oV ((k+1:Nat):Int) (oW (oe (dT hs8) (oS bT (qK (qK (qK (qK (qK (qK (oW (oS bT (jH (Za ?_)))))))))))))))))))))
 refine oF (iv k) (Yi (Zv (Ze (Za (oS (iv k) (oV ((k+1:Nat):Int) (oS (iv (k+1:Nat)) (kN 99 [] (XEr1_h3 sh i k) (Ze ?_)))))))))
 refine Zs ⟨(k+1,(k:Int)),by dsimp only;omega,(En.par_here hs (by omega) hs7 (.inl hs8))⟩ (show i-(k+1)<i-k by omega) ?_
 show Wk _ _ (ofL []) (ofT 99 (XEr1_h4 sh i k))
 exact Zp [] _
 by_cases hs9:((trun sh sh.length).se k)=(i:Int)
 refine Za (oS (Zb sh) (oS (iv k) (oC (xS (k*1) 76 77 U24) I0 I0 (oL (iv sh[k]) (Zw sh (by omega)) (oe (dT hs7) (oS bT (oS (iv k) (oV ((k+1:Nat):Int) (oW (oe (dF hs8) (oS bF (oW (oS (iv k) (oV ((k+1:Nat):Int) (oK (Zeb hs lsh (by omega) hs7) [Zb sh,iv (k+1:Nat)] rfl rfl (oW (oe (dT hs9) (oW (oS bT (jH (Za ?_)))))))))))))))))))))
 refine oF (iv k) (Yi (Zv (Ze (Za (oS (iv k) (oV ((k+1:Nat):Int) (oS (iv (k+1:Nat)) (kN 99 [] (XEr1_h3 sh i k) (Ze ?_)))))))))
 refine Zs ⟨(k+1,(k:Int)),by dsimp only;omega,(En.par_here hs (by omega) hs7 (.inr hs9))⟩ (show i-(k+1)<i-k by omega) ?_
 show Wk _ _ (ofL []) (ofT 99 (XEr1_h4 sh i k))
 exact Zp [] _
 refine Za (oS (Zb sh) (oS (iv k) (oC (xS (k*1) 76 77 U24) I0 I0 (oL (iv sh[k]) (Zw sh (by omega)) (oe (dT hs7) (oS bT (oS (iv k) (oV ((k+1:Nat):Int) (oW (oe (dF hs8) (oS bF (oW (oS (iv k) (oV ((k+1:Nat):Int) (oK (Zeb hs lsh (by omega) hs7) [Zb sh,iv (k+1:Nat)] rfl rfl (oW (oe (dF hs9) (oW (oS bF (jI (Zq ?_)))))))))))))))))))))
 refine Zv (Ze (Za (oS (iv k) (oV ((k+1:Nat):Int) (oS (iv (k+1:Nat)) (kN 99 [] [(1,Zb sh),(3,iv i),(8,iv 0),(9,iv 0),(10,iv 0),(14,iv (-1)),(15,iv (-1)),(16,iv q),(17,iv (k+1:Nat)),(73,bT),(94,bF)] (Ze ?_)))))))
 refine Zs ⟨(k+1,q),by dsimp only;omega,(En.par_skip hs (by omega) hpi (.inr ⟨hs7,hs8,hs9⟩))⟩ (show i-(k+1)<i-k by omega) ?_
 show Wk _ _ (ofL []) (ofT 99 [(1,Zb sh),(3,iv i),(8,iv 0),(9,iv 0),(10,iv 0),(14,iv (-1)),(15,iv (-1)),(16,iv q),(17,iv ((k+1):Nat))])
 exact Zp [] _
 refine Za (oS (Zb sh) (oS (iv k) (oC (xS (k*1) 76 77 U24) I0 I0 (oL (iv sh[k]) (Zw sh (by omega)) (oe (dF hs7) (oS bF (qK (qK (qK (qK (qK (qK (qK (qK (qK (qK (qK (qK (oS bF (jI (Zq ?_)))))))))))))))))))))
 refine Zv (Ze (Za (oS (iv k) (oV ((k+1:Nat):Int) (oS (iv (k+1:Nat)) (kN 99 [] [(1,Zb sh),(3,iv i),(8,iv 0),(9,iv 0),(10,iv 0),(14,iv (-1)),(15,iv (-1)),(16,iv q),(17,iv (k+1:Nat)),(73,bT),(94,bF)] (Ze ?_)))))))
 refine Zs ⟨(k+1,q),by dsimp only;omega,(En.par_skip hs (by omega) hpi (.inl hs7))⟩ (show i-(k+1)<i-k by omega) ?_
 show Wk _ _ (ofL []) (ofT 99 [(1,Zb sh),(3,iv i),(8,iv 0),(9,iv 0),(10,iv 0),(14,iv (-1)),(15,iv (-1)),(16,iv q),(17,iv ((k+1):Nat))])
 exact Zp [] _
 refine Za (oW (oW (ol (dF hs6) (jI (jO (jC (Za (oW (oW (oW (oS (iv (-1)) (oS (iv (-1)) (oS (iv q) (jE ?_))))))))))))))
 refine Ky Tryz.results43 (.tmp rfl) (.tmp rfl) (.tmp rfl) ?_
 rw [(Jd.t_0 hs hi hs1).1,(Jd.t_0 hs hi hs1).2,← En.par_end hs hi (by omega) hk0 hpi]
 exact rfl
theorem nbClq_c (hi:i<n) (hn:n≤100) :Ctr Tryz.prog J 43 [iv 1,Zb sh,iv n,iv i] (.tup [iv (-1),iv (-1),iv (-1)]):=by
 refine Zm Tryz.func43 rfl (pN (.v _) (pN (ZM _) (pN (.v _) (pN (.v _) pZ)))) (n:=99) rfl (by simp) (fun w0 => ?_)
 refine kW 99 [] [(0,iv 1),(1,Zb sh),(2,iv n),(3,iv i)] (jB (oS (iv 0) (oS (iv 0) (oS (iv 0) (jD (jB (oW (oS (iv n) (oU ((n:Int)-1) (oK (Zr Ku (Jd.in_w hi)) [iv i,iv 0,iv ((n:Int)-1)] rfl rfl (oS bF (jF (jM (Za ?_))))))))))))))
 refine oS (iv 1) (oC (ZF (r:=false) rfl (by decide)) I0 I0 (jF (jM (Za (oS (iv 1) (oC (ZF (r:=false) rfl (by decide)) I0 I0 (jF (jM (Za (oS (iv 1) (oC (Yq (r:=true) rfl (by decide)) I0 I0 (oS bT (qK ?_)))))))))))))
 refine qK (qK (qK (oF bT (qK (qK (qK (oS bT (jG (oS (iv (-1)) (oS (iv (-1)) (oS (iv (-1)) (jE (Zd ?_)))))))))))))
 refine Ky Tryz.results43 (.tmp rfl) (.tmp rfl) (.tmp rfl) ?_
 exact rfl
variable {p:Fm}
theorem nbP_c {n f:Int} (HC:Rd.CgOk c) (hc:En.CfV p n f c) (hv:valE p=0) (hi:i<c.st.length):Ctr Tryz.prog J 43 [iv p.top,Zb c.sh,iv (c.st.length:Int),iv (i:Int)] (.tup [iv (En.nF p.top c.sh c.st.length i),iv (En.nS p.top c.sh c.st.length i),iv (En.nP p.top c.sh c.st.length i)]):=by
 have ht:=Jd.top_in hv
 by_cases h1:p.top=1
 ·rw [h1]
  exact nbClq_c hi HC.lst
 unfold En.nF En.nS En.nP
 rw [if_neg h1,if_neg h1,if_neg h1]
 by_cases h4:p.top=4
 ·have hs:=En.sh_tree hc h4
  unfold isShp at hs
  simp only [Bool.and_eq_true,decide_eq_true_eq] at hs
  have hl:c.sh.length=c.st.length:=by omega
  rw [h4,← hl]
  exact nbTreeP_c HC.sh hs.2 HC.lsh (by omega)
 rw [En.lkP_row h4]
 obtain h | h:p.top=2∨p.top=3:=by omega
 ·rw [h];exact nbLine_c hi HC.lst
 rw [h];exact nbRing_c hi HC.lst
abbrev Zde (x0:Fm) (x1:Int) (x2:Int) (x3:Int) (x4:Cf):List (Nat × ABlk):=[(1,.box 27 (cFm x0)),(2,.box 29 (cSz x1 x2 x3)),(3,.box 31 (Rd.cCg x4))]
variable {x:Int}{fo:Bool}
theorem rheard_c {n t f:Int} (hc:En.CfV p n f c) (hf:0≤f∧f≤1048576) (h0:0≤x) (hm:x.toNat<p.msgs.length) :Ctr Tryz.prog J 68 [.agg (cFm p),.agg (cSz n t f),.agg (Rd.cCg c),iv x,bv fo] (iv (En.hdG p f c fo x.toNat)):=by
 have hse:x.toNat<c.se.length:=by rw [hc.ls];exact hm
 have hfa:x.toNat<c.fa.length:=by rw [hc.lf];exact hm
 have b1:=hc.se _ (List.getElem_mem hse)
 have b2:=hc.fa _ (List.getElem_mem hfa)
 refine Zm Tryz.func68 rfl (pN (Zh (ZQ p)) (pN (Zh (Z0 n t f)) (pN (Zh (Rd.plain_cg c)) (pN (.v _) (pN (.v _) pZ))))) (n:=54) rfl (by simp) (fun w0 => ?_)
 refine kW 54 [] [(0,.agg (cFm p)),(1,.agg (cSz n t f)),(2,.agg (Rd.cCg c)),(3,iv x),(4,bv fo)] (jB (oX 1 (.agg (cFm p)) (oX 2 (.agg (cSz n t f)) (oX 3 (.agg (Rd.cCg c)) (oS (iv 0) (jD (Zl ?_)))))))
 by_cases hs1:p.fzz=1
 refine Za (oW (oW (oe (dT hs1) (oS bT (qK (qK (qK (qK (qK (qK (qK (oS bT (jH (Zl ?_))))))))))))))
 refine tD (dW (dS (Zb c.se) (dS (iv x) (dC (xS (x.toNat*1) 24 25 U24) I0 I0 (dL (iv c.se[x.toNat]) (Zw c.se (by omega)) (dW (dS (Zb c.fa) (dS (iv x) (dC (xS (x.toNat*1) 29 30 U24) I0 I0 (dL (iv c.fa[x.toNat]) (Zw c.fa (by omega)) (dC (WV (c:=c.se[x.toNat]+c.fa[x.toNat]) rfl (w64 (by omega) (by omega) (by omega))) I0 I0 (dS (iv (c.se[x.toNat]+c.fa[x.toNat])) (eD ?_)))))))))))))
 refine Ze (jN ?_)
 refine Zg Tryz.results68 (.tmp rfl) ?_
 rw [En.g_1 hm hs1,Ct.getD_at hse,Ct.getD_at hfa]
 exact rfl
 by_cases hs2:p.fzz=2
 by_cases hs3:fo=true
 rw [hs3]
 refine kW 54 (Zde p n t f c) [(3,iv x),(4,bT),(5,bx 1),(6,bx 2),(7,bx 3),(10,iv 0)] (Za (oW (oW (oe (dF hs1) (oS bF (oW (oW (oe (dT hs2) (oS bT (oW (oW (oW (oS bF (jF (jM (Za (oF (iv p.fzz) (oC (ZF rfl (dF (by omega))) I0 I0 ?_))))))))))))))))))
 refine oS bF (qK (qK (oS bF (jF (jB (oF (Zb c.se) (oS (iv x) (oC (xS (x.toNat*1) 50 51 U24) I0 I0 (oL (iv c.se[x.toNat]) (Zw c.se (by omega)) (oS (iv c.se[x.toNat]) (jE ?_)))))))))))
 refine Zg Tryz.results68 (.tmp rfl) ?_
 rw [En.g_t hs1,Ct.getD_at hse]
 exact rfl
 have hs3f:fo=false:=by simpa using hs3
 rw [hs3f]
 refine kW 54 (Zde p n t f c) [(3,iv x),(4,bF),(5,bx 1),(6,bx 2),(7,bx 3),(10,iv 0)] (Za (oW (oW (oe (dF hs1) (oS bF (oW (oW (oe (dT hs2) (oS bT (oW (oW (oW (oS bT (jH (Zl ?_)))))))))))))))
 refine tD (dW (dS (Zb c.se) (dS (iv x) (dC (xS (x.toNat*1) 24 25 U24) I0 I0 (dL (iv c.se[x.toNat]) (Zw c.se (by omega)) (dW (dS (Zb c.fa) (dS (iv x) (dC (xS (x.toNat*1) 29 30 U24) I0 I0 (dL (iv c.fa[x.toNat]) (Zw c.fa (by omega)) (dC (WV (c:=c.se[x.toNat]+c.fa[x.toNat]) rfl (w64 (by omega) (by omega) (by omega))) I0 I0 (dS (iv (c.se[x.toNat]+c.fa[x.toNat])) (eD ?_)))))))))))))
 refine Ze (jN ?_)
 refine Zg Tryz.results68 (.tmp rfl) ?_
 rw [En.g_2 hm hs2 rfl,Ct.getD_at hse,Ct.getD_at hfa]
 exact rfl
 refine Za (oW (oW (oe (dF hs1) (oS bF (oW (oW (oe (dF hs2) (oS bF (qK (qK (oW (oS bF (jF (jM ?_))))))))))))))
 by_cases hs4:p.fzz=3
 by_cases hs5:fo=true
 rw [hs5]
 refine kW 54 (Zde p n t f c) [(3,iv x),(4,bT),(5,bx 1),(6,bx 2),(7,bx 3),(10,iv 0),(22,bF)] (Za (oW (oW (oe (dT hs4) (oS bT (oW (oW (oS bF (jF (jB (oF (Zb c.se) (oS (iv x) (oC (xS (x.toNat*1) 50 51 U24) I0 I0 (oL (iv c.se[x.toNat]) (Zw c.se (by omega)) (oS (iv c.se[x.toNat]) (jE ?_))))))))))))))))
 refine Zg Tryz.results68 (.tmp rfl) ?_
 rw [En.g_t hs1,Ct.getD_at hse]
 exact rfl
 have hs5f:fo=false:=by simpa using hs5
 rw [hs5f]
 refine kW 54 (Zde p n t f c) [(3,iv x),(4,bF),(5,bx 1),(6,bx 2),(7,bx 3),(10,iv 0),(22,bF)] (Za (oW (oW (oe (dT hs4) (oS bT (oW (oW (oS bT (jH (Zl ?_))))))))))
 refine tD (dW (dS (Zb c.se) (dS (iv x) (dC (xS (x.toNat*1) 42 43 U24) I0 I0 (dL (iv c.se[x.toNat]) (Zw c.se (by omega)) (dW (dS (iv f) (dC (WV (c:=c.se[x.toNat]+f) rfl (w64 (by omega) (by omega) (by omega))) I0 I0 (dS (iv (c.se[x.toNat]+f)) (eD ?_))))))))))
 refine Ze (jN ?_)
 refine Zg Tryz.results68 (.tmp rfl) ?_
 rw [En.g_3 hm hs1 hs2 hs4 rfl,Ct.getD_at hse]
 exact rfl
 refine Za (oW (oW (oe (dF hs4) (oS bF (qK (qK (oS bF (jF (jB (oF (Zb c.se) (oS (iv x) (oC (xS (x.toNat*1) 50 51 U24) I0 I0 (oL (iv c.se[x.toNat]) (Zw c.se (by omega)) (oS (iv c.se[x.toNat]) (jE ?_)))))))))))))))
 refine Zg Tryz.results68 (.tmp rfl) ?_
 rw [En.g_0 hm hs1 hs2 hs4,Ct.getD_at hse]
 exact rfl
variable {l:List Int}
theorem Wn (HC:Rd.CgOk c) (ll:l.length≤9223372036854775807) (hx:x<(c.st.length:Int)):Ctr Tryz.prog J 45 [.agg (Rd.cCg c),Zb l,iv x] (bv (En.fitB c x l)):=by
 have l100:=HC.lst
 refine Zm Tryz.func45 rfl (pN (Zh (Rd.plain_cg c)) (pN (ZM _) (pN (.v _) pZ))) (n:=23) rfl (by simp) (fun w0 => ?_)
 refine kW 23 [] [(0,.agg (Rd.cCg c)),(1,Zb l),(2,iv x)] (jB (oX 1 (.agg (Rd.cCg c)) (oS bF (jD ?_))))
 by_cases hs1:(l.length:Int)=0
 refine Za (oW (oW (oe (dT hs1) (oS bT (qK (qK (qK (qK (qK (qK (qK (qK (qK (qK (qK (oF bT (jE ?_)))))))))))))))))
 refine Zg Tryz.results45 (.tmp rfl) ?_
 exact cB ((by unfold En.fitB;simp only [dT hs1,decide_true,decide_false,Bool.and_true,Bool.true_and,Bool.false_and,Bool.and_false,Bool.true_or,Bool.false_or,Bool.or_true,Bool.or_false,Bool.not_true,Bool.not_false]))
 by_cases hs2:0≤x
 refine Za (oW (oW (oe (dF hs1) (oS bF (oW (oh (dT hs2) (oS bT (oW (oF (Zb c.st) (oS (iv x) (gC (xS (x.toNat*1) 16 17 U24) I0 I0 (oL (iv c.st[x.toNat]) (Zw c.st (by omega)) (oK (has_c l c.st[x.toNat] ll) [Zb l,iv c.st[x.toNat]] rfl rfl (oW (oF (bv (decide (c.st[x.toNat]∈l))) (jE ?_))))))))))))))))
 refine Zg Tryz.results45 (.tmp rfl) ?_
 exact cB ((by unfold En.fitB;rw [Ct.getD_at (L:=c.st) (i:=x.toNat) (by omega)];simp only [dF hs1,dT hs2,decide_true,decide_false,Bool.and_true,Bool.true_and,Bool.false_and,Bool.and_false,Bool.true_or,Bool.false_or,Bool.or_true,Bool.or_false,Bool.not_true,Bool.not_false]))
 refine Za (oW (oW (oe (dF hs1) (oS bF (oW (oh (dF hs2) (oS bF (qK (qK (qK (qK (qK (qK (qK (oW (oF bF (jE ?_)))))))))))))))))
 refine Zg Tryz.results45 (.tmp rfl) ?_
 exact cB ((by unfold En.fitB;simp only [dF hs1,dF hs2,decide_true,decide_false,Bool.and_true,Bool.true_and,Bool.false_and,Bool.and_false,Bool.true_or,Bool.false_or,Bool.or_true,Bool.or_false,Bool.not_true,Bool.not_false]))
variable {r:Ru}
theorem En.lo_gdr {n t f:Int} {g:Nat→Int} (hk:k<r.gz.length) (h:r.gz[k].coef*g r.gz[k].msg.toNat<evN r.gz[k].bd.c r.gz[k].bd.n r.gz[k].bd.t r.gz[k].bd.f n t f):En.loB n t f c r g i=false:=by
 refine En.lo_gd hk ?_
 unfold En.gbV
 rw [List.getD_eq_getElem?_getD,List.getElem?_eq_getElem hk,Option.getD_some]
 exact h
abbrev Ze8 (x0:Fm) (x1:Int) (x2:Int) (x3:Int) (x4:Cf) (x5:Ru):List (Nat × ABlk):=[(1,.box 27 (cFm x0)),(2,.box 29 (cSz x1 x2 x3)),(3,.box 31 (Rd.cCg x4)),(4,.box 57 (cRu x5))]
abbrev Y0 (x0:Cf) (x1:Ru):List (Nat × ABlk):=[(3,.box 31 (Rd.cCg x0)),(4,.box 57 (cRu x1))]
abbrev XEr3_h3 (x0:Nat) (x1:Nat):List (Nat × AV):=[(4,iv x0),(8,bx 3),(9,bx 4),(17,bT),(18,iv x1),(58,bT),(63,bF)]
abbrev XEr3_h4 (x0:Nat) (x1:Nat):List (Nat × AV):=[(4,iv x0),(8,bx 3),(9,bx 4),(17,bT),(18,iv x1),(58,bT),(63,bF),(89,bF)]
abbrev XEr3_h5 (x0:Nat) (x1:Nat):List (Nat × AV):=[(4,iv x0),(8,bx 3),(9,bx 4),(17,bT),(18,iv (x1+1:Nat)),(58,bT),(63,bF),(89,bF)]
set_option maxRecDepth 100000 in
set_option maxHeartbeats 6400000 in
theorem rlocal_c (HL:FamLen p) {n t f:Int} (HC:Rd.CgOk c) (hc:En.CfV p n f c) (hf:0≤f∧f≤1048576) {r:Nat} (hr:r<p.rz.length) (R:En.RuV p p.rz[r]) (hrd:En.rdN c p.rz[r]=false):Ctr Tryz.prog J 44 [.agg (cFm p),.agg (cSz n t f),.agg (Rd.cCg c),.agg (cRu p.rz[r]),iv i,bv fo] (bv (En.loB n t f c p.rz[r] (En.hdG p f c fo) i)):=by
 have hle:_≤9223372036854775807:=Nat.le_trans (HL.rz _ (List.getElem_mem hr)).ex (by decide)
 have hlf:_≤9223372036854775807:=Nat.le_trans (HL.rz _ (List.getElem_mem hr)).fa (by decide)
 have hlst:=HC.lst
 have hgl:=R.gl
 refine Zm Tryz.func44 rfl (pN (Zh (ZQ p)) (pN (Zh (Z0 n t f)) (pN (Zh (Rd.plain_cg c)) (pN (Zh (Y3 _)) (pN (.v _) (pN (.v _) pZ)))))) (n:=91) rfl (by simp) (fun w0 => ?_)
 refine kW 91 [] [(0,.agg (cFm p)),(1,.agg (cSz n t f)),(2,.agg (Rd.cCg c)),(3,.agg (cRu p.rz[r])),(4,iv i),(5,bv fo)] (jB (oX 1 (.agg (cFm p)) (oX 2 (.agg (cSz n t f)) (oX 3 (.agg (Rd.cCg c)) (oX 4 (.agg (cRu p.rz[r])) (oS bF (jD (jB (oS (iv 0) (kN 91 (Ze8 p n t f c p.rz[r]) [(4,iv i),(5,bv fo),(6,bx 1),(7,bx 2),(8,bx 3),(9,bx 4),(12,bF),(13,iv 0)] (Ze (Zn ?_))))))))))))
 refine ZK (σ:={k:Nat // k≤p.rz[r].gz.length∧Rd.noP p.rz[r].gz (En.gdN n t f (En.hdG p f c fo)) k}) (fun s=>(ofL (Ze8 p n t f c p.rz[r]),ofT 91 [(4,iv i),(5,bv fo),(6,bx 1),(7,bx 2),(8,bx 3),(9,bx 4),(13,iv s.1)])) (fun s=>p.rz[r].gz.length-s.1) ⟨0,Nat.zero_le _,Rd.noP_zero _ _⟩ (Zp _ _) (fun s => ?_)
 obtain ⟨k,hk0,hs0⟩:=s
 show ETri J w0 (ofL (Ze8 p n t f c p.rz[r])) (ofT 91 [(4,iv i),(5,bv fo),(6,bx 1),(7,bx 2),(8,bx 3),(9,bx 4),(13,iv k)]) _
 refine jM ?_
 by_cases hs1:(k:Int)<((p.rz[r].gz.length:Nat):Int)
 have hk1:k<p.rz[r].gz.length:=by omega
 have hgk:=R.gd _ (List.getElem_mem hk1)
 have hgb:=En.hdG_in hc hf fo p.rz[r].gz[k].msg.toNat
 refine Za (oW (oW (oW (oW (ol (dT hs1) (jH (Zq (jC (Zn (jB (oF (slA 6 cTh p.rz[r].gz) (oS (iv k) (oC (xS (k*6) 27 28 U55) I0 I0 (oA (Zk (z:=6) (.tmp 29) rfl U111 rfl (by kernel_rfl) (Yu lenTh p.rz[r].gz k (by omega)) rfl) I0 (oZ 5 Z111 (oY (kN 91 [(1,.box 27 (cFm p)),(2,.box 29 (cSz n t f)),(3,.box 31 (Rd.cCg c)),(4,.box 57 (cRu p.rz[r])),(5,.box 111 (cTh p.rz[r].gz[k]))] [(4,iv i),(5,bv fo),(6,bx 1),(7,bx 2),(8,bx 3),(9,bx 4),(13,iv k),(14,bx 5),(23,bT)] (jC ?_))))))))))))))))))
 refine Za (oW (oW (oW (oK (rEv_c (l:=p.rz[r].gz[k].bd)) [.agg [iv p.rz[r].gz[k].bd.c,iv p.rz[r].gz[k].bd.n,iv p.rz[r].gz[k].bd.t,iv p.rz[r].gz[k].bd.f],.agg (cSz n t f)] rfl rfl (oS (.tup [iv (evN p.rz[r].gz[k].bd.c p.rz[r].gz[k].bd.n p.rz[r].gz[k].bd.t p.rz[r].gz[k].bd.f n t f),iv (evE p.rz[r].gz[k].bd.c p.rz[r].gz[k].bd.n p.rz[r].gz[k].bd.t p.rz[r].gz[k].bd.f n t f)]) (oW (oW (oS (iv (evN p.rz[r].gz[k].bd.c p.rz[r].gz[k].bd.n p.rz[r].gz[k].bd.t p.rz[r].gz[k].bd.f n t f)) (oS (iv (evE p.rz[r].gz[k].bd.c p.rz[r].gz[k].bd.n p.rz[r].gz[k].bd.t p.rz[r].gz[k].bd.f n t f)) (jD ?_))))))))))
 by_cases hs2:p.rz[r].gz[k].coef*(En.hdG p f c fo p.rz[r].gz[k].msg.toNat)<(evN p.rz[r].gz[k].bd.c p.rz[r].gz[k].bd.n p.rz[r].gz[k].bd.t p.rz[r].gz[k].bd.f n t f)
 refine tD (dW (dS (iv p.rz[r].gz[k].coef) (dW (dW (dW (dW (dW (dW (dk (rheard_c hc hf hgk.1 (by omega)) [.agg (cFm p),.agg (cSz n t f),.agg (Rd.cCg c),iv p.rz[r].gz[k].msg,bv fo] rfl rfl (dC (sp_mul (c:=p.rz[r].gz[k].coef*(En.hdG p f c fo p.rz[r].gz[k].msg.toNat)) rfl (En.mulW hgk.2.2.1 hgk.2.2.2 hgb.1 hgb.2)) I0 I0 (dW (dl (dT hs2) (eD ?_)))))))))))))
 refine kW 91 [(1,.box 27 (cFm p)),(2,.box 29 (cSz n t f)),(3,.box 31 (Rd.cCg c)),(4,.box 57 (cRu p.rz[r])),(5,.box 111 (cTh p.rz[r].gz[k]))] [(4,iv i),(5,bv fo),(6,bx 1),(7,bx 2),(8,bx 3),(9,bx 4),(13,iv k),(14,bx 5),(15,iv (evN p.rz[r].gz[k].bd.c p.rz[r].gz[k].bd.n p.rz[r].gz[k].bd.t p.rz[r].gz[k].bd.f n t f)),(23,bT),(49,bT)] (Ze (jK (oS bF (jE (Zo (Zd (Zd (Zo (Zd ?_)))))))))
 refine Zg Tryz.results44 (.tmp rfl) ?_
 exact cB ((En.lo_gdr hk1 hs2).symm)
 refine tD (dW (dS (iv p.rz[r].gz[k].coef) (dW (dW (dW (dW (dW (dW (dk (rheard_c hc hf hgk.1 (by omega)) [.agg (cFm p),.agg (cSz n t f),.agg (Rd.cCg c),iv p.rz[r].gz[k].msg,bv fo] rfl rfl (dC (sp_mul (c:=p.rz[r].gz[k].coef*(En.hdG p f c fo p.rz[r].gz[k].msg.toNat)) rfl (En.mulW hgk.2.2.1 hgk.2.2.2 hgb.1 hgb.2)) I0 I0 (dW (dl (dF hs2) (eD ?_)))))))))))))
 refine kW 91 [(1,.box 27 (cFm p)),(2,.box 29 (cSz n t f)),(3,.box 31 (Rd.cCg c)),(4,.box 57 (cRu p.rz[r])),(5,.box 111 (cTh p.rz[r].gz[k]))] [(4,iv i),(5,bv fo),(6,bx 1),(7,bx 2),(8,bx 3),(9,bx 4),(13,iv k),(14,bx 5),(15,iv (evN p.rz[r].gz[k].bd.c p.rz[r].gz[k].bd.n p.rz[r].gz[k].bd.t p.rz[r].gz[k].bd.f n t f)),(23,bT),(49,bF)] (Ze (ZD rfl (Zq (Zv (Ze (Za (oS (iv k) (oV ((k+1:Nat):Int) (oS (iv (k+1:Nat)) (kN 91 [(1,.box 27 (cFm p)),(2,.box 29 (cSz n t f)),(3,.box 31 (Rd.cCg c)),(4,.box 57 (cRu p.rz[r])),(5,.box 111 (cTh p.rz[r].gz[k]))] [(4,iv i),(5,bv fo),(6,bx 1),(7,bx 2),(8,bx 3),(9,bx 4),(13,iv (k+1:Nat)),(14,bx 5),(15,iv (evN p.rz[r].gz[k].bd.c p.rz[r].gz[k].bd.n p.rz[r].gz[k].bd.t p.rz[r].gz[k].bd.f n t f)),(23,bT),(49,bF)] (Ze ?_)))))))))))
 refine Zs ⟨k+1,by omega,Rd.noP_succ hk1 hs0 (decide_eq_false hs2)⟩ (show p.rz[r].gz.length-(k+1)<p.rz[r].gz.length-k by omega) ?_
 exact Zp _ _
 refine Za (oW (oW (oW (oW (ol (dF hs1) (jI (jO (jC (Za (oW (oF (iv (p.rz[r].ex.length:Nat)) (oC (ZF rfl rfl) I0 I0 (oS (bv (decide (((p.rz[r].ex.length:Nat):Int)=0))) (jD (Zl ?_)))))))))))))))
 refine Za (oS (iv 0) (kN 91 [(3,.box 31 (Rd.cCg c)),(4,.box 57 (cRu p.rz[r]))] [(4,iv i),(8,bx 3),(9,bx 4),(17,bv (decide (((p.rz[r].ex.length:Nat):Int)=0))),(18,iv 0)] (Ze (Zn ?_))))
 rw [← En.exU_zero (c:=c) (i:=i)]
 refine ZK (σ:={j:Nat // j≤c.st.length∧En.noF c p.rz[r] i j}) (fun s=>(ofL (Y0 c p.rz[r]),ofT 91 [(4,iv i),(8,bx 3),(9,bx 4),(17,bv (En.exU c p.rz[r] i s.1)),(18,iv s.1)])) (fun s=>c.st.length-s.1) ⟨0,Nat.zero_le _,En.noF_zero⟩ (Zp _ _) (fun s => ?_)
 obtain ⟨j,hj0,hnf⟩:=s
 show ETri J w0 (ofL (Y0 c p.rz[r])) (ofT 91 [(4,iv i),(8,bx 3),(9,bx 4),(17,bv (En.exU c p.rz[r] i j)),(18,iv j)]) _
 refine jM ?_
 by_cases hs3:(j:Int)<(c.st.length:Int)
 have hj1:j<c.st.length:=by omega
 refine Za (oW (oW (oW (oW (ol (dT hs3) (jH (Zq (jC (Zn (jM ?_))))))))))
 by_cases hs4:(j:Int)=(i:Int)
 refine Za (oW (oW (oe (dT hs4) (jH (ZcL (Wt (t_hit (Ze (Za (oS (iv j) (oV ((j+1:Nat):Int) (oS (iv (j+1:Nat)) (kN 91 (Y0 c p.rz[r]) [(4,iv i),(8,bx 3),(9,bx 4),(17,bv (En.exU c p.rz[r] i j)),(18,iv (j+1:Nat)),(58,bT),(63,bT)] (Ze ?_))))))))))))))
 refine Zs ⟨j+1,by omega,En.noF_succ hnf (En.fa_same (by omega))⟩ (show c.st.length-(j+1)<c.st.length-j by omega) ?_
 show Wk _ _ (ofL [(3,.box 31 (Rd.cCg c)),(4,.box 57 (cRu p.rz[r]))]) (ofT 91 [(4,iv i),(8,bx 3),(9,bx 4),(17,bv (En.exU c p.rz[r] i (j+1))),(18,iv ((j+1):Nat))])
 rw [En.exU_same (by omega)]
 exact Zp _ _
 refine Za (oW (oW (oe (dF hs4) (jF (Zl ?_)))))
 by_cases hs5:(En.exU c p.rz[r] i j)=true
 rw [hs5]
 refine kW 91 (Y0 c p.rz[r]) (XEr3_h3 i j) ?_
 refine tD (dW (dS bT (dK (dK (dK (dK (dK (dK (dK (dK (dW (dS bT (eD ?_)))))))))))))
 refine kW 91 (Y0 c p.rz[r]) (XEr3_h3 i j) (jC ?_)
 by_cases hs6:0<((p.rz[r].fa.length:Nat):Int)
 by_cases hs7:(decide (c.st[j]∈p.rz[r].fa))=true
 refine tD (dW (dW (dW (dg (dT hs6) (dS bT (dW (dW (dW (dS (Zb c.st) (dS (iv j) (dC (xS (j*1) 83 84 U24) I0 I0 (dL (iv c.st[j]) (Zw c.st (by omega)) (dk (Zr (has_c p.rz[r].fa c.st[j] hlf) hs7) [Zb p.rz[r].fa,iv c.st[j]] rfl rfl (dW (dS bF (eD ?_))))))))))))))))
 refine kW 91 (Y0 c p.rz[r]) (XEr3_h4 i j) (Ze (ZD rfl (Zq (Zv (Ze (Za (oS (iv j) (oV ((j+1:Nat):Int) (oS (iv (j+1:Nat)) (kN 91 (Y0 c p.rz[r]) (XEr3_h5 i j) (Ze ?_)))))))))))
 refine Zs ⟨j+1,by omega,En.noF_succ hnf (En.fa_in hj1 hs7)⟩ (show c.st.length-(j+1)<c.st.length-j by omega) ?_
 show Wk _ _ (ofL [(3,.box 31 (Rd.cCg c)),(4,.box 57 (cRu p.rz[r]))]) (ofT 91 [(4,iv i),(8,bx 3),(9,bx 4),(17,bv (En.exU c p.rz[r] i (j+1))),(18,iv ((j+1):Nat))])
 rw [En.exU_t hs5]
 exact Zp _ _
 have hs7f:(decide (c.st[j]∈p.rz[r].fa))=false:=by simpa using hs7
 refine tD (dW (dW (dW (dg (dT hs6) (dS bT (dW (dW (dW (dS (Zb c.st) (dS (iv j) (dC (xS (j*1) 83 84 U24) I0 I0 (dL (iv c.st[j]) (Zw c.st (by omega)) (dk (Zr (has_c p.rz[r].fa c.st[j] hlf) hs7f) [Zb p.rz[r].fa,iv c.st[j]] rfl rfl (dW (dS bT (eD ?_))))))))))))))))
 refine kW 91 (Y0 c p.rz[r]) [(4,iv i),(8,bx 3),(9,bx 4),(17,bT),(18,iv j),(58,bT),(63,bF),(89,bT)] (Ze (jK (oS bF (jE (Zo (Zd (Zd (Zo (Zd ?_)))))))))
 refine Zg Tryz.results44 (.tmp rfl) ?_
 exact cB ((En.lo_fa hj1 (En.fa_out hj1 (by omega) hs6 hs7f)).symm)
 refine tD (dW (dW (dW (dg (dF hs6) (dS bF (dK (dK (dK (dK (dK (dK (dK (dK (dK (dS bF (eD ?_))))))))))))))))
 refine kW 91 (Y0 c p.rz[r]) (XEr3_h4 i j) (Ze (ZD rfl (Zq (Zv (Ze (Za (oS (iv j) (oV ((j+1:Nat):Int) (oS (iv (j+1:Nat)) (kN 91 (Y0 c p.rz[r]) (XEr3_h5 i j) (Ze ?_)))))))))))
 refine Zs ⟨j+1,by omega,En.noF_succ hnf (En.fa_none hs6)⟩ (show c.st.length-(j+1)<c.st.length-j by omega) ?_
 show Wk _ _ (ofL [(3,.box 31 (Rd.cCg c)),(4,.box 57 (cRu p.rz[r]))]) (ofT 91 [(4,iv i),(8,bx 3),(9,bx 4),(17,bv (En.exU c p.rz[r] i (j+1))),(18,iv ((j+1):Nat))])
 rw [En.exU_t hs5]
 exact Zp _ _
 have hs5f:(En.exU c p.rz[r] i j)=false:=by simpa using hs5
 rw [hs5f]
 refine kW 91 (Y0 c p.rz[r]) [(4,iv i),(8,bx 3),(9,bx 4),(17,bF),(18,iv j),(58,bT),(63,bF)] ?_
 refine tD (dW (dS bF (dW (dW (dW (dS (Zb c.st) (dS (iv j) (dC (xS (j*1) 69 70 U24) I0 I0 (dL (iv c.st[j]) (Zw c.st (by omega)) (dk (has_c p.rz[r].ex c.st[j] hle) [Zb p.rz[r].ex,iv c.st[j]] rfl rfl (dW (dS (bv (decide (c.st[j]∈p.rz[r].ex))) (eD ?_)))))))))))))
 refine kW 91 (Y0 c p.rz[r]) [(4,iv i),(8,bx 3),(9,bx 4),(17,bv (decide (c.st[j]∈p.rz[r].ex))),(18,iv j),(58,bT),(63,bF)] (jC ?_)
 by_cases hs8:0<((p.rz[r].fa.length:Nat):Int)
 by_cases hs9:(decide (c.st[j]∈p.rz[r].fa))=true
 refine tD (dW (dW (dW (dg (dT hs8) (dS bT (dW (dW (dW (dS (Zb c.st) (dS (iv j) (dC (xS (j*1) 83 84 U24) I0 I0 (dL (iv c.st[j]) (Zw c.st (by omega)) (dk (Zr (has_c p.rz[r].fa c.st[j] hlf) hs9) [Zb p.rz[r].fa,iv c.st[j]] rfl rfl (dW (dS bF (eD ?_))))))))))))))))
 refine kW 91 (Y0 c p.rz[r]) [(4,iv i),(8,bx 3),(9,bx 4),(17,bv (decide (c.st[j]∈p.rz[r].ex))),(18,iv j),(58,bT),(63,bF),(89,bF)] (Ze (ZD rfl (Zq (Zv (Ze (Za (oS (iv j) (oV ((j+1:Nat):Int) (oS (iv (j+1:Nat)) (kN 91 (Y0 c p.rz[r]) [(4,iv i),(8,bx 3),(9,bx 4),(17,bv (decide (c.st[j]∈p.rz[r].ex))),(18,iv (j+1:Nat)),(58,bT),(63,bF),(89,bF)] (Ze ?_)))))))))))
 refine Zs ⟨j+1,by omega,En.noF_succ hnf (En.fa_in hj1 hs9)⟩ (show c.st.length-(j+1)<c.st.length-j by omega) ?_
 show Wk _ _ (ofL [(3,.box 31 (Rd.cCg c)),(4,.box 57 (cRu p.rz[r]))]) (ofT 91 [(4,iv i),(8,bx 3),(9,bx 4),(17,bv (En.exU c p.rz[r] i (j+1))),(18,iv ((j+1):Nat))])
 rw [En.exU_f hj1 hs5f (by omega)]
 exact Zp _ _
 have hs9f:(decide (c.st[j]∈p.rz[r].fa))=false:=by simpa using hs9
 refine tD (dW (dW (dW (dg (dT hs8) (dS bT (dW (dW (dW (dS (Zb c.st) (dS (iv j) (dC (xS (j*1) 83 84 U24) I0 I0 (dL (iv c.st[j]) (Zw c.st (by omega)) (dk (Zr (has_c p.rz[r].fa c.st[j] hlf) hs9f) [Zb p.rz[r].fa,iv c.st[j]] rfl rfl (dW (dS bT (eD ?_))))))))))))))))
 refine kW 91 (Y0 c p.rz[r]) [(4,iv i),(8,bx 3),(9,bx 4),(17,bv (decide (c.st[j]∈p.rz[r].ex))),(18,iv j),(58,bT),(63,bF),(89,bT)] (Ze (jK (oS bF (jE (Zo (Zd (Zd (Zo (Zd ?_)))))))))
 refine Zg Tryz.results44 (.tmp rfl) ?_
 exact cB ((En.lo_fa hj1 (En.fa_out hj1 (by omega) hs8 hs9f)).symm)
 refine tD (dW (dW (dW (dg (dF hs8) (dS bF (dK (dK (dK (dK (dK (dK (dK (dK (dK (dS bF (eD ?_))))))))))))))))
 refine kW 91 (Y0 c p.rz[r]) [(4,iv i),(8,bx 3),(9,bx 4),(17,bv (decide (c.st[j]∈p.rz[r].ex))),(18,iv j),(58,bT),(63,bF),(89,bF)] (Ze (ZD rfl (Zq (Zv (Ze (Za (oS (iv j) (oV ((j+1:Nat):Int) (oS (iv (j+1:Nat)) (kN 91 (Y0 c p.rz[r]) [(4,iv i),(8,bx 3),(9,bx 4),(17,bv (decide (c.st[j]∈p.rz[r].ex))),(18,iv (j+1:Nat)),(58,bT),(63,bF),(89,bF)] (Ze ?_)))))))))))
 refine Zs ⟨j+1,by omega,En.noF_succ hnf (En.fa_none hs8)⟩ (show c.st.length-(j+1)<c.st.length-j by omega) ?_
 show Wk _ _ (ofL [(3,.box 31 (Rd.cCg c)),(4,.box 57 (cRu p.rz[r]))]) (ofT 91 [(4,iv i),(8,bx 3),(9,bx 4),(17,bv (En.exU c p.rz[r] i (j+1))),(18,iv ((j+1):Nat))])
 rw [En.exU_f hj1 hs5f (by omega)]
 exact Zp _ _
 refine Za (oW (oW (oW (oW (ol (dF hs3) (jI (jO (jC (Za (oF (bv (En.exU c p.rz[r] i j)) (jE ?_)))))))))))
 refine Zg Tryz.results44 (.tmp rfl) ?_
 exact cB ((En.lo_ex hrd (by omega) hs0 (by omega) hj0 hnf).symm)
end Go.Proofs.YtdbehgbggaaipaaGreat
