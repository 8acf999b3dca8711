import Derived.Test.YtmpgnibfhjdfpaaGreatGrphmlokojd
import Derived.Test.YtmpgnibfhjdfpaaGreatGrpcpddaaie
import Derived.Test.YtmpgnibfhjdfpaaGreatGrpcjplndde
import Derived.Test.YtmpgnibfhjdfpaaGreatGrphhmpajpk
import Derived.Test.YtmpgnibfhjdfpaaGreatGrpfeghdkpi
import Derived.Test.YtmpgnibfhjdfpaaGreatGrpekedlffa
import Derived.Test.YtmpgnibfhjdfpaaGreatGrpeojcophi
import Derived.Test.YtmpgnibfhjdfpaaGreatGrppoikgaho
set_option linter.all false
namespace Go.Proofs.YtmpgnibfhjdfpaaGreat
open Go.RowKit Go.Deep Tryz
set_option maxHeartbeats 12800000
variable {J:World->Prop}
def Vi.sysQ (p:Fm) (n t f:Int) (N:Nat):List AV:=midF (cFm p++[iv n,iv t,iv f,iv (N:Int),iv (n-f)]) 16 (λq=>iv (En.bdP p n t f p.rz.length 0 q)) [slA 1 cLi (Ns.shT p.top (Ns.cntE p n f)),En.lkS p.top (Ns.cntE p n f).toNat]
variable {p:Fm}{n t f:Int}{N:Nat}
theorem Vi.sysQ_eq (h:Ns.cntE p n f=(N:Int)):Vi.sysQ p n t f N=En.sysP p n t f:=by
 unfold Vi.sysQ
 rw [<- h]
 rfl
def Vi.chK (p:Fm) (q:Pq) (cor:Int) (N k:Nat):List AV:=(List.range k).map (λi=>Zc (Vi.chI p q cor i))++List.replicate (N-k) (nz)
variable {q:Pq}{cor:Int}
theorem Vi.chK_zero :List.replicate N (nz)=Vi.chK p q cor N 0:=rfl
variable {k:Nat}
theorem Vi.chK_len (h:k<=N):(Vi.chK p q cor N k).length=N:=by simp [Vi.chK];omega
variable {l:List Int}
theorem Vi.chK_succ (h:k<N) (e:Vi.chI p q cor k=l):setAll (Vi.chK p q cor N k) (k*1) (Z6 false [Zc l])=Vi.chK p q cor N (k+1):=by
 subst e
 have h2:=Zcv [Zc (Vi.chI p q cor k)] ((List.range k).map λi=>Zc (Vi.chI p q cor i)) [(nz:AV)] (List.replicate (N-(k+1)) (nz)) rfl
 rw [List.length_map,List.length_range] at h2
 rw [Nat.mul_one]
 unfold Vi.chK
 rw [show N-k=(N-(k+1))+1 by omega,List.replicate_succ,List.range_succ,List.map_append]
 show setAll _ k [_]=_
 rw [List.append_assoc] at h2
 rw [show ((List.range k).map λi=>Zc (Vi.chI p q cor i))++(nz::List.replicate (N-(k+1)) (nz))=((List.range k).map λi=>Zc (Vi.chI p q cor i))++([(nz:AV)]++List.replicate (N-(k+1)) (nz)) from rfl,h2]
 rfl
def Vi.chL (p:Fm) (q:Pq) (cor:Int) (N:Nat):List (List Int):=(List.range N).map (Vi.chI p q cor)
theorem Vi.chL_len :(Vi.chL p q cor N).length=N:=by simp [Vi.chL]
theorem Vi.chL_at (h:k<(Vi.chL p q cor N).length):(Vi.chL p q cor N)[k]=Vi.chI p q cor k:=by simp [Vi.chL]
theorem Vi.chK_all :AV.sl 1 N (Vi.chK p q cor N N)=slA 1 cLi (Vi.chL p q cor N):=by
 unfold slA
 rw [Vi.chL_len]
 unfold Vi.chK Vi.chL
 rw [Nat.sub_self,List.replicate_zero,List.append_nil,List.flatMap_map]
 exact congrArg (AV.sl 1 N) List.map_eq_flatMap
theorem Vi.chK_end (h:k=N):AV.sl 1 N (Vi.chK p q cor N k)=slA 1 cLi (Vi.chL p q cor N):=by subst h;exact Vi.chK_all
theorem wk_stripT {h:AHeap} {t:ATm} (i:Nat) {X:AV} {t':ATm} (hi:t.f i = .fr X) (ht:(⟨t.n,λj=>if j=i then X else t.f j⟩:ATm)=t'):Wk h t h t':=by
 subst ht
 intro J w0 ρ a w s
 refine ⟨ρ,s.wf,s.hH,s.bel,s.inv,s.hp,s.dom,s.pin,s.tl,λj hj => ?_,s.df,s.gh⟩
 show Rel _ _ _ (if j=i then _ else _) _
 by_cases e:j=i
 ·subst e
  rw [if_pos rfl]
  have h1:=s.tm j hj
  rw [hi] at h1
  cases h1 with
  | pu h=>exact .pu h.strip
 rw [if_neg e]
 exact s.tm j hj
theorem qStarts_v (HP:FmOk p) (LP:FamLen p) (HQ:PqOk q) (LQ:PqLen q) (hvp:vpE p q=0):Ctr Tryz.prog J 62 [.agg (cFm p),.agg (cPq q)] (.tup [Zc (Vi.stS p q),iv 0]):=by
 have h:=qStarts_c (J:=J) HP LP HQ LQ
 rw [hvp,show stL p q=Vi.stS p q from if_pos hvp] at h
 exact h
set_option maxRecDepth 100000 in
theorem choices_q (HP:FmOk p) (LP:FamLen p) (HQ:PqOk q) (LQ:PqLen q) (hvp:vpE p q=0) (hN8:N<=8) (hN:Ns.cntE p n f=(N:Int)):CtrA Tryz.prog J 35 [.el (Vi.sysQ p n t f N) 0,.agg (cPq q)] (slA 1 cLi (Vi.chL p q (n-f) N)):=by
 refine YU func35 rfl (pN (show Plain (.el (Vi.sysQ p n t f N) 0) from .el (ZE (by rw [Vi.sysQ_eq hN];exact En.plain_sysP p n t f))) (pN (Zg (Yd q)) pZ)) (n:=69) rfl (by simp) (λw0 => ?_)
 refine jB (oX 1 (.agg (cPq q)) (oS (nz) (jD ?_)))
 refine tD (dW (dW (dS (.el (Vi.sysQ p n t f N) 0) (dA (Zl (z:=10) (ds:=[sv p.nm,iv p.top,ZN p.sz,ZN p.msgs,ZN p.vals,iv p.fzz,slA 4 cLn p.res,Zc p.init,Zc p.lz,slA 18 cRu p.rz]) (.tmp 12) rfl U27 rfl (by kernel_rfl) (by kernel_rfl) rfl) I0 (dW (dk (qStarts_v HP LP HQ LQ hvp) [.agg [sv p.nm,iv p.top,ZN p.sz,ZN p.msgs,ZN p.vals,iv p.fzz,slA 4 cLn p.res,Zc p.init,Zc p.lz,slA 18 cRu p.rz],.agg (cPq q)] rfl rfl (dS (.tup [.fr (Zc (Vi.stS p q)),iv 0]) (dW (dW (dS (.fr (Zc (Vi.stS p q))) (dS (iv 0) (eD ?_))))))))))))
 refine jC (kW 69 [] [(0,.el (Vi.sysQ p n t f N) 0),(4,nz),(5,.fr (Zc (Vi.stS p q)))] ?_)
 refine Yp (wk_stripT 5 rfl rfl) ?_
 refine Za (W2 (oF (iv N) (YA rfl (sp_make (k:=2) (n:=N) (zv := .slice none 0 0) false rfl U50 (by kernel_rfl) rfl (by first | (show 24*N<=_;omega) | omega) (by first | (show 24*N<=_;omega) | omega) (cs:=(Vi.chK p q (n-f) N 0)) Vi.chK_zero) ⟨I0,I0,T0⟩ T0 rfl (oS (.own 2) (jD (jB (oS (.own 2) (oB (Kc (.tmp 23) rfl U50) I0 rfl (oS (iv 0) (jA (Zh ?_)))))))))))
 refine Zw (σ:={k:Nat // k<=N}) (λs=>(ofL [(2,.row false 24 1 N (Vi.chK p q (n-f) N s.1))],ofT 69 [(0,.el (Vi.sysQ p n t f N) 0),(4,nz),(5,Zc (Vi.stS p q)),(7,.own 2),(24,iv N),(25,iv s.1)])) (λs=>N-s.1) ⟨0,Nat.zero_le _⟩ (Zk _ _) (λs => ?_)
 obtain ⟨k,hk0⟩:=s
 show ETri J w0 (ofL [(2,.row false 24 1 N (Vi.chK p q (n-f) N k))]) (ofT 69 [(0,.el (Vi.sysQ p n t f N) 0),(4,nz),(5,Zc (Vi.stS p q)),(7,.own 2),(24,iv N),(25,iv k)]) _
 refine Zi ?_
 by_cases hs1:(k:Int)<(N:Int)
 refine Za (ol (dT hs1) (jD (ZM rfl (Zj (jC (Zh (jB (oF (iv k) (jA (Zh (Zi ?_)))))))))))
 by_cases hs2:(k:Int)=0
 by_cases hs3:0<(p.lz.length:Int)
 refine Za (oW (oe (dT hs2) (oS bT (W4 (W2 (og (dT hs3) (oF bT (jH (Za (oS (.own 2) (oS (iv k) (W3 (oF (Zc p.lz) (YA rfl (ZP (off:=k*1) (.tmp 48) (.tmp 49) rfl U50 (by kernel_rfl) (by omega) (by omega) rfl) ⟨I0,I0,T0⟩ ⟨rfl,T0⟩ T0 (YA rfl (Z8 (X:=Zc p.lz) (off:=k*1) (cs:=(Vi.chK p q (n-f) N k)) (ds:=(Vi.chK p q (n-f) N (k+1))) (zz:=1) (.tmp 55) (.tmp 54) rfl (by kernel_rfl) (by kernel_rfl) (λh=>Bool.noConfusion h) (by kernel_rfl) (by rw [Vi.chK_len (by omega)];omega) (Vi.chK_succ (by omega) (Vi.ch_l (by omega) hs3))) ⟨I0,I0,T0⟩ ⟨rfl,T0⟩ rfl ?_)))))))))))))))
 refine ZL (Zs (Zs (Zf (Za (oV ((k+1:Nat):Int) (oS (iv (k+1:Nat)) (jA ?_)))))))
 refine Zp ⟨k+1,by omega⟩ (show N-(k+1)<N-k by omega) ?_
 exact Zk _ _
 refine Za (oW (oe (dT hs2) (oS bT (W4 (W2 (og (dF hs3) (oF bF (jI (Zi ?_)))))))))
 by_cases hs4:(k:Int)<(n-f)
 refine Za (W4 (oW (ol (dT hs4) (oS bT (jH (Za (oS (.own 2) (oS (iv k) (oS (Zc (Vi.stS p q)) (YA rfl (ZP (off:=k*1) (.tmp 63) (.tmp 64) rfl U50 (by kernel_rfl) (by omega) (by omega) rfl) ⟨I0,I0,T0⟩ ⟨rfl,T0⟩ T0 (YA rfl (Z8 (X:=Zc (Vi.stS p q)) (off:=k*1) (cs:=(Vi.chK p q (n-f) N k)) (ds:=(Vi.chK p q (n-f) N (k+1))) (zz:=1) (.tmp 66) (.tmp 65) rfl (by kernel_rfl) (by kernel_rfl) (λh=>Bool.noConfusion h) (by kernel_rfl) (by rw [Vi.chK_len (by omega)];omega) (Vi.chK_succ (by omega) (Vi.ch_s (λe=>absurd e.2 hs3) hs4))) ⟨I0,I0,T0⟩ ⟨rfl,T0⟩ rfl (ZL (Zs (Zs (Zf (Za (oV ((k+1:Nat):Int) (oS (iv (k+1:Nat)) ?_))))))))))))))))))
 refine jA ?_
 refine Zp ⟨k+1,by omega⟩ (show N-(k+1)<N-k by omega) ?_
 exact Zk _ _
 refine Za (W4 (oW (ol (dF hs4) (oS bF (jI (Za (oS (.own 2) (oS (iv k) (W3 (oF (Zc p.init) (YA rfl (ZP (off:=k*1) (.tmp 28) (.tmp 29) rfl U50 (by kernel_rfl) (by omega) (by omega) rfl) ⟨I0,I0,T0⟩ ⟨rfl,T0⟩ T0 (YA rfl (Z8 (X:=Zc p.init) (off:=k*1) (cs:=(Vi.chK p q (n-f) N k)) (ds:=(Vi.chK p q (n-f) N (k+1))) (zz:=1) (.tmp 35) (.tmp 34) rfl (by kernel_rfl) (by kernel_rfl) (λh=>Bool.noConfusion h) (by kernel_rfl) (by rw [Vi.chK_len (by omega)];omega) (Vi.chK_succ (by omega) (Vi.ch_i (λe=>absurd e.2 hs3) hs4))) ⟨I0,I0,T0⟩ ⟨rfl,T0⟩ rfl (kN 69 [(2,.row false 24 1 N (Vi.chK p q (n-f) N (k+1)))] [(0,.el (Vi.sysQ p n t f N) 0),(4,nz),(5,Zc (Vi.stS p q)),(7,.own 2),(8,iv k),(24,iv N),(25,iv k),(26,bT),(36,bF),(56,bF)] (Zs (Zs (Zf ?_))))))))))))))))
 refine Za (oV ((k+1:Nat):Int) (oS (iv (k+1:Nat)) (jA ?_)))
 refine Zp ⟨k+1,by omega⟩ (show N-(k+1)<N-k by omega) ?_
 exact Zk _ _
 refine Za (oW (oe (dF hs2) (oS bF (V5 (V2 (oF bF (jI (Zi ?_))))))))
 by_cases hs5:(k:Int)<(n-f)
 refine Za (W4 (oW (ol (dT hs5) (oS bT (jH (Za (oS (.own 2) (oS (iv k) (oS (Zc (Vi.stS p q)) (YA rfl (ZP (off:=k*1) (.tmp 63) (.tmp 64) rfl U50 (by kernel_rfl) (by omega) (by omega) rfl) ⟨I0,I0,T0⟩ ⟨rfl,T0⟩ T0 (YA rfl (Z8 (X:=Zc (Vi.stS p q)) (off:=k*1) (cs:=(Vi.chK p q (n-f) N k)) (ds:=(Vi.chK p q (n-f) N (k+1))) (zz:=1) (.tmp 66) (.tmp 65) rfl (by kernel_rfl) (by kernel_rfl) (λh=>Bool.noConfusion h) (by kernel_rfl) (by rw [Vi.chK_len (by omega)];omega) (Vi.chK_succ (by omega) (Vi.ch_s (λe=>hs2 (by omega)) hs5))) ⟨I0,I0,T0⟩ ⟨rfl,T0⟩ rfl (ZL (Zs (Zs (Zf (Za (oV ((k+1:Nat):Int) (oS (iv (k+1:Nat)) ?_))))))))))))))))))
 refine jA ?_
 refine Zp ⟨k+1,by omega⟩ (show N-(k+1)<N-k by omega) ?_
 exact Zk _ _
 refine Za (W4 (oW (ol (dF hs5) (oS bF (jI (Za (oS (.own 2) (oS (iv k) (W3 (oF (Zc p.init) (YA rfl (ZP (off:=k*1) (.tmp 28) (.tmp 29) rfl U50 (by kernel_rfl) (by omega) (by omega) rfl) ⟨I0,I0,T0⟩ ⟨rfl,T0⟩ T0 (YA rfl (Z8 (X:=Zc p.init) (off:=k*1) (cs:=(Vi.chK p q (n-f) N k)) (ds:=(Vi.chK p q (n-f) N (k+1))) (zz:=1) (.tmp 35) (.tmp 34) rfl (by kernel_rfl) (by kernel_rfl) (λh=>Bool.noConfusion h) (by kernel_rfl) (by rw [Vi.chK_len (by omega)];omega) (Vi.chK_succ (by omega) (Vi.ch_i (λe=>hs2 (by omega)) hs5))) ⟨I0,I0,T0⟩ ⟨rfl,T0⟩ rfl (ZL (Zs (Zs (Zf ?_))))))))))))))))
 refine Za (oV ((k+1:Nat):Int) (oS (iv (k+1:Nat)) (jA ?_)))
 refine Zp ⟨k+1,by omega⟩ (show N-(k+1)<N-k by omega) ?_
 exact Zk _ _
 refine Za (ol (dF hs1) (jD (Zu rfl (jO (jC (Za (oF (.own 2) (jE ?_))))))))
 refine YJ [(2,.row false 24 1 N (Vi.chK p q (n-f) N k))] results35 (.tmp rfl) (by kernel_rfl) rfl rfl ?_ ?_
 ·have e:k=N:=by omega
  show Plain (.sl 1 N (Vi.chK p q (n-f) N k))
  rw [Vi.chK_end e];exact Yj Zbp _
 have e:k=N:=by omega
 exact Vi.chK_end e
section
variable {P:Program} {J:World->Prop} {o:Oper}
theorem K3 {T ty:TypeId} {x y:Operand} (xs ys:List Value) {b:Bool} (r:Bool) (ho:o.op = .binOp .eql T x y ty) (hm:P.eqGuardType P.depth T=false) (H:∀ w,(Op.equalIn 10000 T (.agg xs.toArray) (.agg ys.toArray)).run P w = .ok b w) (hr:b=r) :
 ASpec P J o [(x,.agg (xs.map AV.v)),(y,.agg (ys.map AV.v))] [] (.v (.bool r)) .no :=
 ZF fun ρ B a w _ ha _=>by
  have h1:=ZaM (ha (x,.agg (xs.map AV.v)) (by simp))
  have h2:=ZaM (ha (y,.agg (ys.map AV.v)) (by simp))
  refine ⟨.bool r,?_,.pu (.v _)⟩
  simp only [execOp,ho,h1,h2]
  refine Z7 ?_
  rw [Sem.run_bind,run_eqGuard_agg w .eql T x y _ _ hm,Result.andThen_ok,run_eql_struct,H w,hr]
  rfl
theorem Zbj (w:World) (d:Nat) (t e:TypeId) (a b c a' b' c':Int) (ht:P.underlying t=some (.array 3 e)) (he:P.underlying e=some (.int .i64)) (hm:(P.info? e).map (·.size)=some 1) :
 (Op.equalIn (d+1+1) t (.agg #[.int .i64 a,.int .i64 b,.int .i64 c]) (.agg #[.int .i64 a',.int .i64 b',.int .i64 c'])).run P w = .ok (decide (a=a'/\b=b'/\c=c')) w:=by
 obtain ⟨i,hi,h1⟩:=Option.map_eq_some_iff.1 hm
 have h0:∀ (w:World) (x y:Int),(Op.equalIn (d+1) e (.int .i64 x) (.int .i64 y)).run P w = .ok (x==y) w:=λw x y=>run_equalIn_int w d e .i64 .i64 x y he
 rw [Op.equalIn]
 by_cases e1:a=a'
 ·by_cases e2:b=b'
  ·by_cases e3:c=c'
   ·simp [run_underlying ht,sizeOf,typeInfo,hi,h1,part,isAgg,run_underlying he,h0,Result.andThen,List.range',e1,e2,e3]
   simp [run_underlying ht,sizeOf,typeInfo,hi,h1,part,isAgg,run_underlying he,h0,Result.andThen,List.range',e1,e2,e3]
  simp [run_underlying ht,sizeOf,typeInfo,hi,h1,part,isAgg,run_underlying he,h0,Result.andThen,List.range',e1,e2]
 simp [run_underlying ht,sizeOf,typeInfo,hi,h1,part,isAgg,run_underlying he,h0,Result.andThen,List.range',e1]
end
theorem choices_c (HP:FmOk p) (LP:FamLen p) (HQ:PqOk q) (LQ:PqLen q) (hvp:vpE p q=0) (hN8:N<=8) (hN:Ns.cntE p n f=(N:Int)):CtrA Tryz.prog J 35 [.el (En.sysP p n t f) 0,.agg (cPq q)] (slA 1 cLi (Vi.chL p q (n-f) N)):=by
 have h:=choices_q (J:=J) HP LP HQ LQ hvp (t:=t) hN8 hN
 rwa [Vi.sysQ_eq hN] at h
theorem Vi.eq_msg (a b c:Int) (w:World):(Op.equalIn 10000 60 (.agg [.int .i64 a,.int .i64 b,.int .i64 c].toArray) (.agg [.int .i64 0,.int .i64 0,.int .i64 0].toArray)).run Tryz.prog w = .ok (decide (a=0/\b=0/\c=0)) w :=
 Zbj w 9998 _ _ a b c 0 0 0 underlying60 underlying3 (by kernel_rfl)
theorem Vi.ze3 (h:l.length<=3):Vi.zeB l=decide (l.getD 0 0=0/\l.getD 1 0=0/\l.getD 2 0=0):=by
 unfold Vi.zeB
 match l,h with
 | [],_=>rfl
 | [a],_=>simp
 | [a,b],_=>simp
 | [a,b,c],_=>simp
variable {c:Cf}
theorem Vi.in_vd (h1:Vi.zeB c.se=true) (h2:Vi.zeB c.fa=true) (hk:c.st.length<=k) (h:Vi.inK p q cor c.st k):Vi.inB p q cor c=decide (c.val=0):=by
 by_cases hv:c.val=0
 ·rw [Vi.in_yes hv h1 h2 hk h,decide_eq_true hv]
 rw [Vi.in_val hv,decide_eq_false hv]
theorem Vi.has_at {st:List Int} (hk:k<st.length):decide (st.getD k 0∈(Vi.chL p q cor st.length)[k]'(by rw [Vi.chL_len];exact hk))=decide (st[k]∈Vi.chI p q cor k):=by
 rw [Vi.chL_at,List.getD_eq_getElem?_getD,List.getElem?_eq_getElem hk]
 rfl
variable {sx:Int}
set_option maxRecDepth 100000 in
set_option maxHeartbeats 6400000 in
theorem isInit_c (HP:FmOk p) (LP:FamLen p) (HQ:PqOk q) (LQ:PqLen q) (hvp:vpE p q=0) (hc:En.CfV p n f c) (l8:c.st.length<=8) (hl3m:p.msgs.length<=3):Ctr Tryz.prog J 17 [.el (En.sysP p n t f) 0,.agg (cPq q),.agg (En.cfV sx c)] (bv<|Vi.inB p q (n-f) c):=by
 have hcl:=Vi.chL_len (p:=p) (q:=q) (cor:=n-f) (N:=c.st.length)
 have hl2:c.se.length<=3:=by rw [hc.ls];exact hl3m
 have hl3:c.fa.length<=3:=by rw [hc.lf];exact hl3m
 refine Zn func17 rfl (pN (show Plain (.el (En.sysP p n t f) 0) from .el (ZE<|En.plain_sysP p n t f))<|pN (Zg<|Yd q)<|pN (Zg<|En.plain_cfV _ c) pZ) (n:=41) rfl (by simp)<|λw0 => ?_
 refine jB<|oA (ZC (X := .agg (cPq q)) (.tmp 1) rfl rfl rfl) I0<|oA (ZC (X := .agg (En.cfV sx c)) (.tmp 2) rfl rfl rfl) I0<|oS bF<|jD<|jB<|oS (.el (En.sysP p n t f) 0)<|oA (Zl (z:=6) (.tmp 4) rfl U30 rfl (by kernel_rfl) rfl rfl) I0<|oD (Kp (c := .func 35) (xs := #[.tmp 9,.tmp 10]) (choices_c HP LP HQ LQ hvp l8 hc.ln.symm) rfl (by kernel_rfl) rfl (Xs:=[.el (En.sysP p n t f) 0,.agg (cPq q)]) rfl rfl) I0 I0 I0<|oS (iv ((Vi.chL p q (n-f) c.st.length).length:Nat))<|oS (iv 0)<|jA<|Zh ?_
 refine Zw (σ:={k:Nat // k<=c.st.length/\Vi.inK p q (n-f) c.st k}) (λs=>(ofL [],ofT 41 [(5,.el (En.cfV sx c) 0),(11,slA 1 cLi (Vi.chL p q (n-f) c.st.length)),(12,iv ((Vi.chL p q (n-f) c.st.length).length:Nat)),(13,iv s.1)])) (λs=>c.st.length-s.1) ⟨0,Nat.zero_le _,Vi.in_zero⟩ (Zk [] _)<|λs => ?_
 obtain ⟨k,hk0,hin⟩:=s
 show ETri J w0 (ofL []) (ofT 41 [(5,.el (En.cfV sx c) 0),(11,slA 1 cLi (Vi.chL p q (n-f) c.st.length)),(12,iv ((Vi.chL p q (n-f) c.st.length).length:Nat)),(13,iv k)]) _
 refine Zi ?_
 by_cases hs1:(k:Int)<(((Vi.chL p q (n-f) c.st.length).length:Nat):Int)
 have hk1:k<c.st.length:=by omega
 refine Za<|ol (dT hs1)<|jD<|ZM rfl<|Zj<|jC<|Zh<|jB<|oW<|oC (xS (k*1) 11 13 U50) I0 I0<|oL (Zc<|(Vi.chL p q (n-f) c.st.length)[k]) (fT lenLi (Vi.chL p q (n-f) c.st.length) k 0)<|oS (iv k)<|oS (Zc<|(Vi.chL p q (n-f) c.st.length)[k])<|jD ?_
 by_cases hs2:(decide<|c.st.getD k 0∈(Vi.chL p q (n-f) c.st.length)[k])=true
 refine Za<|oW<|oS (iv k)<|oS (.el (En.cfV sx c) 1)<|oC (ZV (off':=1+k*1) (.tmp 20) (.tmp 19) rfl U58 (by kernel_rfl) (by omega) (by omega) rfl) I0 I0<|oA (lE (iv<|c.st.getD k 0) 21 U3<|En.cfV_st<|by omega) I0<|oK (Zo (Ym (Vi.chL p q (n-f) c.st.length)[k] (c.st.getD k 0) (by rw [Vi.chL_at];exact Vi.ch_len LP LQ)) hs2) [Zc ((Vi.chL p q (n-f) c.st.length)[k]),iv (c.st.getD k 0)] rfl rfl<|oS bF<|jI<|Zj<|Zs<|Zf<|Za<|oV ((k+1:Nat):Int)<|oS (iv (k+1:Nat))<|jA ?_
 exact Zp ⟨k+1,by omega,Vi.in_succ hk1 hin ((Vi.has_at hk1).symm.trans hs2)⟩ (show c.st.length-(k+1)<c.st.length-k by omega)<|Zk [] _
 have hs2f:(decide<|c.st.getD k 0∈(Vi.chL p q (n-f) c.st.length)[k])=false:=by simpa using hs2
 refine Za<|oW<|oS (iv k)<|oS (.el (En.cfV sx c) 1)<|oC (ZV (off':=1+k*1) (.tmp 20) (.tmp 19) rfl U58 (by kernel_rfl) (by omega) (by omega) rfl) I0 I0<|oA (lE (iv<|c.st.getD k 0) 21 U3<|En.cfV_st<|by omega) I0<|oK (Zo (Ym (Vi.chL p q (n-f) c.st.length)[k] (c.st.getD k 0) (by rw [Vi.chL_at];exact Vi.ch_len LP LQ)) hs2f) [Zc ((Vi.chL p q (n-f) c.st.length)[k]),iv (c.st.getD k 0)] rfl rfl<|oS bT<|jG<|oS bF<|jE<|Ze<|Zb<|Zb<|Ze<|Zb ?_
 exact Zd results17 (.tmp rfl)<|cB<|(Vi.in_no hk1<|(Vi.has_at hk1).symm.trans hs2f).symm
 refine Za<|ol (dF hs1)<|jD<|Zu rfl<|jO<|jC ?_
 by_cases hs3:(decide<|c.se.getD 0 0=0/\c.se.getD 1 0=0/\c.se.getD 2 0=0)=true
 by_cases hs4:(decide<|c.fa.getD 0 0=0/\c.fa.getD 1 0=0/\c.fa.getD 2 0=0)=true
 refine Za<|oS (.el (En.cfV sx c) 9)<|oA (Zl (z:=3) (ds:=[iv (c.se.getD 0 0),iv (c.se.getD 1 0),iv (c.se.getD 2 0)]) (.tmp 26) rfl U60 rfl (by kernel_rfl) (by kernel_rfl) rfl) I0<|YA rfl (YQ [] #[.int .i64 0,.int .i64 0,.int .i64 0] rfl rfl (by kernel_rfl) rfl) T0 T0 T0<|oC (K3 [.int .i64 (c.se.getD 0 0),.int .i64 (c.se.getD 1 0),.int .i64 (c.se.getD 2 0)] [.int .i64 0,.int .i64 0,.int .i64 0] (r:=true) rfl (by kernel_rfl) (λw=>(Vi.eq_msg (c.se.getD 0 0) (c.se.getD 1 0) (c.se.getD 2 0) w)) hs3) I0 I0<|oS bT<|oS (.el (En.cfV sx c) 12)<|gA (Zl (z:=3) (ds:=[iv (c.fa.getD 0 0),iv (c.fa.getD 1 0),iv (c.fa.getD 2 0)]) (.tmp 31) rfl U60 rfl (by kernel_rfl) (by kernel_rfl) rfl) I0<|KA rfl (YQ [] #[.int .i64 0,.int .i64 0,.int .i64 0] rfl rfl (by kernel_rfl) rfl) T0 T0 T0<|gC (K3 [.int .i64 (c.fa.getD 0 0),.int .i64 (c.fa.getD 1 0),.int .i64 (c.fa.getD 2 0)] [.int .i64 0,.int .i64 0,.int .i64 0] (r:=true) rfl (by kernel_rfl) (λw=>(Vi.eq_msg (c.fa.getD 0 0) (c.fa.getD 1 0) (c.fa.getD 2 0) w)) hs4) I0 I0<|oF bT<|oF (iv c.val)<|gC (ZH rfl rfl) I0 I0<|oF (bv<|decide<|c.val=0)<|jE ?_
 exact Zd results17 (.tmp rfl)<|congrArg bv (Vi.in_vd ((Vi.ze3 hl2).trans hs3) ((Vi.ze3 hl3).trans hs4) (by omega) hin).symm
 have hs4f:(decide<|c.fa.getD 0 0=0/\c.fa.getD 1 0=0/\c.fa.getD 2 0=0)=false:=by simpa using hs4
 refine Za<|oS (.el (En.cfV sx c) 9)<|oA (Zl (z:=3) (ds:=[iv (c.se.getD 0 0),iv (c.se.getD 1 0),iv (c.se.getD 2 0)]) (.tmp 26) rfl U60 rfl (by kernel_rfl) (by kernel_rfl) rfl) I0<|YA rfl (YQ [] #[.int .i64 0,.int .i64 0,.int .i64 0] rfl rfl (by kernel_rfl) rfl) T0 T0 T0<|oC (K3 [.int .i64 (c.se.getD 0 0),.int .i64 (c.se.getD 1 0),.int .i64 (c.se.getD 2 0)] [.int .i64 0,.int .i64 0,.int .i64 0] (r:=true) rfl (by kernel_rfl) (λw=>(Vi.eq_msg (c.se.getD 0 0) (c.se.getD 1 0) (c.se.getD 2 0) w)) hs3) I0 I0<|oS bT<|oS (.el (En.cfV sx c) 12)<|gA (Zl (z:=3) (ds:=[iv (c.fa.getD 0 0),iv (c.fa.getD 1 0),iv (c.fa.getD 2 0)]) (.tmp 31) rfl U60 rfl (by kernel_rfl) (by kernel_rfl) rfl) I0<|KA rfl (YQ [] #[.int .i64 0,.int .i64 0,.int .i64 0] rfl rfl (by kernel_rfl) rfl) T0 T0 T0<|gC (K3 [.int .i64 (c.fa.getD 0 0),.int .i64 (c.fa.getD 1 0),.int .i64 (c.fa.getD 2 0)] [.int .i64 0,.int .i64 0,.int .i64 0] (r:=false) rfl (by kernel_rfl) (λw=>(Vi.eq_msg (c.fa.getD 0 0) (c.fa.getD 1 0) (c.fa.getD 2 0) w)) hs4f) I0 I0<|oF bF<|V3<|oF bF<|jE ?_
 exact Zd results17 (.tmp rfl)<|cB<|(Vi.in_fa<|(Vi.ze3 hl3).trans hs4f).symm
 have hs3f:(decide<|c.se.getD 0 0=0/\c.se.getD 1 0=0/\c.se.getD 2 0=0)=false:=by simpa using hs3
 refine Za<|oS (.el (En.cfV sx c) 9)<|oA (Zl (z:=3) (ds:=[iv (c.se.getD 0 0),iv (c.se.getD 1 0),iv (c.se.getD 2 0)]) (.tmp 26) rfl U60 rfl (by kernel_rfl) (by kernel_rfl) rfl) I0<|YA rfl (YQ [] #[.int .i64 0,.int .i64 0,.int .i64 0] rfl rfl (by kernel_rfl) rfl) T0 T0 T0<|oC (K3 [.int .i64 (c.se.getD 0 0),.int .i64 (c.se.getD 1 0),.int .i64 (c.se.getD 2 0)] [.int .i64 0,.int .i64 0,.int .i64 0] (r:=false) rfl (by kernel_rfl) (λw=>(Vi.eq_msg (c.se.getD 0 0) (c.se.getD 1 0) (c.se.getD 2 0) w)) hs3f) I0 I0<|oS bF<|V4<|oF bF<|V3<|oF bF<|jE<|Zd results17 (.tmp rfl) ?_
 exact cB<|(Vi.in_se<|(Vi.ze3 hl2).trans hs3f).symm
set_option maxRecDepth 100000
set_option maxHeartbeats 6400000
theorem Jd.in_w {n i:Nat} (h:i<n):Rd.inW 0 ((n:Int)-1) (i:Int)=true:=by
 unfold Rd.inW
 rw [decide_eq_true (by omega),decide_eq_true (by omega)];rfl
variable {sh:List Int}
theorem Jd.ringS {n i:Nat} (hi:i<n):(((i+1:Nat):Nat):Int).tmod (n:Int)=Jd.lkS 3 sh n i:=by
 unfold Jd.lkS rowL
 rw [if_neg (by omega)]
 dsimp only
 by_cases e:(i:Int)=(n:Int)-1
 ·rw [if_pos e,if_pos rfl,show (((i+1:Nat):Nat):Int)=(n:Int) by omega,Int.tmod_self]
 rw [if_neg e,Int.tmod_eq_of_lt (by omega) (by omega)];omega
variable {i:Nat}
theorem Jd.t_2 (hs:shp sh=true) (hi:i<sh.length) (h:sh[i]=2):Jd.lkF 4 sh sh.length i=((i+1:Nat):Int)/\Jd.lkS 4 sh sh.length i=(trun sh sh.length).se i:=by
 have:=((Tr.tree_kids hs hi).2 (by rw [Ct.getD_at hi];exact h)).1
 unfold Jd.lkF Jd.lkS
 rw [if_pos rfl,if_pos rfl,this]
 exact ⟨by omega,rfl⟩
theorem Jd.t_0 (hs:shp sh=true) (hi:i<sh.length) (h:¬ sh[i]=2):Jd.lkF 4 sh sh.length i = -1/\Jd.lkS 4 sh sh.length i = -1:=by
 have:=(Tr.tree_kids hs hi).1 (by rw [Ct.getD_at hi];exact h)
 unfold Jd.lkF Jd.lkS
 rw [if_pos rfl,if_pos rfl]
 exact this
theorem pu_any3 {F ok:Nat->Prop} {w:World} {a b c:Int} {v:Value} (h:Pu F w ok (.tup [iv a,iv b,iv c]) v):Pu F w ok (.tup [iv a,iv b,.any]) v:=by
 cases h with
 | tup hl h =>
   exact .tup hl λj hj=>(match j,hj with
    | 0,_=>h 0 (by simp)
    | 1,_=>h 1 (by simp)
    | 2,_ => .any _)
variable {xs:List Int}
theorem end_c (hs:shp xs=true) (lx:xs.length<=100) {j E:Nat} (hj1:j<=E) (hE:Tr.pre xs E+1=Tr.pre xs j) (hP:∀ t,j<=t->t<E->Tr.pre xs j<=Tr.pre xs t) (hl:E<=xs.length):Ctr Tryz.prog J 87 [Zc xs,iv j] (iv (E:Int)):=by
 refine Zn func87 rfl (pN (Zx _)<|pN (.v _) pZ) (n:=18) rfl (by simp)<|λw0 => kW 18 [] [(0,Zc xs),(1,iv j)]<|jB<|oS (iv 0)<|kN 18 [] [(0,Zc xs),(1,iv j),(4,iv 0)]<|jC<|Za<|oS (iv 1)<|kN 18 [] [(0,Zc xs),(1,iv j),(4,iv 0),(5,iv 1)]<|jC<|Zh ?_
 refine Zw (σ:={s:Nat × Int // j<=s.1/\s.1<=E/\s.2=1+Tr.pre xs s.1-Tr.pre xs j}) (λs=>(ofL [],ofT 18 [(0,Zc xs),(1,iv s.1.1),(4,iv 0),(5,iv s.1.2)])) (λs=>E-s.1.1) ⟨(j,1),Nat.le_refl _,hj1,by dsimp only;omega⟩ (Zk [] _)<|λs => ?_
 obtain ⟨⟨t,o⟩,ht0,ht1,hto⟩:=s
 show ETri J w0 (ofL []) (ofT 18 [(0,Zc xs),(1,iv t),(4,iv 0),(5,iv o)]) _
 dsimp only at ht0 ht1 hto
 have hb1:=Tr.pre_bd hs t<|by omega
 have hb2:=Tr.pre_bd hs j<|by omega
 refine jM ?_
 by_cases hs1:0<o
 have ht2:t<E:=by
  rcases Nat.lt_or_ge t E with h | h
  ·exact h
  exfalso;have e:t=E:=by omega
  subst e;omega
 have ht3:t<xs.length:=by omega
 have h02:=Tr.shp_02 hs ht3
 refine Za<|oW<|og (dT hs1)<|jH<|Zj<|Zf<|Zh<|jB<|oS (iv o)<|oS (Zc xs)<|oS (iv t)<|oC (xS (t*1) 9 10 U24) I0 I0<|oL (iv xs[t]) (Zr xs<|by omega)<|oU (xs[t]-1)<|oV (o+xs[t]-1)<|oS (iv<|o+xs[t]-1)<|jA<|Za<|oS (iv t)<|oV ((t+1:Nat):Int)<|oS (iv (t+1:Nat))<|kN 18 [] [(0,Zc xs),(1,iv (t+1:Nat)),(4,iv 0),(5,iv (o+xs[t]-1)),(7,bT)]<|Zs<|Zf ?_
 refine Zp ⟨(t+1,o+xs[t]-1),by dsimp only;omega,by dsimp only;omega,by dsimp only;rw [Tr.pre_succ ht3];omega⟩ (show E-(t+1)<E-t by omega) ?_
 show Wk _ _ (ofL []) (ofT 18 [(0,Zc xs),(1,iv ((t+1):Nat)),(4,iv 0),(5,iv (o+xs[t]-1))])
 exact Zk [] _
 have ht2:t=E:=by
  rcases Nat.lt_or_ge t E with h | h
  ·exfalso;have:=hP t ht0 h;omega
  omega
 refine Za<|oW<|og (dF hs1)<|jI<|jO<|jC<|Za<|oF (iv t)<|jE<|Zd results87 (.tmp rfl) ?_
 subst ht2
 exact rfl
theorem Zab (hs:shp xs=true) (lx:xs.length<=100) (hi:i<xs.length) (h2:xs[i]=2):Ctr Tryz.prog J 87 [Zc xs,iv ((i+1:Nat):Int)] (iv ((trun xs xs.length).se i)):=by
 obtain ⟨_,e,he,h3,h4,h5⟩:=(Tr.tree_kids hs hi).2 (by rw [Ct.getD_at hi];exact h2)
 have T:=(Zbz xs hs).1.snd i hi
 rw [he]
 refine end_c hs lx h4 h3 h5 ?_
 rcases T with h | ⟨j,hj,h,_⟩<;>omega
theorem nbRing_c {n i:Nat} (hi:i<n) (hn:n<=100) :Ctr Tryz.prog J 48 [iv 3,Zc sh,iv n,iv i] (.tup [iv (Jd.lkF 3 sh n i),iv (Jd.lkS 3 sh n i),iv (-1)]):=by
 refine Zn func48 rfl (pN (.v _)<|pN (Zx _)<|pN (.v _)<|pN (.v _) pZ) (n:=99) rfl (by simp)<|λw0 => kW 99 [] [(0,iv 3),(1,Zc sh),(2,iv n),(3,iv i)]<|jB<|oS (iv 0)<|oS (iv 0)<|oS (iv 0)<|jD<|jB<|oW<|oS (iv n)<|oU ((n:Int)-1)<|oK (Zo Kr<|Jd.in_w hi) [iv i,iv 0,iv ((n:Int)-1)] rfl rfl<|oS bF<|jF<|jM<|Za<|oS (iv 3)<|oC (ZH (r:=true) rfl<|by decide) I0 I0<|jG<|oS (iv i)<|oU ((i:Int)-1)<|oS (iv<|(i:Int)-1)<|jD<|Zi ?_
 by_cases hs1:(i:Int)=0
 refine Za<|oW<|oe (dT hs1)<|jH<|Za<|oS (iv n)<|oU ((n:Int)-1)<|oS (iv<|(n:Int)-1)<|jD<|tD<|dW<|dS (iv i)<|dC (WH (c:=((i+1:Nat):Int)) rfl<|w64 (by omega) (by omega)<|by omega) I0 I0<|dS (iv n)<|dC (ZdU (c:=(Jd.lkS 3 sh n i)) rfl (by omega)<|Jd.ringS hi) I0 I0<|dS (iv<|(n:Int)-1)<|dS (iv<|Jd.lkS 3 sh n i)<|dS (iv<|-1)<|eD<|Zf<|jN<|Kz results48 (.tmp rfl) (.tmp rfl) (.tmp rfl) ?_
 rw [show Jd.lkF 3 sh n i=(n:Int)-1 by unfold Jd.lkF rowL;rw [if_neg (by omega)];dsimp only;rw [if_pos ⟨rfl,hs1⟩]]
 exact rfl
 refine Za<|oW<|oe (dF hs1)<|jF<|Zi<|tD<|dW<|dS (iv i)<|dC (WH (c:=((i+1:Nat):Int)) rfl<|w64 (by omega) (by omega)<|by omega) I0 I0<|dS (iv n)<|dC (ZdU (c:=(Jd.lkS 3 sh n i)) rfl (by omega)<|Jd.ringS hi) I0 I0<|dS (iv<|(i:Int)-1)<|dS (iv<|Jd.lkS 3 sh n i)<|dS (iv<|-1)<|eD<|Zf<|jN<|Kz results48 (.tmp rfl) (.tmp rfl) (.tmp rfl) ?_
 rw [show Jd.lkF 3 sh n i=(i:Int)-1 by unfold Jd.lkF rowL;rw [if_neg (by omega)];dsimp only;rw [if_neg λh=>hs1 h.2]]
 exact rfl
theorem nbLine_c {n i:Nat} (hi:i<n) (hn:n<=100) :Ctr Tryz.prog J 48 [iv 2,Zc sh,iv n,iv i] (.tup [iv (Jd.lkF 2 sh n i),iv (Jd.lkS 2 sh n i),iv (-1)]):=by
 refine Zn func48 rfl (pN (.v _)<|pN (Zx _)<|pN (.v _)<|pN (.v _) pZ) (n:=99) rfl (by simp)<|λw0 => kW 99 [] [(0,iv 2),(1,Zc sh),(2,iv n),(3,iv i)]<|jB<|oS (iv 0)<|oS (iv 0)<|oS (iv 0)<|jD<|jB<|oW<|oS (iv n)<|oU ((n:Int)-1)<|oK (Zo Kr<|Jd.in_w hi) [iv i,iv 0,iv ((n:Int)-1)] rfl rfl<|oS bF<|jF<|jM<|Za<|oS (iv 2)<|oC (ZH (r:=false) rfl<|by decide) I0 I0<|jF<|jM<|Za<|oS (iv 2)<|oC (ZH (r:=true) rfl<|by decide) I0 I0<|jG<|oS (iv i)<|oU ((i:Int)-1)<|oS (iv i)<|oV ((i+1:Nat):Int)<|oS (iv<|(i:Int)-1)<|oS (iv (i+1:Nat))<|ZL<|jC<|Zi ?_
 by_cases hs1:((i+1:Nat):Int)=(n:Int)
 refine Za<|W2<|oe (dT hs1)<|jH<|Za<|oS (iv<|-1)<|jD<|Za<|W2<|oS (iv<|(i:Int)-1)<|oS (iv<|-1)<|oS (iv<|-1)<|jE<|Zb<|Kz results48 (.tmp rfl) (.tmp rfl) (.tmp rfl) ?_
 rw [show Jd.lkF 2 sh n i=(i:Int)-1 by unfold Jd.lkF rowL;rw [if_neg (by omega)];dsimp only;rw [if_neg (by omega)],show Jd.lkS 2 sh n i=(-1) by unfold Jd.lkS rowL;rw [if_neg (by omega)];dsimp only;rw [if_pos (by omega),if_neg (by omega)]]
 exact rfl
 refine Za<|W2<|oe (dF hs1)<|jF<|jB<|W2<|oS (iv<|(i:Int)-1)<|oS (iv (i+1:Nat))<|oS (iv<|-1)<|jE<|Zb<|Kz results48 (.tmp rfl) (.tmp rfl) (.tmp rfl) ?_
 rw [show Jd.lkF 2 sh n i=(i:Int)-1 by unfold Jd.lkF rowL;rw [if_neg (by omega)];dsimp only;rw [if_neg (by omega)],show Jd.lkS 2 sh n i=((i+1:Nat):Int) by unfold Jd.lkS rowL;rw [if_neg (by omega)];dsimp only;rw [if_neg (by omega)];omega]
 exact rfl
abbrev XJr1_h1 (x0:List Int) (x1:Nat) (x2:Nat):List (Nat × AV):=[(1,Zc x0),(3,iv x1),(8,iv 0),(9,iv 0),(10,iv 0),(14,iv (x1+1:Nat)),(15,iv ((trun x0 x0.length).se x1)),(16,iv x2),(17,iv (x2+1:Nat)),(73,bT),(94,bT)]
abbrev XJr1_h2 (x0:List Int) (x1:Nat) (x2:Nat):List (Nat × AV):=[(1,Zc x0),(3,iv x1),(8,iv 0),(9,iv 0),(10,iv 0),(14,iv (x1+1:Nat)),(15,iv ((trun x0 x0.length).se x1)),(17,iv (x2+1:Nat)),(73,bT),(94,bF)]
abbrev XJr1_h3 (x0:List Int) (x1:Nat) (x2:Nat):List (Nat × AV):=[(1,Zc x0),(3,iv x1),(8,iv 0),(9,iv 0),(10,iv 0),(14,iv (-1)),(15,iv (-1)),(16,iv x2),(17,iv (x2+1:Nat)),(73,bT),(94,bT)]
abbrev XJr1_h4 (x0:List Int) (x1:Nat) (x2:Nat):List (Nat × AV):=[(1,Zc x0),(3,iv x1),(8,iv 0),(9,iv 0),(10,iv 0),(14,iv (-1)),(15,iv (-1)),(17,iv (x2+1:Nat)),(73,bT),(94,bF)]
theorem nbTree_c (hI:InOk sh) (hs:shp sh=true) (lsh:sh.length<=100) (hi:i<sh.length):Ctr Tryz.prog J 48 [iv 4,Zc sh,iv sh.length,iv i] (.tup [iv (Jd.lkF 4 sh sh.length i),iv (Jd.lkS 4 sh sh.length i),.any]):=by
 refine Zn func48 rfl (pN (.v _)<|pN (Zx _)<|pN (.v _)<|pN (.v _) pZ) (n:=99) rfl (by simp)<|λw0 => kW 99 [] [(0,iv 4),(1,Zc sh),(2,iv sh.length),(3,iv i)]<|jB<|oS (iv 0)<|oS (iv 0)<|oS (iv 0)<|jD<|jB<|oW<|oS (iv sh.length)<|oU ((sh.length:Int)-1)<|oK (Zo Kr<|Jd.in_w hi) [iv i,iv 0,iv ((sh.length:Int)-1)] rfl rfl<|oS bF<|jF<|jM<|Za<|oS (iv 4)<|oC (ZH (r:=false) rfl<|by decide) I0 I0<|jF<|jM<|Za<|oS (iv 4)<|oC (ZH (r:=false) rfl<|by decide) I0 I0<|jF<|jM<|Za<|oS (iv 4)<|oC (Yg (r:=false) rfl<|by decide) I0 I0<|oS bF<|oF (iv sh.length) ?_
 refine oS (iv sh.length)<|gC (Yg rfl<|dT' rfl) I0 I0<|oF bF<|oW<|oK (Zo (Rd.IsShape_c hI lsh) hs) [Zc sh] rfl rfl<|oW<|oS bF<|jF<|jB<|oS (iv<|-1)<|oS (iv<|-1)<|oS (iv<|-1)<|jD<|Zi ?_
 by_cases hs1:sh[i]=2
 refine Za<|oS (Zc sh)<|oS (iv i)<|oC (xS (i*1) 60 61 U24) I0 I0<|oL (iv sh[i]) (Zr sh<|by omega)<|oe (dT hs1)<|jG<|oS (iv i)<|oV ((i+1:Nat):Int)<|oS (iv (i+1:Nat))<|jA<|Za<|oW<|oS (iv i)<|oV ((i+1:Nat):Int)<|oK (Zab hs lsh (by omega) hs1) [Zc sh,iv (i+1:Nat)] rfl rfl<|oS (iv<|(trun sh sh.length).se i)<|kN 99 [] [(1,Zc sh),(3,iv i),(8,iv 0),(9,iv 0),(10,iv 0),(14,iv (i+1:Nat)),(15,iv ((trun sh sh.length).se i)),(16,iv (-1))]<|Zf ?_
 refine jM<|Za<|oS (iv 0)<|kN 99 [] [(1,Zc sh),(3,iv i),(8,iv 0),(9,iv 0),(10,iv 0),(14,iv (i+1:Nat)),(15,iv ((trun sh sh.length).se i)),(16,iv (-1)),(17,iv 0)]<|Zf<|Zh<|Zw (σ:={k:Nat // k<=i}) (λs=>(ofL [],ofT 99 [(1,Zc sh),(3,iv i),(8,iv 0),(9,iv 0),(10,iv 0),(14,iv (i+1:Nat)),(15,iv ((trun sh sh.length).se i)),(17,iv s.1)])) (λs=>i-s.1) ⟨0,Nat.zero_le _⟩ (Zk [] _)<|λs => ?_
 obtain ⟨k,hk0⟩:=s
 show ETri J w0 (ofL []) (ofT 99 [(1,Zc sh),(3,iv i),(8,iv 0),(9,iv 0),(10,iv 0),(14,iv (i+1:Nat)),(15,iv ((trun sh sh.length).se i)),(17,iv k)]) _
 refine jM ?_
 by_cases hs2:(k:Int)<(i:Int)
 refine Za<|W2<|ol (dT hs2)<|jH<|Zj<|jC<|Zh<|Zi ?_
 by_cases hs3:sh[k]=2
 by_cases hs4:((k+1:Nat):Int)=(i:Int)
 exact Za<|oS (Zc sh)<|oS (iv k)<|oC (xS (k*1) 76 77 U24) I0 I0<|oL (iv sh[k]) (Zr sh<|by omega)<|oe (dT hs3)<|oS bT<|oS (iv k)<|oV ((k+1:Nat):Int)<|oW<|oe (dT hs4)<|oS bT<|V5<|qK<|oW<|oS bT<|jH<|Za<|oF (iv k)<|ZL<|Zs<|Zf<|Za<|oS (iv k)<|oV ((k+1:Nat):Int)<|oS (iv (k+1:Nat))<|kN 99 [] (XJr1_h1 sh i k)<|Zf<|Zp ⟨k+1,by omega⟩ (show i-(k+1)<i-k by omega)<|Zk [] _
 by_cases hs5:((trun sh sh.length).se k)=(i:Int)
 exact Za<|oS (Zc sh)<|oS (iv k)<|oC (xS (k*1) 76 77 U24) I0 I0<|oL (iv sh[k]) (Zr sh<|by omega)<|oe (dT hs3)<|oS bT<|oS (iv k)<|oV ((k+1:Nat):Int)<|oW<|oe (dF hs4)<|oS bF<|oW<|oS (iv k)<|oV ((k+1:Nat):Int)<|oK (Zab hs lsh (by omega) hs3) [Zc sh,iv (k+1:Nat)] rfl rfl<|oW<|oe (dT hs5)<|oW<|oS bT<|jH<|Za<|oF (iv k)<|ZL<|Zs<|Zf<|Za<|oS (iv k)<|oV ((k+1:Nat):Int)<|oS (iv (k+1:Nat))<|kN 99 [] (XJr1_h1 sh i k)<|Zf<|Zp ⟨k+1,by omega⟩ (show i-(k+1)<i-k by omega)<|Zk [] _
 exact Za<|oS (Zc sh)<|oS (iv k)<|oC (xS (k*1) 76 77 U24) I0 I0<|oL (iv sh[k]) (Zr sh<|by omega)<|oe (dT hs3)<|oS bT<|oS (iv k)<|oV ((k+1:Nat):Int)<|oW<|oe (dF hs4)<|oS bF<|oW<|oS (iv k)<|oV ((k+1:Nat):Int)<|oK (Zab hs lsh (by omega) hs3) [Zc sh,iv (k+1:Nat)] rfl rfl<|oW<|oe (dF hs5)<|oW<|oS bF<|jI<|Zj<|Zs<|Zf<|Za<|oS (iv k)<|oV ((k+1:Nat):Int)<|oS (iv (k+1:Nat))<|kN 99 [] (XJr1_h2 sh i k)<|Zf<|Zp ⟨k+1,by omega⟩ (show i-(k+1)<i-k by omega)<|Zk [] _
 exact Za<|oS (Zc sh)<|oS (iv k)<|oC (xS (k*1) 76 77 U24) I0 I0<|oL (iv sh[k]) (Zr sh<|by omega)<|oe (dF hs3)<|oS bF<|V5<|V5<|V2<|oS bF<|jI<|Zj<|Zs<|Zf<|Za<|oS (iv k)<|oV ((k+1:Nat):Int)<|oS (iv (k+1:Nat))<|kN 99 [] (XJr1_h2 sh i k)<|Zf<|Zp ⟨k+1,by omega⟩ (show i-(k+1)<i-k by omega)<|Zk [] _
 refine Za<|W2<|ol (dF hs2)<|jI<|jO<|jC<|Za<|W3<|oS (iv (i+1:Nat))<|oS (iv<|(trun sh sh.length).se i)<|oS .any<|jE<|Kz results48 (.tmp rfl) (.tmp rfl) (.tmp rfl) ?_
 rw [(Jd.t_2 hs hi hs1).1,(Jd.t_2 hs hi hs1).2]
 exact rfl
 refine Za<|oS (Zc sh)<|oS (iv i)<|oC (xS (i*1) 60 61 U24) I0 I0<|oL (iv sh[i]) (Zr sh<|by omega)<|oe (dF hs1)<|jF<|jM<|Za<|oS (iv 0)<|kN 99 [] [(1,Zc sh),(3,iv i),(8,iv 0),(9,iv 0),(10,iv 0),(14,iv (-1)),(15,iv (-1)),(16,iv (-1)),(17,iv 0)]<|Zf<|Zh<|Zw (σ:={k:Nat // k<=i}) (λs=>(ofL [],ofT 99 [(1,Zc sh),(3,iv i),(8,iv 0),(9,iv 0),(10,iv 0),(14,iv (-1)),(15,iv (-1)),(17,iv s.1)])) (λs=>i-s.1) ⟨0,Nat.zero_le _⟩ (Zk [] _)<|λs => ?_
 obtain ⟨k,hk0⟩:=s
 show ETri J w0 (ofL []) (ofT 99 [(1,Zc sh),(3,iv i),(8,iv 0),(9,iv 0),(10,iv 0),(14,iv (-1)),(15,iv (-1)),(17,iv k)]) _
 refine jM ?_
 by_cases hs6:(k:Int)<(i:Int)
 refine Za<|W2<|ol (dT hs6)<|jH<|Zj<|jC<|Zh<|Zi ?_
 by_cases hs7:sh[k]=2
 by_cases hs8:((k+1:Nat):Int)=(i:Int)
 exact Za<|oS (Zc sh)<|oS (iv k)<|oC (xS (k*1) 76 77 U24) I0 I0<|oL (iv sh[k]) (Zr sh<|by omega)<|oe (dT hs7)<|oS bT<|oS (iv k)<|oV ((k+1:Nat):Int)<|oW<|oe (dT hs8)<|oS bT<|V5<|qK<|oW<|oS bT<|jH<|Za<|oF (iv k)<|ZL<|Zs<|Zf<|Za<|oS (iv k)<|oV ((k+1:Nat):Int)<|oS (iv (k+1:Nat))<|kN 99 [] (XJr1_h3 sh i k)<|Zf<|Zp ⟨k+1,by omega⟩ (show i-(k+1)<i-k by omega)<|Zk [] _
 by_cases hs9:((trun sh sh.length).se k)=(i:Int)
 exact Za<|oS (Zc sh)<|oS (iv k)<|oC (xS (k*1) 76 77 U24) I0 I0<|oL (iv sh[k]) (Zr sh<|by omega)<|oe (dT hs7)<|oS bT<|oS (iv k)<|oV ((k+1:Nat):Int)<|oW<|oe (dF hs8)<|oS bF<|oW<|oS (iv k)<|oV ((k+1:Nat):Int)<|oK (Zab hs lsh (by omega) hs7) [Zc sh,iv (k+1:Nat)] rfl rfl<|oW<|oe (dT hs9)<|oW<|oS bT<|jH<|Za<|oF (iv k)<|ZL<|Zs<|Zf<|Za<|oS (iv k)<|oV ((k+1:Nat):Int)<|oS (iv (k+1:Nat))<|kN 99 [] (XJr1_h3 sh i k)<|Zf<|Zp ⟨k+1,by omega⟩ (show i-(k+1)<i-k by omega)<|Zk [] _
 exact Za<|oS (Zc sh)<|oS (iv k)<|oC (xS (k*1) 76 77 U24) I0 I0<|oL (iv sh[k]) (Zr sh<|by omega)<|oe (dT hs7)<|oS bT<|oS (iv k)<|oV ((k+1:Nat):Int)<|oW<|oe (dF hs8)<|oS bF<|oW<|oS (iv k)<|oV ((k+1:Nat):Int)<|oK (Zab hs lsh (by omega) hs7) [Zc sh,iv (k+1:Nat)] rfl rfl<|oW<|oe (dF hs9)<|oW<|oS bF<|jI<|Zj<|Zs<|Zf<|Za<|oS (iv k)<|oV ((k+1:Nat):Int)<|oS (iv (k+1:Nat))<|kN 99 [] (XJr1_h4 sh i k)<|Zf<|Zp ⟨k+1,by omega⟩ (show i-(k+1)<i-k by omega)<|Zk [] _
 exact Za<|oS (Zc sh)<|oS (iv k)<|oC (xS (k*1) 76 77 U24) I0 I0<|oL (iv sh[k]) (Zr sh<|by omega)<|oe (dF hs7)<|oS bF<|V5<|V5<|V2<|oS bF<|jI<|Zj<|Zs<|Zf<|Za<|oS (iv k)<|oV ((k+1:Nat):Int)<|oS (iv (k+1:Nat))<|kN 99 [] (XJr1_h4 sh i k)<|Zf<|Zp ⟨k+1,by omega⟩ (show i-(k+1)<i-k by omega)<|Zk [] _
 refine Za<|W2<|ol (dF hs6)<|jI<|jO<|jC<|Za<|W3<|oS (iv<|-1)<|oS (iv<|-1)<|oS .any<|jE<|Kz results48 (.tmp rfl) (.tmp rfl) (.tmp rfl) ?_
 rw [(Jd.t_0 hs hi hs1).1,(Jd.t_0 hs hi hs1).2]
 exact rfl
variable {top:Int}
theorem nb_c {n i:Nat} (hI:InOk sh) (lsh:sh.length<=100) (hn:n<=100) (hi:i<n) (h:top=2\/top=3\/(top=4/\isShp sh (n:Int)=true)):Ctr Tryz.prog J 48 [iv top,Zc sh,iv (n:Int),iv (i:Int)] (.tup [iv (Jd.lkF top sh n i),iv (Jd.lkS top sh n i),.any]):=by
 rcases h with rfl | rfl | ⟨rfl,h⟩
 ·exact λw vs hJ hl hv=>(nbLine_c hi hn w vs hJ hl hv).mono λe w' ⟨v,he,hp,hb⟩=>⟨v,he,pu_any3 hp,hb⟩
 ·exact λw vs hJ hl hv=>(nbRing_c hi hn w vs hJ hl hv).mono λe w' ⟨v,he,hp,hb⟩=>⟨v,he,pu_any3 hp,hb⟩
 unfold isShp at h
 simp only [Bool.and_eq_true,decide_eq_true_eq] at h
 obtain rfl:sh.length=n:=by omega
 exact nbTree_c hI h.2 lsh hi
theorem Jd.shp_sp (h:isShp xs n=true):(xs.length:Int)=n/\shp xs=true:=by
 unfold isShp at h
 simpa using h
abbrev Z5 (x0:Fm) (x1:Pq) (x2:List Int) (x3:List Int) (x4:List Int) (x5:List Int) (x6:List Int) (x7:Int):List (Nat × ABlk):=[(1,.box 27 (cFm x0)),(2,.box 30 (cPq x1)),(3,.box 36 (Rd.cCg (Ct.two x2 x3 x4 x5 x6 x7)))]
abbrev XJr2_h2 (x0:Nat) (x1:Fm) (x2:List Int) (x3:List Int) (x4:List Int):List (Nat × AV):=[(3,bx 1),(4,bx 2),(5,bx 3),(10,iv x0),(11,iv (Jd.lkF x1.top x2 (x3++x4).length x0)),(12,iv (Jd.lkS x1.top x2 (x3++x4).length x0)),(57,bT),(69,bF),(96,bF)]
abbrev XJr2_h3 (x0:Nat) (x1:Fm) (x2:List Int) (x3:List Int) (x4:List Int):List (Nat × AV):=[(3,bx 1),(4,bx 2),(5,bx 3),(10,iv x0),(11,iv (Jd.lkF x1.top x2 (x3++x4).length x0)),(12,iv (Jd.lkS x1.top x2 (x3++x4).length x0)),(57,bT),(69,bF),(96,bF),(115,bT)]
abbrev Za0 (x0:Nat) (x1:Fm) (x2:List Int) (x3:List Int) (x4:List Int):List (Nat × AV):=[(3,bx 1),(4,bx 2),(5,bx 3),(10,iv x0),(11,iv (Jd.lkF x1.top x2 (x3++x4).length x0)),(12,iv (Jd.lkS x1.top x2 (x3++x4).length x0)),(57,bT),(69,bF),(96,bF),(115,bF)]
abbrev ZaZ (x0:Nat) (x1:Fm) (x2:List Int) (x3:List Int) (x4:List Int):List (Nat × AV):=[(3,bx 1),(4,bx 2),(5,bx 3),(10,iv (x0+1:Nat)),(11,iv (Jd.lkF x1.top x2 (x3++x4).length x0)),(12,iv (Jd.lkS x1.top x2 (x3++x4).length x0)),(57,bT),(69,bF),(96,bF),(115,bF)]
variable {A B se fa:List Int}{val:Int}
set_option maxRecDepth 100000 in
set_option maxHeartbeats 6400000 in
theorem rbad_g (HQ:PqOk q) (HC:Rd.CgOk (Ct.two sh A B se fa val)) (H:¬ (q.adj.length:Int)=0->q.adj.length=2/\Jd.LkOk p.top sh (A++B).length/\(p.top=2\/p.top=3\/(p.top=4/\isShp sh (((A++B).length:Nat):Int)=true))):Ctr Tryz.prog J 23 [.agg (cFm p),.agg (cPq q),.agg (Rd.cCg<|Ct.two sh A B se fa val)] (bv<|Jd.alB A q.bad&&(decide ((q.adj.length:Int)=0)||Jd.adV p.top (Jd.adX q) (Jd.adY q) (A++B) (Jd.lkF p.top sh (A++B).length) (Jd.lkS p.top sh (A++B).length))):=by
 have hl0:(A++B).length<=100:=HC.lst
 have hl2:(A++B).length=A.length+B.length:=List.length_append
 have hqb:=HQ.lbad
 have hqa:=HQ.ladj
 refine Zn func23 rfl (pN (Zg<|Zy p)<|pN (Zg<|Yd q)<|pN (Zg<|Rd.plain_cg _) pZ) (n:=116) rfl (by simp)<|λw0 => kW 116 [] [(0,.agg (cFm p)),(1,.agg (cPq q)),(2,.agg (Rd.cCg<|Ct.two sh A B se fa val))]<|jB<|oX 1 (.agg (cFm p))<|oX 2 (.agg (cPq q))<|oX 3 (.agg (Rd.cCg<|Ct.two sh A B se fa val))<|oS bF<|jD<|jB<|oS (iv 0)<|kN 116 (Z5 p q sh A B se fa val) [(3,bx 1),(4,bx 2),(5,bx 3),(6,bF),(7,iv 0)]<|Zf<|Zh ?_
 refine Zw (σ:={k:Nat // k<=q.bad.length/\Jd.upB A q.bad k}) (λs=>(ofL (Z5 p q sh A B se fa val),ofT 116 [(3,bx 1),(4,bx 2),(5,bx 3),(7,iv s.1)])) (λs=>q.bad.length-s.1) ⟨0,Nat.zero_le _,Jd.upB_zero _ _⟩ (Zk _ _)<|λs => ?_
 obtain ⟨k,hk0,hs0⟩:=s
 show ETri J w0 (ofL<|Z5 p q sh A B se fa val) (ofT 116 [(3,bx 1),(4,bx 2),(5,bx 3),(7,iv k)]) _
 refine jM ?_
 by_cases hs1:(k:Int)<(q.bad.length:Int)
 have hk1:k<q.bad.length:=by omega
 refine Za<|W4<|ol (dT hs1)<|jH<|Zj<|jC<|Zh<|jB<|oS (iv 0)<|jD<|jB<|oS (iv 0)<|kN 116 (Z5 p q sh A B se fa val) [(3,bx 1),(4,bx 2),(5,bx 3),(7,iv k),(8,iv 0),(9,iv 0),(18,bT)]<|Zf<|Zh<|Zw (σ:={j:Nat // j<=A.length}) (λs=>(ofL (Z5 p q sh A B se fa val),ofT 116 [(3,bx 1),(4,bx 2),(5,bx 3),(7,iv k),(8,iv (Jd.cP (A.take s.1) q.bad[k].1:Nat)),(9,iv s.1),(18,bT)])) (λs=>A.length-s.1) ⟨0,Nat.zero_le _⟩ (Zk _ _)<|λs => ?_
 obtain ⟨j,hj0⟩:=s
 show ETri J w0 (ofL<|Z5 p q sh A B se fa val) (ofT 116 [(3,bx 1),(4,bx 2),(5,bx 3),(7,iv k),(8,iv (Jd.cP (A.take j) q.bad[k].1:Nat)),(9,iv j),(18,bT)]) _
 refine jM ?_
 by_cases hs2:(j:Int)<(A.length:Int)
 have hj1:j<A.length:=by omega
 have hcp:=Jd.cP_le A q.bad[k].1 j
 refine Za<|W3<|ol (dT hs2)<|jH<|Zj<|jC<|Zh<|Zi ?_
 by_cases hs3:(decide<|A[j]∈q.bad[k].1)=true
 refine tD<|dW<|dS (slA 2 cRw q.bad)<|dS (iv k)<|dC (xS (k*2) 28 29 U28) I0 I0<|dW<|dL (Zc q.bad[k].1) (fT lenRw q.bad k 0)<|dW<|dS (Zc<|A++B)<|dS (iv j)<|dC (xS (j*1) 34 35 U24) I0 I0<|dA (lE (iv A[j]) 36 U3<|Ct.app_at<|by omega) I0<|dk (Zo (ZaG q.bad[k].1 A[j] (HQ.bad _<|List.getElem_mem<|by omega).2.2) hs3) [Zc q.bad[k].1,iv A[j]] rfl rfl<|eD ?_
 refine kW 116 (Z5 p q sh A B se fa val) [(3,bx 1),(4,bx 2),(5,bx 3),(7,iv k),(8,iv (Jd.cP (A.take j) q.bad[k].1:Nat)),(9,iv j),(18,bT),(24,bT),(38,bT)]<|Zf<|ZM rfl<|Za<|oS (iv (Jd.cP (A.take j) q.bad[k].1:Nat))<|oV ((Jd.cP (A.take j) q.bad[k].1+1:Nat):Int)<|oS (iv (Jd.cP (A.take j) q.bad[k].1+1:Nat))<|ZL<|Zs<|Zf<|Za<|oS (iv j)<|oV ((j+1:Nat):Int)<|oS (iv (j+1:Nat))<|kN 116 (Z5 p q sh A B se fa val) [(3,bx 1),(4,bx 2),(5,bx 3),(7,iv k),(8,iv (Jd.cP (A.take j) q.bad[k].1+1:Nat)),(9,iv (j+1:Nat)),(18,bT),(24,bT),(38,bT)]<|Zf ?_
 refine Zp ⟨j+1,by omega⟩ (show A.length-(j+1)<A.length-j by omega) ?_
 show Wk _ _ (ofL [(1,.box 27 (cFm p)),(2,.box 30 (cPq q)),(3,.box 36 (Rd.cCg<|Ct.two sh A B se fa val))]) (ofT 116 [(3,bx 1),(4,bx 2),(5,bx 3),(7,iv k),(8,iv (Jd.cP (A.take<|j+1) q.bad[k].1:Nat)),(9,iv ((j+1):Nat)),(18,bT)])
 rw [Jd.cP_in (by omega) hs3]
 exact Zk _ _
 have hs3f:(decide<|A[j]∈q.bad[k].1)=false:=by simpa using hs3
 refine tD<|dW<|dS (slA 2 cRw q.bad)<|dS (iv k)<|dC (xS (k*2) 28 29 U28) I0 I0<|dW<|dL (Zc q.bad[k].1) (fT lenRw q.bad k 0)<|dW<|dS (Zc<|A++B)<|dS (iv j)<|dC (xS (j*1) 34 35 U24) I0 I0<|dA (lE (iv A[j]) 36 U3<|Ct.app_at<|by omega) I0<|dk (Zo (ZaG q.bad[k].1 A[j] (HQ.bad _<|List.getElem_mem<|by omega).2.2) hs3f) [Zc q.bad[k].1,iv A[j]] rfl rfl<|eD ?_
 refine kW 116 (Z5 p q sh A B se fa val) [(3,bx 1),(4,bx 2),(5,bx 3),(7,iv k),(8,iv (Jd.cP (A.take j) q.bad[k].1:Nat)),(9,iv j),(18,bT),(24,bT),(38,bF)]<|Zf<|Zu rfl<|Zj<|Zs<|Zf<|Za<|oS (iv j)<|oV ((j+1:Nat):Int)<|oS (iv (j+1:Nat))<|kN 116 (Z5 p q sh A B se fa val) [(3,bx 1),(4,bx 2),(5,bx 3),(7,iv k),(8,iv (Jd.cP (A.take j) q.bad[k].1:Nat)),(9,iv (j+1:Nat)),(18,bT),(24,bT),(38,bF)]<|Zf<|Zp ⟨j+1,by omega⟩ (show A.length-(j+1)<A.length-j by omega) ?_
 show Wk _ _ (ofL [(1,.box 27 (cFm p)),(2,.box 30 (cPq q)),(3,.box 36 (Rd.cCg<|Ct.two sh A B se fa val))]) (ofT 116 [(3,bx 1),(4,bx 2),(5,bx 3),(7,iv k),(8,iv (Jd.cP (A.take<|j+1) q.bad[k].1:Nat)),(9,iv ((j+1):Nat)),(18,bT)])
 rw [Jd.cP_out (by omega) hs3f]
 exact Zk _ _
 refine Za<|W3<|ol (dF hs2)<|kN 116 [(1,.box 27 (cFm p)),(2,.box 30 (cPq q)),(3,.box 36 (Rd.cCg<|Ct.two sh A B se fa val))] [(3,bx 1),(4,bx 2),(5,bx 3),(7,iv k),(8,iv (Jd.cP (A.take j) q.bad[k].1:Nat)),(9,iv j),(18,bT),(24,bF)]<|Zf<|Zu rfl<|jO<|jC<|kW 116 [(1,.box 27 (cFm p)),(2,.box 30 (cPq q)),(3,.box 36 (Rd.cCg<|Ct.two sh A B se fa val))] [(3,bx 1),(4,bx 2),(5,bx 3),(7,iv k),(8,iv (Jd.cP (A.take j) q.bad[k].1:Nat)),(9,iv j),(18,bT),(24,bF)] ?_
 have hj2:j=A.length:=by omega
 rw [show A.take j=A by rw [hj2,List.take_length]]
 by_cases hs4:((Jd.cP A q.bad[k].1:Nat):Int)<q.bad[k].2
 refine Za<|oW<|oF (slA 2 cRw q.bad)<|oS (iv k)<|oC (xS (k*2) 43 44 U28) I0 I0<|oW<|oL (iv q.bad[k].2) (fT lenRw q.bad k 1)<|ol (dT hs4)<|jG<|oS bF<|jE<|Ze<|Zb<|Zb<|Ze<|Zb<|Zd results23 (.tmp rfl) ?_
 exact cB<|(by rw [Jd.alB_no (by omega) hs4];rfl)
 exact Za<|oW<|oF (slA 2 cRw q.bad)<|oS (iv k)<|oC (xS (k*2) 43 44 U28) I0 I0<|oW<|oL (iv q.bad[k].2) (fT lenRw q.bad k 1)<|ol (dF hs4)<|jI<|Zj<|Zs<|Zf<|Za<|oS (iv k)<|oV ((k+1:Nat):Int)<|oS (iv (k+1:Nat))<|kN 116 (Z5 p q sh A B se fa val) [(3,bx 1),(4,bx 2),(5,bx 3),(7,iv (k+1:Nat)),(8,iv (Jd.cP A q.bad[k].1:Nat)),(9,iv j),(18,bT),(24,bF),(48,bF)]<|Zf<|Zp ⟨k+1,by omega,Jd.upB_succ (by omega) hs0 hs4⟩ (show q.bad.length-(k+1)<q.bad.length-k by omega)<|Zk _ _
 refine Za<|W4<|ol (dF hs1)<|jI<|jO<|jC<|Zi ?_
 by_cases hs5:(q.adj.length:Int)=0
 refine Za<|W3<|oe (dT hs5)<|jG<|oS bT<|jE<|Zb<|Zd results23 (.tmp rfl) ?_
 exact cB<|(by rw [Jd.alB_yes (by omega) hs0,decide_eq_true hs5];rfl)
 obtain ⟨h2a,hLk,htop⟩:=H hs5
 refine Za<|W3<|oe (dF hs5)<|jF<|jM<|Za<|oS (iv 0)<|kN 116 (Z5 p q sh A B se fa val) [(3,bx 1),(4,bx 2),(5,bx 3),(10,iv 0)]<|Zf<|Zh<|Zw (σ:={i:Nat // i<=(A++B).length/\Jd.noN p.top (Jd.adX q) (Jd.adY q) (A++B) (Jd.lkF p.top sh (A++B).length) (Jd.lkS p.top sh (A++B).length) i}) (λs=>(ofL (Z5 p q sh A B se fa val),ofT 116 [(3,bx 1),(4,bx 2),(5,bx 3),(10,iv s.1)])) (λs=>(A++B).length-s.1) ⟨0,Nat.zero_le _,Jd.noN_zero⟩ (Zk _ _)<|λs => ?_
 obtain ⟨i,hi0,hs3⟩:=s
 show ETri J w0 (ofL<|Z5 p q sh A B se fa val) (ofT 116 [(3,bx 1),(4,bx 2),(5,bx 3),(10,iv i)]) _
 refine jM ?_
 by_cases hs6:(i:Int)<(((A++B).length:Nat):Int)
 have hi1:i<(A++B).length:=by omega
 obtain ⟨hF1,hS1⟩:=hLk i hi1
 refine Za<|W4<|ol (dT hs6)<|jH<|Zj<|jC<|Zh<|jM ?_
 by_cases hs7:(A++B)[i]=q.adj[0]
 refine tD<|dW<|dS (Zc<|A++B)<|dS (iv i)<|dC (xS (i*1) 61 62 U24) I0 I0<|dL (iv<|(A++B)[i]) (Zr (A++B)<|by omega)<|dW<|dS (Zc q.adj)<|dC (ZZ (off:=0*1) (.tmp 66) (.const (.int .i64 0)) rfl U24 (by kernel_rfl) (by omega) (by omega) rfl) I0 I0<|dL (iv q.adj[0]) (Zr q.adj<|by omega)<|dn (dT' hs7)<|eD ?_
 refine kW 116 (Z5 p q sh A B se fa val) [(3,bx 1),(4,bx 2),(5,bx 3),(10,iv i),(57,bT),(69,bF)]<|jJ<|jB<|W4<|W4<|oK (nb_c (top:=p.top) (sh:=sh) (n:=(A++B).length) (i:=i) HC.sh HC.lsh hl0 (by omega) htop) [iv p.top,Zc sh,iv ((A++B).length:Nat),iv i] rfl rfl<|oS (.tup [iv (Jd.lkF p.top sh (A++B).length i),iv (Jd.lkS p.top sh (A++B).length i),.fr (.any)])<|W3<|oS (iv<|Jd.lkF p.top sh (A++B).length i)<|oS (iv<|Jd.lkS p.top sh (A++B).length i)<|oS (.fr (.any))<|ZL<|jC<|Zi ?_
 by_cases hs8:0<=(Jd.lkS p.top sh (A++B).length i)
 by_cases hs9:(A++B)[(Jd.lkS p.top sh (A++B).length i).toNat]=q.adj[1]
 refine tD<|dW<|dh (dT hs8)<|dS bT<|dW<|dS (Zc<|A++B)<|dS (iv<|Jd.lkS p.top sh (A++B).length i)<|dC (xS (((Jd.lkS p.top sh (A++B).length i).toNat)*1) 87 88 U24) I0 I0<|dL (iv<|(A++B)[(Jd.lkS p.top sh (A++B).length i).toNat]) (Zr (A++B)<|by omega)<|dW<|dS (Zc q.adj)<|dC (ZZ (off:=1*1) (.tmp 92) (.const (.int .i64 1)) rfl U24 (by kernel_rfl) (by omega) (by omega) rfl) I0 I0<|dL (iv q.adj[1]) (Zr q.adj<|by omega)<|de (dT hs9)<|dS bT<|eD ?_
 refine kW 116 (Z5 p q sh A B se fa val) [(3,bx 1),(4,bx 2),(5,bx 3),(10,iv i),(11,iv (Jd.lkF p.top sh (A++B).length i)),(12,iv (Jd.lkS p.top sh (A++B).length i)),(57,bT),(69,bF),(96,bT)]<|Zf<|jK<|oS bT<|jE<|Zb<|Ze<|Zb<|Zb<|Ze<|Zb<|Zd results23 (.tmp rfl) ?_
 exact cB<|(by rw [Jd.alB_yes (by omega) hs0,Jd.adV_hit hi1 (by unfold Jd.nxB Jd.sec Jd.adX Jd.adY;rw [Ct.getD_at (L:=A++B) (i:=i) (by omega),Ct.getD_at (L:=q.adj) (i:=0) (by omega),Ct.getD_at (L:=q.adj) (i:=1) (by omega),Ct.getD_at (L:=A++B) (i:=(Jd.lkS p.top sh (A++B).length i).toNat) (by omega)];simp only [dT hs7,dT hs8,dT hs9,decide_true,decide_false,Bool.and_true,Bool.true_and,Bool.false_and,Bool.and_false,Bool.true_or,Bool.false_or,Bool.or_true,Bool.or_false,Bool.not_true,Bool.not_false])];simp)
 refine tD<|dW<|dh (dT hs8)<|dS bT<|dW<|dS (Zc<|A++B)<|dS (iv<|Jd.lkS p.top sh (A++B).length i)<|dC (xS (((Jd.lkS p.top sh (A++B).length i).toNat)*1) 87 88 U24) I0 I0<|dL (iv<|(A++B)[(Jd.lkS p.top sh (A++B).length i).toNat]) (Zr (A++B)<|by omega)<|dW<|dS (Zc q.adj)<|dC (ZZ (off:=1*1) (.tmp 92) (.const (.int .i64 1)) rfl U24 (by kernel_rfl) (by omega) (by omega) rfl) I0 I0<|dL (iv q.adj[1]) (Zr q.adj<|by omega)<|de (dF hs9)<|dS bF<|eD<|kW 116 (Z5 p q sh A B se fa val) (XJr2_h2 i p sh A B)<|jJ<|Zi ?_
 by_cases hs10:p.top=4
 by_cases hs11:0<=(Jd.lkF p.top sh (A++B).length i)
 by_cases hs12:(A++B)[(Jd.lkF p.top sh (A++B).length i).toNat]=q.adj[1]
 refine tD<|dW<|dW<|de (dT hs10)<|dS bT<|dW<|dh (dT hs11)<|dW<|dS bT<|dW<|dS (Zc<|A++B)<|dS (iv<|Jd.lkF p.top sh (A++B).length i)<|dC (xS (((Jd.lkF p.top sh (A++B).length i).toNat)*1) 106 107 U24) I0 I0<|dL (iv<|(A++B)[(Jd.lkF p.top sh (A++B).length i).toNat]) (Zr (A++B)<|by omega)<|dW<|dS (Zc q.adj)<|dC (ZZ (off:=1*1) (.tmp 111) (.const (.int .i64 1)) rfl U24 (by kernel_rfl) (by omega) (by omega) rfl) I0 I0<|dL (iv q.adj[1]) (Zr q.adj<|by omega)<|de (dT hs12)<|dS bT<|eD<|kW 116 (Z5 p q sh A B se fa val) (XJr2_h3 i p sh A B)<|Zf<|jK<|oS bT<|jE<|Ze<|Zb<|Zb<|Ze<|Zb ?_
 refine Zd results23 (.tmp rfl) ?_
 exact cB<|(by rw [Jd.alB_yes (by omega) hs0,Jd.adV_hit hi1 (by unfold Jd.nxB Jd.sec Jd.adX Jd.adY;rw [Ct.getD_at (L:=A++B) (i:=i) (by omega),Ct.getD_at (L:=q.adj) (i:=0) (by omega),Ct.getD_at (L:=q.adj) (i:=1) (by omega),Ct.getD_at (L:=A++B) (i:=(Jd.lkS p.top sh (A++B).length i).toNat) (by omega),Ct.getD_at (L:=A++B) (i:=(Jd.lkF p.top sh (A++B).length i).toNat) (by omega)];simp only [dT hs7,dT hs8,dF hs9,dT hs10,dT hs11,dT hs12,decide_true,decide_false,Bool.and_true,Bool.true_and,Bool.false_and,Bool.and_false,Bool.true_or,Bool.false_or,Bool.or_true,Bool.or_false,Bool.not_true,Bool.not_false])];simp)
 refine tD<|dW<|dW<|de (dT hs10)<|dS bT<|dW<|dh (dT hs11)<|dW<|dS bT<|dW<|dS (Zc<|A++B)<|dS (iv<|Jd.lkF p.top sh (A++B).length i)<|dC (xS (((Jd.lkF p.top sh (A++B).length i).toNat)*1) 106 107 U24) I0 I0<|dL (iv<|(A++B)[(Jd.lkF p.top sh (A++B).length i).toNat]) (Zr (A++B)<|by omega)<|dW<|dS (Zc q.adj)<|dC (ZZ (off:=1*1) (.tmp 111) (.const (.int .i64 1)) rfl U24 (by kernel_rfl) (by omega) (by omega) rfl) I0 I0<|dL (iv q.adj[1]) (Zr q.adj<|by omega)<|de (dF hs12)<|dS bF<|eD ?_
 refine kW 116 (Z5 p q sh A B se fa val) (Za0 i p sh A B)<|Zf<|Zu rfl<|Zj<|Zs<|Zf<|Za<|oS (iv i)<|oV ((i+1:Nat):Int)<|oS (iv (i+1:Nat))<|kN 116 (Z5 p q sh A B se fa val) (ZaZ i p sh A B)<|Zf ?_
 refine Zp ⟨i+1,by omega,Jd.noN_succ hs3 (by unfold Jd.nxB Jd.sec Jd.adX Jd.adY;rw [Ct.getD_at (L:=A++B) (i:=i) (by omega),Ct.getD_at (L:=q.adj) (i:=0) (by omega),Ct.getD_at (L:=q.adj) (i:=1) (by omega),Ct.getD_at (L:=A++B) (i:=(Jd.lkS p.top sh (A++B).length i).toNat) (by omega),Ct.getD_at (L:=A++B) (i:=(Jd.lkF p.top sh (A++B).length i).toNat) (by omega)];simp only [dT hs7,dT hs8,dF hs9,dT hs10,dT hs11,dF hs12,decide_true,decide_false,Bool.and_true,Bool.true_and,Bool.false_and,Bool.and_false,Bool.true_or,Bool.false_or,Bool.or_true,Bool.or_false,Bool.not_true,Bool.not_false])⟩ (show (A++B).length-(i+1)<(A++B).length-i by omega) ?_
 exact Zk _ _
 refine tD<|dW<|dW<|de (dT hs10)<|dS bT<|dW<|dh (dF hs11)<|dW<|dS bF<|dK<|dK<|dK<|dK<|dK<|dK<|dK<|dK<|dK<|dK<|dS bF<|eD<|kW 116 (Z5 p q sh A B se fa val) (Za0 i p sh A B)<|Zf<|Zu rfl<|Zj<|Zs<|Zf<|Za<|oS (iv i)<|oV ((i+1:Nat):Int)<|oS (iv (i+1:Nat))<|kN 116 (Z5 p q sh A B se fa val) (ZaZ i p sh A B)<|Zf ?_
 refine Zp ⟨i+1,by omega,Jd.noN_succ hs3 (by unfold Jd.nxB Jd.sec Jd.adX Jd.adY;rw [Ct.getD_at (L:=A++B) (i:=i) (by omega),Ct.getD_at (L:=q.adj) (i:=0) (by omega),Ct.getD_at (L:=q.adj) (i:=1) (by omega),Ct.getD_at (L:=A++B) (i:=(Jd.lkS p.top sh (A++B).length i).toNat) (by omega)];simp only [dT hs7,dT hs8,dF hs9,dT hs10,dF hs11,decide_true,decide_false,Bool.and_true,Bool.true_and,Bool.false_and,Bool.and_false,Bool.true_or,Bool.false_or,Bool.or_true,Bool.or_false,Bool.not_true,Bool.not_false])⟩ (show (A++B).length-(i+1)<(A++B).length-i by omega) ?_
 exact Zk _ _
 refine tD<|dW<|dW<|de (dF hs10)<|dS bF<|dK<|dK<|dW<|dS bF<|dK<|dK<|dK<|dK<|dK<|dK<|dK<|dK<|dK<|dK<|dS bF<|eD<|kW 116 (Z5 p q sh A B se fa val) (Za0 i p sh A B)<|Zf<|Zu rfl<|Zj<|Zs<|Zf<|Za<|oS (iv i)<|oV ((i+1:Nat):Int)<|oS (iv (i+1:Nat))<|kN 116 (Z5 p q sh A B se fa val) (ZaZ i p sh A B)<|Zf ?_
 refine Zp ⟨i+1,by omega,Jd.noN_succ hs3 (by unfold Jd.nxB Jd.sec Jd.adX Jd.adY;rw [Ct.getD_at (L:=A++B) (i:=i) (by omega),Ct.getD_at (L:=q.adj) (i:=0) (by omega),Ct.getD_at (L:=q.adj) (i:=1) (by omega),Ct.getD_at (L:=A++B) (i:=(Jd.lkS p.top sh (A++B).length i).toNat) (by omega)];simp only [dT hs7,dT hs8,dF hs9,dF hs10,decide_true,decide_false,Bool.and_true,Bool.true_and,Bool.false_and,Bool.and_false,Bool.true_or,Bool.false_or,Bool.or_true,Bool.or_false,Bool.not_true,Bool.not_false])⟩ (show (A++B).length-(i+1)<(A++B).length-i by omega) ?_
 exact Zk _ _
 refine tD<|dW<|dh (dF hs8)<|dS bF<|dK<|dK<|dK<|dK<|dK<|dK<|dK<|dK<|dK<|dK<|dS bF<|eD<|kW 116 (Z5 p q sh A B se fa val) (XJr2_h2 i p sh A B)<|jJ<|Zi ?_
 by_cases hs13:p.top=4
 by_cases hs14:0<=(Jd.lkF p.top sh (A++B).length i)
 by_cases hs15:(A++B)[(Jd.lkF p.top sh (A++B).length i).toNat]=q.adj[1]
 refine tD<|dW<|dW<|de (dT hs13)<|dS bT<|dW<|dh (dT hs14)<|dW<|dS bT<|dW<|dS (Zc<|A++B)<|dS (iv<|Jd.lkF p.top sh (A++B).length i)<|dC (xS (((Jd.lkF p.top sh (A++B).length i).toNat)*1) 106 107 U24) I0 I0<|dL (iv<|(A++B)[(Jd.lkF p.top sh (A++B).length i).toNat]) (Zr (A++B)<|by omega)<|dW<|dS (Zc q.adj)<|dC (ZZ (off:=1*1) (.tmp 111) (.const (.int .i64 1)) rfl U24 (by kernel_rfl) (by omega) (by omega) rfl) I0 I0<|dL (iv q.adj[1]) (Zr q.adj<|by omega)<|de (dT hs15)<|dS bT<|eD<|kW 116 (Z5 p q sh A B se fa val) (XJr2_h3 i p sh A B)<|Zf<|jK<|oS bT<|jE<|Ze<|Zb<|Zb<|Ze<|Zb ?_
 refine Zd results23 (.tmp rfl) ?_
 exact cB<|(by rw [Jd.alB_yes (by omega) hs0,Jd.adV_hit hi1 (by unfold Jd.nxB Jd.sec Jd.adX Jd.adY;rw [Ct.getD_at (L:=A++B) (i:=i) (by omega),Ct.getD_at (L:=q.adj) (i:=0) (by omega),Ct.getD_at (L:=q.adj) (i:=1) (by omega),Ct.getD_at (L:=A++B) (i:=(Jd.lkF p.top sh (A++B).length i).toNat) (by omega)];simp only [dT hs7,dF hs8,dT hs13,dT hs14,dT hs15,decide_true,decide_false,Bool.and_true,Bool.true_and,Bool.false_and,Bool.and_false,Bool.true_or,Bool.false_or,Bool.or_true,Bool.or_false,Bool.not_true,Bool.not_false])];simp)
 refine tD<|dW<|dW<|de (dT hs13)<|dS bT<|dW<|dh (dT hs14)<|dW<|dS bT<|dW<|dS (Zc<|A++B)<|dS (iv<|Jd.lkF p.top sh (A++B).length i)<|dC (xS (((Jd.lkF p.top sh (A++B).length i).toNat)*1) 106 107 U24) I0 I0<|dL (iv<|(A++B)[(Jd.lkF p.top sh (A++B).length i).toNat]) (Zr (A++B)<|by omega)<|dW<|dS (Zc q.adj)<|dC (ZZ (off:=1*1) (.tmp 111) (.const (.int .i64 1)) rfl U24 (by kernel_rfl) (by omega) (by omega) rfl) I0 I0<|dL (iv q.adj[1]) (Zr q.adj<|by omega)<|de (dF hs15)<|dS bF<|eD ?_
 refine kW 116 (Z5 p q sh A B se fa val) (Za0 i p sh A B)<|Zf<|Zu rfl<|Zj<|Zs<|Zf<|Za<|oS (iv i)<|oV ((i+1:Nat):Int)<|oS (iv (i+1:Nat))<|kN 116 (Z5 p q sh A B se fa val) (ZaZ i p sh A B)<|Zf ?_
 refine Zp ⟨i+1,by omega,Jd.noN_succ hs3 (by unfold Jd.nxB Jd.sec Jd.adX Jd.adY;rw [Ct.getD_at (L:=A++B) (i:=i) (by omega),Ct.getD_at (L:=q.adj) (i:=0) (by omega),Ct.getD_at (L:=q.adj) (i:=1) (by omega),Ct.getD_at (L:=A++B) (i:=(Jd.lkF p.top sh (A++B).length i).toNat) (by omega)];simp only [dT hs7,dF hs8,dT hs13,dT hs14,dF hs15,decide_true,decide_false,Bool.and_true,Bool.true_and,Bool.false_and,Bool.and_false,Bool.true_or,Bool.false_or,Bool.or_true,Bool.or_false,Bool.not_true,Bool.not_false])⟩ (show (A++B).length-(i+1)<(A++B).length-i by omega) ?_
 exact Zk _ _
 refine tD<|dW<|dW<|de (dT hs13)<|dS bT<|dW<|dh (dF hs14)<|dW<|dS bF<|dK<|dK<|dK<|dK<|dK<|dK<|dK<|dK<|dK<|dK<|dS bF<|eD<|kW 116 (Z5 p q sh A B se fa val) (Za0 i p sh A B)<|Zf<|Zu rfl<|Zj<|Zs<|Zf<|Za<|oS (iv i)<|oV ((i+1:Nat):Int)<|oS (iv (i+1:Nat))<|kN 116 (Z5 p q sh A B se fa val) (ZaZ i p sh A B)<|Zf ?_
 refine Zp ⟨i+1,by omega,Jd.noN_succ hs3 (by unfold Jd.nxB Jd.sec Jd.adX Jd.adY;rw [Ct.getD_at (L:=A++B) (i:=i) (by omega),Ct.getD_at (L:=q.adj) (i:=0) (by omega),Ct.getD_at (L:=q.adj) (i:=1) (by omega)];simp only [dT hs7,dF hs8,dT hs13,dF hs14,decide_true,decide_false,Bool.and_true,Bool.true_and,Bool.false_and,Bool.and_false,Bool.true_or,Bool.false_or,Bool.or_true,Bool.or_false,Bool.not_true,Bool.not_false])⟩ (show (A++B).length-(i+1)<(A++B).length-i by omega) ?_
 exact Zk _ _
 refine tD<|dW<|dW<|de (dF hs13)<|dS bF<|dK<|dK<|dW<|dS bF<|dK<|dK<|dK<|dK<|dK<|dK<|dK<|dK<|dK<|dK<|dS bF<|eD<|kW 116 (Z5 p q sh A B se fa val) (Za0 i p sh A B)<|Zf<|Zu rfl<|Zj<|Zs<|Zf<|Za<|oS (iv i)<|oV ((i+1:Nat):Int)<|oS (iv (i+1:Nat))<|kN 116 (Z5 p q sh A B se fa val) (ZaZ i p sh A B)<|Zf ?_
 refine Zp ⟨i+1,by omega,Jd.noN_succ hs3 (by unfold Jd.nxB Jd.sec Jd.adX Jd.adY;rw [Ct.getD_at (L:=A++B) (i:=i) (by omega),Ct.getD_at (L:=q.adj) (i:=0) (by omega),Ct.getD_at (L:=q.adj) (i:=1) (by omega)];simp only [dT hs7,dF hs8,dF hs13,decide_true,decide_false,Bool.and_true,Bool.true_and,Bool.false_and,Bool.and_false,Bool.true_or,Bool.false_or,Bool.or_true,Bool.or_false,Bool.not_true,Bool.not_false])⟩ (show (A++B).length-(i+1)<(A++B).length-i by omega) ?_
 exact Zk _ _
 refine tD<|dW<|dS (Zc<|A++B)<|dS (iv i)<|dC (xS (i*1) 61 62 U24) I0 I0<|dL (iv<|(A++B)[i]) (Zr (A++B)<|by omega)<|dW<|dS (Zc q.adj)<|dC (ZZ (off:=0*1) (.tmp 66) (.const (.int .i64 0)) rfl U24 (by kernel_rfl) (by omega) (by omega) rfl) I0 I0<|dL (iv q.adj[0]) (Zr q.adj<|by omega)<|dn (dF' hs7)<|eD<|kW 116 (Z5 p q sh A B se fa val) [(3,bx 1),(4,bx 2),(5,bx 3),(10,iv i),(57,bT),(69,bT)]<|Zf<|ZM rfl<|KR<|ZS<|ZdP<|Zf<|Za<|oS (iv i)<|oV ((i+1:Nat):Int)<|oS (iv (i+1:Nat))<|kN 116 (Z5 p q sh A B se fa val) [(3,bx 1),(4,bx 2),(5,bx 3),(10,iv (i+1:Nat)),(57,bT),(69,bT)]<|Zf ?_
 refine Zp ⟨i+1,by omega,Jd.noN_succ hs3 (by unfold Jd.nxB Jd.sec Jd.adX Jd.adY;rw [Ct.getD_at (L:=A++B) (i:=i) (by omega),Ct.getD_at (L:=q.adj) (i:=0) (by omega),Ct.getD_at (L:=q.adj) (i:=1) (by omega)];simp only [dF hs7,decide_true,decide_false,Bool.and_true,Bool.true_and,Bool.false_and,Bool.and_false,Bool.true_or,Bool.false_or,Bool.or_true,Bool.or_false,Bool.not_true,Bool.not_false])⟩ (show (A++B).length-(i+1)<(A++B).length-i by omega) ?_
 exact Zk _ _
 refine Za<|W4<|ol (dF hs6)<|jI<|jO<|jC<|Za<|oS bF<|jE<|Zd results23 (.tmp rfl) ?_
 exact cB<|(by rw [Jd.alB_yes (by omega) hs0,decide_eq_false hs5,Jd.adV_none (by omega) hs3];rfl)
theorem rbad_no (HQ:PqOk q) (HC:Rd.CgOk (Ct.two sh A B se fa val)) (hadj:(q.adj.length:Int)=0):Ctr Tryz.prog J 23 [.agg (cFm p),.agg (cPq q),.agg (Rd.cCg (Ct.two sh A B se fa val))] (bv (Jd.alB A q.bad&&(decide ((q.adj.length:Int)=0)||Jd.adV p.top (Jd.adX q) (Jd.adY q) (A++B) (Jd.lkF p.top sh (A++B).length) (Jd.lkS p.top sh (A++B).length)))):=rbad_g HQ HC λh=>absurd hadj h
theorem rbad_ad (HQ:PqOk q) (HC:Rd.CgOk (Ct.two sh A B se fa val)) (_:¬ (q.adj.length:Int)=0) (h2a:q.adj.length=2) (hLk:Jd.LkOk p.top sh (A++B).length) (htop:p.top=2\/p.top=3\/(p.top=4/\isShp sh (((A++B).length:Nat):Int)=true)):Ctr Tryz.prog J 23 [.agg (cFm p),.agg (cPq q),.agg (Rd.cCg (Ct.two sh A B se fa val))] (bv (Jd.alB A q.bad&&(decide ((q.adj.length:Int)=0)||Jd.adV p.top (Jd.adX q) (Jd.adY q) (A++B) (Jd.lkF p.top sh (A++B).length) (Jd.lkS p.top sh (A++B).length)))):=rbad_g HQ HC λ_=>⟨h2a,hLk,htop⟩
theorem Vi.sp_ok (h:Vi.spE p q n t f=0):vpE p q=0/\Ns.sysE p n t f=0:=by
 unfold Vi.spE at h
 split at h
 ·rename_i h1;exact ⟨h1,h⟩
 rename_i h1;exact absurd h h1
theorem Vi.sp_no {ss:List Rp.Sp} (h:¬ Vi.spE p q n t f=0):Vi.viB p q n t f c ss=false:=by
 by_cases h1:vpE p q=0
 ·exact Vi.vi_sys λe=>h (by unfold Vi.spE;rw [if_pos h1];exact e)
 exact Vi.vi_vp h1
theorem rbadV (HQ:PqOk q) (HC:Rd.CgOk c) (hai:1<=n/\n<=1048576/\0<=f/\f<=n) (hv:En.CfV p n f c) (hvp:vpE p q=0) (hkd:q.kind=1):Ctr Tryz.prog J 23 [.agg (cFm p),.agg (cPq q),.agg (Rd.cCg c)] (bv (Jd.bdV p q c)):=by
 have hok:=Vi.v_ok hai hv
 have hpr:=Jd.prE_o hvp hkd
 obtain ⟨sh,A,B,se,fa,val,rfl⟩:=Ct.pl_two (Jd.ok_pl hok)
 rw [Jd.bdV_two]
 by_cases hadj:(q.adj.length:Int)=0
 ·exact rbad_no HQ HC hadj
 have h:=Jd.adj_in hpr hadj
 have htop:=Jd.top_in (Jd.vp_val hvp)
 by_cases h4:p.top=4
 ·have hs:=Jd.shpY hok h4
  refine rbad_ad HQ HC hadj h.2 ?_ (.inr (.inr ⟨h4,hs⟩))
  obtain ⟨h5,h6⟩:=Jd.shp_sp hs
  have h7:sh.length=(A++B).length:=by
   have:(sh.length:Int)=(((A++B).length:Nat):Int):=h5
   omega
  rw [h4,<- h7]
  exact Jd.lk_tree h6
 have h1:=h.1
 exact rbad_ad HQ HC hadj h.2 (Jd.lk_row (by omega)) (by omega)
theorem sec_c (hx:xs.length<=100) (hl:2<=l.length) (hl2:l.length<=100) {j:Int} (hj:j<xs.length):Ctr Tryz.prog J 106 [iv j,.el ([Zc xs]) 0,.el ([Zc l]) 0] (bv<|Jd.sec xs (l.getD 1 0) j):=by
 refine Zn func106 rfl (pN (.v _)<|pN (.el (ZE<|by intro X hX;rw [List.mem_singleton.1 hX];exact Zx _))<|pN (.el (ZE<|by intro X hX;rw [List.mem_singleton.1 hX];exact Zx _)) pZ) (n:=17) rfl (by simp)<|λw0 => ?_
 refine kW 17 [] [(0,iv j),(1,.el ([Zc xs]) 0),(2,.el ([Zc l]) 0)]<|jB<|oS bF<|jD ?_
 by_cases hs1:0<=j
 refine tD<|dW<|dh (dT hs1)<|dS bT<|dS (Zc xs)<|dS (iv j)<|dC (xS (j.toNat*1) 8 9 U24) I0 I0<|dL (iv xs[j.toNat]) (Zr xs<|by omega)<|dS (Zc l)<|dC (ZZ (off:=1*1) (.tmp 12) (.const (.int .i64 1)) rfl U24 (by kernel_rfl) (by omega) (by omega) rfl) I0 I0<|dL (iv l[1]) (Zr l<|by omega)<|dC (ZH rfl rfl) I0 I0<|dW<|dS (bv<|decide<|xs[j.toNat]=l[1])<|eD<|Zf<|ZQ<|Zd results106 (.tmp rfl) ?_
 exact cB<|(by unfold Jd.sec;rw [decide_eq_true hs1,Bool.true_and,Ct.getD_at (L:=xs) (by omega),Ct.getD_at (L:=l) (by omega)])
 refine tD<|dW<|dh (dF hs1)<|dS bF<|dK<|dK<|dK<|dK<|dK<|dK<|dK<|dK<|dW<|dS bF<|eD<|Zf<|ZQ<|Zd results106 (.tmp rfl) ?_
 exact cB<|(by unfold Jd.sec;rw [decide_eq_false hs1];rfl)
abbrev Za1 (x0:List Int) (x1:List Int):List (Nat × ABlk):=[(1,.box 24 [Zc x0]),(2,.box 24 [Zc x1])]
theorem hasAdj_c (hx:xs.length<=100) (hl:2<=l.length) (hl2:l.length<=100) (hLk:Jd.LkOk top sh xs.length):Ctr Tryz.prog J 70 [iv top,Zc l,Zc xs,Jd.lkA top sh xs.length] (bv<|Jd.adV top (l.getD 0 0) (l.getD 1 0) xs (Jd.lkF top sh xs.length)<|Jd.lkS top sh xs.length):=by
 refine Zn func70 rfl (pN (.v _)<|pN (Zx _)<|pN (Zx _)<|pN (show Plain (Jd.lkA top sh xs.length) from .sl (ZE λX hX=>by obtain ⟨j,_,rfl⟩:=List.mem_map.1 hX;exact .v _)) pZ) (n:=48) rfl (by simp)<|λw0 => ?_
 refine kW 48 [] [(0,iv top),(1,Zc l),(2,Zc xs),(3,Jd.lkA top sh xs.length)]<|jB<|oX 1 (Zc l)<|oX 2 (Zc xs)<|oS bF<|jD<|Za<|oC (Zag (xs := #[.tmp 6,.tmp 5]) (Xs:=[bx 2,bx 1]) rfl rfl) I0 I0<|oS (.clo 106 [bx 2,bx 1])<|jD<|jB<|oS (Zc xs)<|oS (iv xs.length)<|oS (iv 0)<|kN 48 (Za1 l xs) [(0,iv top),(3,Jd.lkA top sh xs.length),(5,bx 1),(8,bF),(9,.clo 106 [bx 2,bx 1]),(13,Zc xs),(14,iv xs.length),(15,iv 0)]<|Zf<|Zh ?_
 refine Zw (σ:={k:Nat // k<=xs.length/\Jd.noN top (l.getD 0 0) (l.getD 1 0) xs (Jd.lkF top sh xs.length) (Jd.lkS top sh xs.length) k}) (λs=>(ofL (Za1 l xs),ofT 48 [(0,iv top),(3,Jd.lkA top sh xs.length),(5,bx 1),(9,.clo 106 [bx 2,bx 1]),(13,Zc xs),(14,iv xs.length),(15,iv s.1)])) (λs=>xs.length-s.1) ⟨0,Nat.zero_le _,Jd.noN_zero⟩ (Zk _ _)<|λs => ?_
 obtain ⟨k,hk0,hs0⟩:=s
 show ETri J w0 (ofL<|Za1 l xs) (ofT 48 [(0,iv top),(3,Jd.lkA top sh xs.length),(5,bx 1),(9,.clo 106 [bx 2,bx 1]),(13,Zc xs),(14,iv xs.length),(15,iv k)]) _
 refine Zi ?_
 by_cases hs1:(k:Int)<(xs.length:Int)
 have hk1:k<xs.length:=by omega
 obtain ⟨hF1,hS1⟩:=hLk k hk1
 refine Za<|ol (dT hs1)<|jD<|ZM rfl<|Zj<|jC<|Zh<|jB<|oW<|oC (xS (k*1) 13 15 U24) I0 I0<|oL (iv xs[k]) (Zr xs<|by omega)<|oS (iv k)<|oS (iv xs[k])<|jD ?_
 by_cases hs2:xs[k]=l[0]
 by_cases hs3:(Jd.sec xs (l.getD 1 0)<|Jd.lkS top sh xs.length k)=true
 refine Za<|oW<|oS (Zc l)<|oC (ZZ (off:=0*1) (.tmp 21) (.const (.int .i64 0)) rfl U24 (by kernel_rfl) (by omega) (by omega) rfl) I0 I0<|oL (iv l[0]) (Zr l<|by omega)<|oe (dT hs2)<|oS bT<|oS (.clo 106 [bx 2,bx 1])<|oS (Jd.lkA top sh xs.length)<|oS (iv k)<|gC (xS (k*3) 27 28 U87) I0 I0<|oS (.el ((List.range<|xs.length*3).map λj=>iv (Jd.lkC top sh xs.length j)) (k*3+1))<|gA (lE (iv<|Jd.lkS top sh xs.length k) 30 U3<|Jd.lk_at1<|by omega) I0<|KA rfl (Km (c := .tmp 26) (xs := #[.tmp 31]) (Cs:=[bx 2,bx 1]) [(2,.box 24 [Zc xs]),(1,.box 24 [Zc l])] (Zo (sec_c hx hl hl2<|by omega) hs3) rfl (by kernel_rfl) rfl (Xs:=[iv (Jd.lkS top sh xs.length k)]) rfl rfl rfl rfl rfl) ⟨I0,I0,T0⟩ ⟨rfl,rfl,T0⟩ T0<|oS bT<|V5<|V4 ?_
 refine qK<|qK<|oW<|oS bT<|jG<|oS bT<|jE<|Ze<|Zb<|Zb<|Ze<|Zb<|Zd results70 (.tmp rfl) ?_
 exact cB<|(Jd.adV_hit (by omega)<|by unfold Jd.nxB;rw [Ct.getD_at (L:=xs) (by omega),Ct.getD_at (L:=l) (by omega)];simp only [dT hs2,hs3,decide_true,decide_false,Bool.and_true,Bool.true_and,Bool.false_and,Bool.and_false,Bool.true_or,Bool.false_or,Bool.or_true,Bool.or_false,Bool.not_true,Bool.not_false]).symm
 have hs3f:(Jd.sec xs (l.getD 1 0)<|Jd.lkS top sh xs.length k)=false:=by simpa using hs3
 by_cases hs4:top=4
 by_cases hs5:(Jd.sec xs (l.getD 1 0)<|Jd.lkF top sh xs.length k)=true
 refine Za<|oW<|oS (Zc l)<|oC (ZZ (off:=0*1) (.tmp 21) (.const (.int .i64 0)) rfl U24 (by kernel_rfl) (by omega) (by omega) rfl) I0 I0<|oL (iv l[0]) (Zr l<|by omega)<|oe (dT hs2)<|oS bT<|oS (.clo 106 [bx 2,bx 1])<|oS (Jd.lkA top sh xs.length)<|oS (iv k)<|gC (xS (k*3) 27 28 U87) I0 I0<|oS (.el ((List.range<|xs.length*3).map λj=>iv (Jd.lkC top sh xs.length j)) (k*3+1))<|gA (lE (iv<|Jd.lkS top sh xs.length k) 30 U3<|Jd.lk_at1<|by omega) I0<|KA rfl (Km (c := .tmp 26) (xs := #[.tmp 31]) (Cs:=[bx 2,bx 1]) [(2,.box 24 [Zc xs]),(1,.box 24 [Zc l])] (Zo (sec_c hx hl hl2<|by omega) hs3f) rfl (by kernel_rfl) rfl (Xs:=[iv (Jd.lkS top sh xs.length k)]) rfl rfl rfl rfl rfl) ⟨I0,I0,T0⟩ ⟨rfl,rfl,T0⟩ T0<|oS bF<|oW<|oe (dT hs4)<|oS bT<|oS (.clo 106 [bx 2,bx 1])<|oS (Jd.lkA top sh xs.length)<|oS (iv k)<|gC (xS (k*3) 38 39 U87) I0 I0<|oS (.el ((List.range<|xs.length*3).map λj=>iv (Jd.lkC top sh xs.length j)) (k*3))<|gA (lE (iv<|Jd.lkF top sh xs.length k) 41 U3<|Jd.lk_at<|by omega) I0 ?_
 refine KA rfl (Km (c := .tmp 37) (xs := #[.tmp 42]) (Cs:=[bx 2,bx 1]) [(2,.box 24 [Zc xs]),(1,.box 24 [Zc l])] (Zo (sec_c hx hl hl2<|by omega) hs5) rfl (by kernel_rfl) rfl (Xs:=[iv (Jd.lkF top sh xs.length k)]) rfl rfl rfl rfl rfl) ⟨I0,I0,T0⟩ ⟨rfl,rfl,T0⟩ T0<|W2<|oS bT<|jG<|oS bT<|jE<|Ze<|Zb<|Zb<|Ze<|Zb<|Zd results70 (.tmp rfl) ?_
 exact cB<|(Jd.adV_hit (by omega)<|by unfold Jd.nxB;rw [Ct.getD_at (L:=xs) (by omega),Ct.getD_at (L:=l) (by omega)];simp only [dT hs2,hs3f,dT hs4,hs5,decide_true,decide_false,Bool.and_true,Bool.true_and,Bool.false_and,Bool.and_false,Bool.true_or,Bool.false_or,Bool.or_true,Bool.or_false,Bool.not_true,Bool.not_false]).symm
 have hs5f:(Jd.sec xs (l.getD 1 0)<|Jd.lkF top sh xs.length k)=false:=by simpa using hs5
 refine Za<|oW<|oS (Zc l)<|oC (ZZ (off:=0*1) (.tmp 21) (.const (.int .i64 0)) rfl U24 (by kernel_rfl) (by omega) (by omega) rfl) I0 I0<|oL (iv l[0]) (Zr l<|by omega)<|oe (dT hs2)<|oS bT<|oS (.clo 106 [bx 2,bx 1])<|oS (Jd.lkA top sh xs.length)<|oS (iv k)<|gC (xS (k*3) 27 28 U87) I0 I0<|oS (.el ((List.range<|xs.length*3).map λj=>iv (Jd.lkC top sh xs.length j)) (k*3+1))<|gA (lE (iv<|Jd.lkS top sh xs.length k) 30 U3<|Jd.lk_at1<|by omega) I0<|KA rfl (Km (c := .tmp 26) (xs := #[.tmp 31]) (Cs:=[bx 2,bx 1]) [(2,.box 24 [Zc xs]),(1,.box 24 [Zc l])] (Zo (sec_c hx hl hl2<|by omega) hs3f) rfl (by kernel_rfl) rfl (Xs:=[iv (Jd.lkS top sh xs.length k)]) rfl rfl rfl rfl rfl) ⟨I0,I0,T0⟩ ⟨rfl,rfl,T0⟩ T0<|oS bF<|oW<|oe (dT hs4)<|oS bT<|oS (.clo 106 [bx 2,bx 1])<|oS (Jd.lkA top sh xs.length)<|oS (iv k)<|gC (xS (k*3) 38 39 U87) I0 I0<|oS (.el ((List.range<|xs.length*3).map λj=>iv (Jd.lkC top sh xs.length j)) (k*3))<|gA (lE (iv<|Jd.lkF top sh xs.length k) 41 U3<|Jd.lk_at<|by omega) I0 ?_
 refine KA rfl (Km (c := .tmp 37) (xs := #[.tmp 42]) (Cs:=[bx 2,bx 1]) [(2,.box 24 [Zc xs]),(1,.box 24 [Zc l])] (Zo (sec_c hx hl hl2<|by omega) hs5f) rfl (by kernel_rfl) rfl (Xs:=[iv (Jd.lkF top sh xs.length k)]) rfl rfl rfl rfl rfl) ⟨I0,I0,T0⟩ ⟨rfl,rfl,T0⟩ T0<|W2<|oS bF<|jI<|Zj<|Zs<|Zf<|Za<|oV ((k+1:Nat):Int)<|oS (iv (k+1:Nat))<|kN 48 (Za1 l xs) [(0,iv top),(3,Jd.lkA top sh xs.length),(5,bx 1),(9,.clo 106 [bx 2,bx 1]),(10,iv k),(11,iv xs[k]),(13,Zc xs),(14,iv xs.length),(15,iv (k+1:Nat)),(16,bT),(46,bF)]<|Zf ?_
 refine Zp ⟨k+1,by omega,Jd.noN_succ hs0 (by unfold Jd.nxB;rw [Ct.getD_at (L:=xs) (by omega),Ct.getD_at (L:=l) (by omega)];simp only [dT hs2,hs3f,dT hs4,hs5f,decide_true,decide_false,Bool.and_true,Bool.true_and,Bool.false_and,Bool.and_false,Bool.true_or,Bool.false_or,Bool.or_true,Bool.or_false,Bool.not_true,Bool.not_false])⟩ (show xs.length-(k+1)<xs.length-k by omega) ?_
 exact Zk _ _
 refine Za<|oW<|oS (Zc l)<|oC (ZZ (off:=0*1) (.tmp 21) (.const (.int .i64 0)) rfl U24 (by kernel_rfl) (by omega) (by omega) rfl) I0 I0<|oL (iv l[0]) (Zr l<|by omega)<|oe (dT hs2)<|oS bT<|oS (.clo 106 [bx 2,bx 1])<|oS (Jd.lkA top sh xs.length)<|oS (iv k)<|gC (xS (k*3) 27 28 U87) I0 I0<|oS (.el ((List.range<|xs.length*3).map λj=>iv (Jd.lkC top sh xs.length j)) (k*3+1))<|gA (lE (iv<|Jd.lkS top sh xs.length k) 30 U3<|Jd.lk_at1<|by omega) I0<|KA rfl (Km (c := .tmp 26) (xs := #[.tmp 31]) (Cs:=[bx 2,bx 1]) [(2,.box 24 [Zc xs]),(1,.box 24 [Zc l])] (Zo (sec_c hx hl hl2<|by omega) hs3f) rfl (by kernel_rfl) rfl (Xs:=[iv (Jd.lkS top sh xs.length k)]) rfl rfl rfl rfl rfl) ⟨I0,I0,T0⟩ ⟨rfl,rfl,T0⟩ T0<|oS bF<|oW<|oe (dF hs4)<|oS bF<|V5<|qK ?_
 refine qK<|W2<|oS bF<|jI<|Zj<|Zs<|Zf<|Za<|oV ((k+1:Nat):Int)<|oS (iv (k+1:Nat))<|kN 48 (Za1 l xs) [(0,iv top),(3,Jd.lkA top sh xs.length),(5,bx 1),(9,.clo 106 [bx 2,bx 1]),(10,iv k),(11,iv xs[k]),(13,Zc xs),(14,iv xs.length),(15,iv (k+1:Nat)),(16,bT),(46,bF)]<|Zf ?_
 refine Zp ⟨k+1,by omega,Jd.noN_succ hs0 (by unfold Jd.nxB;rw [Ct.getD_at (L:=xs) (by omega),Ct.getD_at (L:=l) (by omega)];simp only [dT hs2,hs3f,dF hs4,decide_true,decide_false,Bool.and_true,Bool.true_and,Bool.false_and,Bool.and_false,Bool.true_or,Bool.false_or,Bool.or_true,Bool.or_false,Bool.not_true,Bool.not_false])⟩ (show xs.length-(k+1)<xs.length-k by omega) ?_
 exact Zk _ _
 refine Za<|oW<|oS (Zc l)<|oC (ZZ (off:=0*1) (.tmp 21) (.const (.int .i64 0)) rfl U24 (by kernel_rfl) (by omega) (by omega) rfl) I0 I0<|oL (iv l[0]) (Zr l<|by omega)<|oe (dF hs2)<|oS bF<|V5<|V5<|V5<|V2<|qK<|V2<|oS bF<|jI<|Zj<|Zs<|Zf<|Za<|oV ((k+1:Nat):Int)<|oS (iv (k+1:Nat))<|kN 48 (Za1 l xs) [(0,iv top),(3,Jd.lkA top sh xs.length),(5,bx 1),(9,.clo 106 [bx 2,bx 1]),(10,iv k),(11,iv xs[k]),(13,Zc xs),(14,iv xs.length),(15,iv (k+1:Nat)),(16,bT),(46,bF)]<|Zf ?_
 refine Zp ⟨k+1,by omega,Jd.noN_succ hs0 (by unfold Jd.nxB;rw [Ct.getD_at (L:=xs) (by omega),Ct.getD_at (L:=l) (by omega)];simp only [dF hs2,decide_true,decide_false,Bool.and_true,Bool.true_and,Bool.false_and,Bool.and_false,Bool.true_or,Bool.false_or,Bool.or_true,Bool.or_false,Bool.not_true,Bool.not_false])⟩ (show xs.length-(k+1)<xs.length-k by omega) ?_
 exact Zk _ _
 exact Za<|ol (dF hs1)<|jD<|Zu rfl<|jO<|jC<|Za<|oS bF<|jE<|Zd results70 (.tmp rfl)<|cB<|(Jd.adV_none (by omega) hs0).symm
abbrev ZfB (x0:Fm) (x1:Pq):List (Nat × ABlk):=[(1,.box 27 (cFm x0)),(2,.box 30 (cPq x1))]
set_option maxRecDepth 100000 in
set_option maxHeartbeats 6400000 in
theorem isBad_g (HQ:PqOk q) (hl0:(A++B).length<=100) {m:Nat} {cs:List AV} (hP:Plain (.sl 3 m cs)) (hX:¬ (q.adj.length:Int)=0->Ctr Tryz.prog J 70 [iv p.top,Zc q.adj,Zc (A++B),.sl 3 m cs] (bv<|Jd.adV p.top (Jd.adX q) (Jd.adY q) (A++B) (Jd.lkF p.top sh (A++B).length)<|Jd.lkS p.top sh (A++B).length)):Ctr Tryz.prog J 40 [.agg (cFm p),.agg (cPq q),Zc (A++B),iv A.length,.sl 3 m cs] (bv<|Jd.alB A q.bad&&(decide ((q.adj.length:Int)=0)||Jd.adV p.top (Jd.adX q) (Jd.adY q) (A++B) (Jd.lkF p.top sh (A++B).length) (Jd.lkS p.top sh (A++B).length))):=by
 have hl2:(A++B).length=A.length+B.length:=List.length_append
 have hqb:=HQ.lbad
 have hqa:=HQ.ladj
 refine Zn func40 rfl (pN (Zg<|Zy p)<|pN (Zg<|Yd q)<|pN (Zx _)<|pN (.v _)<|pN hP pZ) (n:=56) rfl (by simp)<|λw0 => kW 56 [] [(0,.agg (cFm p)),(1,.agg (cPq q)),(2,Zc (A++B)),(3,iv A.length),(4,.sl 3 m cs)]<|jB<|oX 1 (.agg (cFm p))<|oX 2 (.agg (cPq q))<|oS bF<|jD<|jB<|oF (slA 2 cRw q.bad)<|oS (iv q.bad.length)<|oS (iv 0)<|kN 56 (ZfB p q) [(2,Zc (A++B)),(3,iv A.length),(4,.sl 3 m cs),(5,bx 1),(6,bx 2),(10,bF),(17,slA 2 cRw q.bad),(18,iv q.bad.length),(19,iv 0)]<|Zf<|Zh ?_
 refine Zw (σ:={k:Nat // k<=q.bad.length/\Jd.upB A q.bad k}) (λs=>(ofL (ZfB p q),ofT 56 [(2,Zc (A++B)),(3,iv A.length),(4,.sl 3 m cs),(5,bx 1),(6,bx 2),(17,slA 2 cRw q.bad),(18,iv q.bad.length),(19,iv s.1)])) (λs=>q.bad.length-s.1) ⟨0,Nat.zero_le _,Jd.upB_zero _ _⟩ (Zk _ _)<|λs => ?_
 obtain ⟨k,hk0,hs0⟩:=s
 show ETri J w0 (ofL<|ZfB p q) (ofT 56 [(2,Zc (A++B)),(3,iv A.length),(4,.sl 3 m cs),(5,bx 1),(6,bx 2),(17,slA 2 cRw q.bad),(18,iv q.bad.length),(19,iv k)]) _
 refine Zi ?_
 by_cases hs1:(k:Int)<(q.bad.length:Int)
 have hk1:k<q.bad.length:=by omega
 refine Za<|ol (dT hs1)<|jD<|ZM rfl<|Zj<|jC<|Zh<|jB<|oC (xS (k*2) 17 19 U28) I0 I0<|oA (Zl (z:=2) (.tmp 21) rfl U82 rfl (by kernel_rfl) (ZJ lenRw q.bad k<|by omega) rfl) I0<|oZ 3 Z82<|oY<|kN 56 [(1,.box 27 (cFm p)),(2,.box 30 (cPq q)),(3,.box 82 (cRw q.bad[k]))] [(2,Zc (A++B)),(3,iv A.length),(4,.sl 3 m cs),(5,bx 1),(6,bx 2),(12,bx 3),(17,slA 2 cRw q.bad),(18,iv q.bad.length),(19,iv k),(20,bT)]<|jC<|Za<|oS (iv 0)<|jD ?_
 refine jB<|oS (Zc<|A++B)<|oS (iv A.length)<|oC (WQ (l:=0) (h:=A.length) (ds:=(A.map iv)) (.tmp 23) none (some<|.tmp 24) rfl U24 (by kernel_rfl) [] [(.tmp 24,iv A.length)] (.inl ⟨rfl,rfl,rfl⟩) (.inr ⟨_,_,rfl,rfl⟩) (Nat.zero_le _) (by omega)<|by simp) I0 I0<|oS (iv A.length)<|oS (iv 0)<|kN 56 [(1,.box 27 (cFm p)),(2,.box 30 (cPq q)),(3,.box 82 (cRw q.bad[k]))] [(2,Zc (A++B)),(3,iv A.length),(4,.sl 3 m cs),(5,bx 1),(6,bx 2),(12,bx 3),(13,iv 0),(17,slA 2 cRw q.bad),(18,iv q.bad.length),(19,iv k),(20,bT),(25,Zc A),(26,iv A.length),(27,iv 0)]<|Zf<|Zh ?_
 refine Zw (σ:={j:Nat // j<=A.length}) (λs=>(ofL [(1,.box 27 (cFm p)),(2,.box 30 (cPq q)),(3,.box 82 (cRw q.bad[k]))],ofT 56 [(2,Zc (A++B)),(3,iv A.length),(4,.sl 3 m cs),(5,bx 1),(6,bx 2),(12,bx 3),(13,iv (Jd.cP (A.take s.1) q.bad[k].1:Nat)),(17,slA 2 cRw q.bad),(18,iv q.bad.length),(19,iv k),(20,bT),(25,Zc A),(26,iv A.length),(27,iv s.1)])) (λs=>A.length-s.1) ⟨0,Nat.zero_le _⟩ (Zk _ _)<|λs => ?_
 obtain ⟨j,hj0⟩:=s
 show ETri J w0 (ofL [(1,.box 27 (cFm p)),(2,.box 30 (cPq q)),(3,.box 82 (cRw q.bad[k]))]) (ofT 56 [(2,Zc (A++B)),(3,iv A.length),(4,.sl 3 m cs),(5,bx 1),(6,bx 2),(12,bx 3),(13,iv (Jd.cP (A.take j) q.bad[k].1:Nat)),(17,slA 2 cRw q.bad),(18,iv q.bad.length),(19,iv k),(20,bT),(25,Zc A),(26,iv A.length),(27,iv j)]) _
 refine Zi ?_
 by_cases hs2:(j:Int)<(A.length:Int)
 have hj1:j<A.length:=by omega
 have hcp:=Jd.cP_le A q.bad[k].1 j
 refine Za<|ol (dT hs2)<|jD<|ZM rfl<|Zj<|jC<|Zh<|jB<|oC (xS (j*1) 25 27 U24) I0 I0<|oL (iv A[j]) (Zr A<|by omega)<|oS (iv A[j])<|jD ?_
 by_cases hs3:(decide<|A[j]∈q.bad[k].1)=true
 refine Za<|W3<|oK (Zo (Ym q.bad[k].1 A[j] (HQ.bad _<|List.getElem_mem<|by omega).2.2) hs3) [Zc q.bad[k].1,iv A[j]] rfl rfl<|jH<|Za<|oS (iv (Jd.cP (A.take j) q.bad[k].1:Nat))<|oV ((Jd.cP (A.take j) q.bad[k].1+1:Nat):Int)<|oS (iv (Jd.cP (A.take j) q.bad[k].1+1:Nat))<|ZL<|Zs<|Zf<|Za<|oV ((j+1:Nat):Int)<|oS (iv (j+1:Nat))<|kN 56 [(1,.box 27 (cFm p)),(2,.box 30 (cPq q)),(3,.box 82 (cRw q.bad[k]))] [(2,Zc (A++B)),(3,iv A.length),(4,.sl 3 m cs),(5,bx 1),(6,bx 2),(12,bx 3),(13,iv (Jd.cP (A.take j) q.bad[k].1+1:Nat)),(15,iv A[j]),(17,slA 2 cRw q.bad),(18,iv q.bad.length),(19,iv k),(20,bT),(25,Zc A),(26,iv A.length),(27,iv (j+1:Nat)),(28,bT),(34,bT)]<|Zf ?_
 refine Zp ⟨j+1,by omega⟩ (show A.length-(j+1)<A.length-j by omega) ?_
 show Wk _ _ (ofL [(1,.box 27 (cFm p)),(2,.box 30 (cPq q)),(3,.box 82 (cRw q.bad[k]))]) (ofT 56 [(2,Zc (A++B)),(3,iv A.length),(4,.sl 3 m cs),(5,bx 1),(6,bx 2),(12,bx 3),(13,iv (Jd.cP (A.take<|j+1) q.bad[k].1:Nat)),(17,slA 2 cRw q.bad),(18,iv q.bad.length),(19,iv k),(20,bT),(25,Zc A),(26,iv A.length),(27,iv ((j+1):Nat))])
 rw [Jd.cP_in (by omega) hs3]
 exact Zk _ _
 have hs3f:(decide<|A[j]∈q.bad[k].1)=false:=by simpa using hs3
 refine Za<|W3<|oK (Zo (Ym q.bad[k].1 A[j] (HQ.bad _<|List.getElem_mem<|by omega).2.2) hs3f) [Zc q.bad[k].1,iv A[j]] rfl rfl<|jI<|Zj<|Zs<|Zf<|Za<|oV ((j+1:Nat):Int)<|oS (iv (j+1:Nat))<|kN 56 [(1,.box 27 (cFm p)),(2,.box 30 (cPq q)),(3,.box 82 (cRw q.bad[k]))] [(2,Zc (A++B)),(3,iv A.length),(4,.sl 3 m cs),(5,bx 1),(6,bx 2),(12,bx 3),(13,iv (Jd.cP (A.take j) q.bad[k].1:Nat)),(15,iv A[j]),(17,slA 2 cRw q.bad),(18,iv q.bad.length),(19,iv k),(20,bT),(25,Zc A),(26,iv A.length),(27,iv (j+1:Nat)),(28,bT),(34,bF)]<|Zf<|Zp ⟨j+1,by omega⟩ (show A.length-(j+1)<A.length-j by omega) ?_
 show Wk _ _ (ofL [(1,.box 27 (cFm p)),(2,.box 30 (cPq q)),(3,.box 82 (cRw q.bad[k]))]) (ofT 56 [(2,Zc (A++B)),(3,iv A.length),(4,.sl 3 m cs),(5,bx 1),(6,bx 2),(12,bx 3),(13,iv (Jd.cP (A.take<|j+1) q.bad[k].1:Nat)),(17,slA 2 cRw q.bad),(18,iv q.bad.length),(19,iv k),(20,bT),(25,Zc A),(26,iv A.length),(27,iv ((j+1):Nat))])
 rw [Jd.cP_out (by omega) hs3f]
 exact Zk _ _
 refine Za<|ol (dF hs2)<|kN 56 [(1,.box 27 (cFm p)),(2,.box 30 (cPq q)),(3,.box 82 (cRw q.bad[k]))] [(2,Zc (A++B)),(3,iv A.length),(4,.sl 3 m cs),(5,bx 1),(6,bx 2),(12,bx 3),(13,iv (Jd.cP (A.take j) q.bad[k].1:Nat)),(17,slA 2 cRw q.bad),(18,iv q.bad.length),(19,iv k),(20,bT),(25,Zc A),(26,iv A.length),(27,iv j),(28,bF)]<|jC<|Zu rfl<|jO<|jC<|kW 56 [(1,.box 27 (cFm p)),(2,.box 30 (cPq q)),(3,.box 82 (cRw q.bad[k]))] [(2,Zc (A++B)),(3,iv A.length),(4,.sl 3 m cs),(5,bx 1),(6,bx 2),(12,bx 3),(13,iv (Jd.cP (A.take j) q.bad[k].1:Nat)),(17,slA 2 cRw q.bad),(18,iv q.bad.length),(19,iv k),(20,bT),(25,Zc A),(26,iv A.length),(27,iv j),(28,bF)] ?_
 have hj2:j=A.length:=by omega
 rw [show A.take j=A by rw [hj2,List.take_length]]
 by_cases hs4:((Jd.cP A q.bad[k].1:Nat):Int)<q.bad[k].2
 refine Za<|W3<|ol (dT hs4)<|jG<|oS bF<|jE<|Ze<|Zb<|Zb<|Ze<|Zb<|Zd results40 (.tmp rfl) ?_
 exact cB<|(by rw [Jd.alB_no (by omega) hs4];rfl)
 exact Za<|W3<|ol (dF hs4)<|jI<|Zj<|Zs<|Zf<|Za<|oV ((k+1:Nat):Int)<|oS (iv (k+1:Nat))<|kN 56 [(1,.box 27 (cFm p)),(2,.box 30 (cPq q)),(3,.box 82 (cRw q.bad[k]))] [(2,Zc (A++B)),(3,iv A.length),(4,.sl 3 m cs),(5,bx 1),(6,bx 2),(12,bx 3),(13,iv (Jd.cP A q.bad[k].1:Nat)),(17,slA 2 cRw q.bad),(18,iv q.bad.length),(19,iv (k+1:Nat)),(20,bT),(25,Zc A),(26,iv A.length),(27,iv j),(28,bF),(41,bF)]<|Zf<|Zp ⟨k+1,by omega,Jd.upB_succ (by omega) hs0 hs4⟩ (show q.bad.length-(k+1)<q.bad.length-k by omega)<|Zk _ _
 refine Za<|ol (dF hs1)<|jD<|Zu rfl<|jO<|jC ?_
 by_cases hs5:(q.adj.length:Int)=0
 refine Za<|W3<|oe (dT hs5)<|oS bT<|V5<|V2<|oF bT<|jE<|Zd results40 (.tmp rfl) ?_
 exact cB<|(by rw [Jd.alB_yes (by omega) hs0,decide_eq_true hs5];rfl)
 exact Za<|W3<|oe (dF hs5)<|oS bF<|W4<|W2<|oK (hX hs5) [iv p.top,Zc q.adj,Zc (A++B),.sl 3 m cs] rfl rfl<|oF (bv<|Jd.adV p.top (Jd.adX q) (Jd.adY q) (A++B) (Jd.lkF p.top sh (A++B).length)<|Jd.lkS p.top sh (A++B).length)<|jE<|Zd results40 (.tmp rfl)<|cB<|(by rw [Jd.alB_yes (by omega) hs0,decide_eq_false hs5,Bool.true_and,Bool.false_or])
theorem isBad_no (HQ:PqOk q) (hl0:(A++B).length<=100) (hadj:(q.adj.length:Int)=0):Ctr Tryz.prog J 40 [.agg (cFm p),.agg (cPq q),Zc (A++B),iv A.length,.sl 3 0 []] (bv (Jd.alB A q.bad&&(decide ((q.adj.length:Int)=0)||Jd.adV p.top (Jd.adX q) (Jd.adY q) (A++B) (Jd.lkF p.top sh (A++B).length) (Jd.lkS p.top sh (A++B).length)))):=isBad_g HQ hl0 (.sl λ_ hj=>nomatch hj) λh=>absurd hadj h
theorem ctr_nil5 {f:FuncId} {a b c d u:AV} (h:Ctr Tryz.prog J f [a,b,c,d,.sl 3 0 []] u):Ctr Tryz.prog J f [a,b,c,d,nz] u:=λw vs hJ hl hv =>
 h w vs hJ hl λj hj=>match j,hj with
  | 0,_=>hv 0 (by simp)
  | 1,_=>hv 1 (by simp)
  | 2,_=>hv 2 (by simp)
  | 3,_=>hv 3 (by simp)
  | 4,_=>by
    have:=(hv 4 (by simp)).v_inv
    show Pu _ _ _ (.sl 3 0 []) _
    rw [this]
    exact .sl0 (by decide) λ_=>rfl
theorem isBadC_no (HQ:PqOk q) (hok:Jd.okB p c=true) (hco:c.cor=n-f) (hl:c.st.length<=100) (hadj:(q.adj.length:Int)=0):Ctr Tryz.prog J 40 [.agg (cFm p),.agg (cPq q),Zc c.st,iv (n-f),nz] (bv (Jd.bdV p q c)):=by
 obtain ⟨sh,A,B,se,fa,val,rfl⟩:=Ct.pl_two (Jd.ok_pl hok)
 rw [Jd.bdV_two,<- hco]
 exact ctr_nil5 (isBad_no HQ hl hadj)
theorem isBadC_l (HQ:PqOk q) (hok:Jd.okB p c=true) (hco:c.cor=n-f) (hl:c.st.length<=100) (hvp:vpE p q=0) (hkd:q.kind=1):Ctr Tryz.prog J 40 [.agg (cFm p),.agg (cPq q),Zc c.st,iv (n-f),Jd.lkA p.top c.sh c.st.length] (bv (Jd.bdV p q c)):=by
 have hpr:=Jd.prE_o hvp hkd
 obtain ⟨sh,A,B,se,fa,val,rfl⟩:=Ct.pl_two (Jd.ok_pl hok)
 rw [Jd.bdV_two,<- hco]
 refine isBad_g HQ hl (.sl (ZE λX hX=>by obtain ⟨j,_,rfl⟩:=List.mem_map.1 hX;exact .v _)) λhadj => ?_
 have h:=Jd.adj_in hpr hadj
 have h2:=h.2
 have htop:=Jd.top_in (Jd.vp_val hvp)
 have hl0:(A++B).length<=100:=hl
 have hqa:=HQ.ladj
 refine hasAdj_c hl0 (by omega) (by omega) ?_
 by_cases h4:p.top=4
 ·have hs:=Jd.shpY hok h4
  obtain ⟨h5,h6⟩:=Jd.shp_sp hs
  have h7:sh.length=(A++B).length:=by
   have:(sh.length:Int)=(((A++B).length:Nat):Int):=h5
   omega
  rw [h4,<- h7]
  exact Jd.lk_tree h6
 have h1:=h.1
 exact Jd.lk_row (by omega)
theorem sysBad_l (HQ:PqOk q) (hok:Jd.okB p c=true) (hco:c.cor=n-f) (hn:(Ns.cntE p n f).toNat=c.st.length) (hN:Ns.cntE p n f=(c.st.length:Int)) (l8:c.st.length<=8) (hvp:vpE p q=0) (hkd:q.kind=1) (hx0:0<=sx) (hx1:sx<(((En.shS p.top (Ns.cntE p n f).toNat).length:Nat):Int)) (hx2:(En.shS p.top (Ns.cntE p n f).toNat)[sx.toNat]? = some c.sh):Ctr Tryz.prog J 19 [.el (En.sysP p n t f) 0,.agg (cPq q),.agg (En.cfV sx c)] (bv<|Jd.bdV p q c):=by
 refine Zn func19 rfl (pN (show Plain (.el (En.sysP p n t f) 0) from .el (ZE<|En.plain_sysP p n t f))<|pN (Zg<|Yd q)<|pN (Zg<|En.plain_cfV _ c) pZ) (n:=39) rfl (by simp)<|λw0 => jB<|oA (ZC (X := .agg (cPq q)) (.tmp 1) rfl rfl rfl) I0<|oA (ZC (X := .agg (En.cfV sx c)) (.tmp 2) rfl rfl rfl) I0<|oS bF<|jD<|Za<|oS (nz)<|jD<|jB<|W3<|oF (iv ((En.shS p.top (Ns.cntE p n f).toNat).length:Nat))<|oC (WC rfl<|dT<|by omega) I0 I0<|jH ?_
 refine tD<|dW<|dW<|dW<|dS (En.lkS p.top (Ns.cntE p n f).toNat)<|dW<|dS (iv sx)<|dC (xS (sx.toNat*1) 17 19 U95) I0 I0<|dA (lE (Jd.lkA p.top c.sh c.st.length) 20 U87<|En.links_at hx2 hn) I0<|dS (Jd.lkA p.top c.sh c.st.length)<|eD<|kW 39 [] [(0,.el (En.sysP p n t f) 0),(4,.el (cPq q) 0),(5,.el (En.cfV sx c) 0),(6,bF),(7,Jd.lkA p.top c.sh c.st.length)]<|jC ?_
 refine tD<|dW<|dW<|dS (.el (En.sysP p n t f) 0)<|dA (Zl (z:=10) (ds:=[sv p.nm,iv p.top,ZN p.sz,ZN p.msgs,ZN p.vals,iv p.fzz,slA 4 cLn p.res,Zc p.init,Zc p.lz,slA 18 cRu p.rz]) (.tmp 24) rfl U27 rfl (by kernel_rfl) (by kernel_rfl) rfl) I0<|dA (Zl (z:=6) (.tmp 4) rfl U30 rfl (by kernel_rfl) rfl rfl) I0<|dS (.el (En.cfV sx c) 1)<|dW<|dW<|dW<|dS (iv<|Ns.cntE p n f)<|dC (Wl (n:=c.st.length) (off:=1) (ds:=(c.st.map iv)) (.tmp 27) (.tmp 31) rfl U58 (by kernel_rfl) (by omega) (by kernel_rfl) (by unfold maxLen;omega) (by show _<=16;omega) (En.cfV_row l8) hN) I0 I0<|dW<|dW<|dW<|dW<|dW<|dk (isBadC_l HQ hok hco (by omega) hvp hkd) [.agg [sv p.nm,iv p.top,ZN p.sz,ZN p.msgs,ZN p.vals,iv p.fzz,slA 4 cLn p.res,Zc p.init,Zc p.lz,slA 18 cRu p.rz],.agg (cPq q),Zc c.st,iv (n-f),Jd.lkA p.top c.sh c.st.length] rfl rfl<|dS (bv<|Jd.bdV p q c)<|eD ?_
 exact Zf<|ZQ<|Zd results19 (.tmp rfl)<|rfl
theorem sysBad_n (HQ:PqOk q) (hok:Jd.okB p c=true) (hco:c.cor=n-f) (hn:(Ns.cntE p n f).toNat=c.st.length) (hN:Ns.cntE p n f=(c.st.length:Int)) (l8:c.st.length<=8) (hvp:vpE p q=0) (hkd:q.kind=1) (hz:(En.shS p.top (Ns.cntE p n f).toNat).length=0) (hadj:(q.adj.length:Int)=0):Ctr Tryz.prog J 19 [.el (En.sysP p n t f) 0,.agg (cPq q),.agg (En.cfV sx c)] (bv<|Jd.bdV p q c):=by
 refine Zn func19 rfl (pN (show Plain (.el (En.sysP p n t f) 0) from .el (ZE<|En.plain_sysP p n t f))<|pN (Zg<|Yd q)<|pN (Zg<|En.plain_cfV _ c) pZ) (n:=39) rfl (by simp)<|λw0 => jB<|oA (ZC (X := .agg (cPq q)) (.tmp 1) rfl rfl rfl) I0<|oA (ZC (X := .agg (En.cfV sx c)) (.tmp 2) rfl rfl rfl) I0<|oS bF<|jD<|Za<|oS (nz)<|jD<|jB<|W3<|oF (iv ((En.shS p.top (Ns.cntE p n f).toNat).length:Nat))<|oC (WC rfl<|dF<|by omega) I0 I0<|jI<|Zj<|jC ?_
 refine tD<|dW<|dW<|dS (.el (En.sysP p n t f) 0)<|dA (Zl (z:=10) (ds:=[sv p.nm,iv p.top,ZN p.sz,ZN p.msgs,ZN p.vals,iv p.fzz,slA 4 cLn p.res,Zc p.init,Zc p.lz,slA 18 cRu p.rz]) (.tmp 24) rfl U27 rfl (by kernel_rfl) (by kernel_rfl) rfl) I0<|dA (Zl (z:=6) (.tmp 4) rfl U30 rfl (by kernel_rfl) rfl rfl) I0<|dS (.el (En.cfV sx c) 1)<|dW<|dW<|dW<|dS (iv<|Ns.cntE p n f)<|dC (Wl (n:=c.st.length) (off:=1) (ds:=(c.st.map iv)) (.tmp 27) (.tmp 31) rfl U58 (by kernel_rfl) (by omega) (by kernel_rfl) (by unfold maxLen;omega) (by show _<=16;omega) (En.cfV_row l8) hN) I0 I0<|dW<|dW<|dW<|dW<|dW<|dk (isBadC_no HQ hok hco (by omega) hadj) [.agg [sv p.nm,iv p.top,ZN p.sz,ZN p.msgs,ZN p.vals,iv p.fzz,slA 4 cLn p.res,Zc p.init,Zc p.lz,slA 18 cRu p.rz],.agg (cPq q),Zc c.st,iv (n-f),nz] rfl rfl<|dS (bv<|Jd.bdV p q c)<|eD ?_
 exact Zf<|ZQ<|Zd results19 (.tmp rfl)<|rfl
theorem sysBad_c (HQ:PqOk q) (hs:Ns.sysE p n t f=0) (hc:En.CfV p n f c) (hvp:vpE p q=0) (hkd:q.kind=1):Ctr Tryz.prog J 19 [.el (En.sysP p n t f) 0,.agg (cPq q),.agg (En.cfV (Rd.shI p.top (Ns.shT p.top (Ns.cntE p n f)) c.sh) c)] (bv (Jd.bdV p q c)):=by
 obtain ⟨hv,ha,h8⟩:=Ns.sys_ok hs
 have hai:=Ns.adm_in ha
 have l8:=En.cf_len hc hai h8
 have hok:=Vi.v_ok hai hc
 have hn:=hc.ln
 have htop:=Jd.top_in hv
 by_cases h1:p.top=1
 ·have hz:(En.shS p.top (Ns.cntE p n f).toNat).length=0:=by unfold En.shS;rw [if_neg (by omega),if_neg (by omega)];rfl
  exact sysBad_n HQ hok hc.co (by omega) hc.ln.symm l8 hvp hkd hz (Decidable.byContradiction λe=>(Jd.adj_in (Jd.prE_o hvp hkd) e).1 h1)
 obtain ⟨a,b,d⟩:=En.shI_at hc h1 htop (by omega)
 exact sysBad_l HQ hok hc.co (by omega) hc.ln.symm l8 hvp hkd a b d
set_option maxRecDepth 100000 in
theorem nsFor_err (HP:FmOk p) (HQ:PqOk q) (hvp:¬ vpE p q=0):CtrA Tryz.prog J 15 [.agg (cFm p),.agg (cPq q),.agg (cSz n t f)] (.tup [.v (.pointer none),iv (vpE p q)]):=by
 refine YU func15 rfl (pN (Zg (Zy p)) (pN (Zg (Yd q)) (pN (Zg (ZT n t f)) pZ))) (n:=20) rfl (by simp) (λw0 => ?_)
 refine jB (oX 1 (.agg (cFm p)) (oX 2 (.agg (cPq q)) (oX 3 (.agg (cSz n t f)) (oS (.v (.pointer none)) (oS (iv 0) (jD (jB (W2 (oK (YD HP HQ) [.agg (cFm p),.agg (cPq q)] rfl rfl (oS (iv (vpE p q)) (jD (Za (oS (iv (vpE p q)) (oC (Yg rfl (dF' hvp)) I0 I0 (jA ?_)))))))))))))))
 refine jK (oW (oS (.v (.pointer none)) (oS (iv (vpE p q)) (jE (Zb ?_)))))
 refine KM [(1,.box 27 (cFm p)),(3,.box 32 (cSz n t f))] results15 (.tmp rfl) (.tmp rfl) (by kernel_rfl) rfl rfl rfl ?_ ?_ rfl
 ·exact (.v _)
 exact .v _
set_option maxRecDepth 100000 in
theorem nsFor_sys (HP:FmOk p) (HQ:PqOk q) (hvp:vpE p q=0) (hs:¬ Ns.sysE p n t f=0):CtrA Tryz.prog J 15 [.agg (cFm p),.agg (cPq q),.agg (cSz n t f)] (.tup [.v (.pointer none),iv (Ns.sysE p n t f)]):=by
 refine YU func15 rfl (pN (Zg (Zy p)) (pN (Zg (Yd q)) (pN (Zg (ZT n t f)) pZ))) (n:=20) rfl (by simp) (λw0 => ?_)
 refine jB (oX 1 (.agg (cFm p)) (oX 2 (.agg (cPq q)) (oX 3 (.agg (cSz n t f)) (oS (.v (.pointer none)) (oS (iv 0) (jD (jB (W2 (oK (YD HP HQ) [.agg (cFm p),.agg (cPq q)] rfl rfl (oS (iv (vpE p q)) (jD (Za (oS (iv (vpE p q)) (oC (Yg rfl (dT' hvp)) I0 I0 (jA ?_)))))))))))))))
 refine jL (jB (oS (.agg (cFm p)) (oS (.agg (cSz n t f)) (oD (Kp (c := .func 32) (xs := #[.tmp 15,.tmp 16]) (Zdl HP hs) rfl (by kernel_rfl) rfl (Xs:=[.agg (cFm p),.agg (cSz n t f)]) rfl rfl) I0 I0 I0 (W2 (oS (.v (.pointer none)) (oS (iv (Ns.sysE p n t f)) (jE ?_))))))))
 refine KM [] results15 (.tmp rfl) (.tmp rfl) (by kernel_rfl) rfl rfl rfl ?_ ?_ rfl
 ·exact (.v _)
 exact .v _
set_option maxRecDepth 100000 in
theorem nsFor_ok (HP:FmOk p) (HQ:PqOk q) (hvp:vpE p q=0) (hs:Ns.sysE p n t f=0):CtrA Tryz.prog J 15 [.agg (cFm p),.agg (cPq q),.agg (cSz n t f)] (.tup [.el (En.sysP p n t f) 0,iv 0]):=by
 refine YU func15 rfl (pN (Zg (Zy p)) (pN (Zg (Yd q)) (pN (Zg (ZT n t f)) pZ))) (n:=20) rfl (by simp) (λw0 => ?_)
 refine jB (oX 1 (.agg (cFm p)) (oX 2 (.agg (cPq q)) (oX 3 (.agg (cSz n t f)) (oS (.v (.pointer none)) (oS (iv 0) (jD (jB (W2 (oK (YD HP HQ) [.agg (cFm p),.agg (cPq q)] rfl rfl (oS (iv (vpE p q)) (jD (Za (oS (iv (vpE p q)) (oC (Yg rfl (dT' hvp)) I0 I0 (kN 20 [(1,.box 27 (cFm p)),(3,.box 32 (cSz n t f))] [(3,bx 1),(5,bx 3),(6,.v (.pointer none)),(7,iv 0),(8,iv (vpE p q)),(13,bF)] (Zf ?_))))))))))))))))
 refine jL (jB (oS (.agg (cFm p)) (oS (.agg (cSz n t f)) (oD (Kp (c := .func 32) (xs := #[.tmp 15,.tmp 16]) (Zfj HP hs) rfl (by kernel_rfl) rfl (Xs:=[.agg (cFm p),.agg (cSz n t f)]) rfl rfl) I0 I0 I0 (W2 (oS (.el (En.sysP p n t f) 0) (oS (iv 0) (jE ?_))))))))
 refine KM [] results15 (.tmp rfl) (.tmp rfl) (by kernel_rfl) rfl rfl rfl ?_ ?_ rfl
 ·exact (show Plain (.el (En.sysP p n t f) 0) from .el (ZE (En.plain_sysP p n t f)))
 exact .v _
end Go.Proofs.YtmpgnibfhjdfpaaGreat
