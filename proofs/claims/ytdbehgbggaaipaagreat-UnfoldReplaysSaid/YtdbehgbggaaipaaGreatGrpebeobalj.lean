import Derived.ChangeArms
import Derived.ChangeMaps5
import Derived.Test.YtdbehgbggaaipaaGreatGrpcihmmilk
import Derived.Test.YtdbehgbggaaipaaGreatGrphcbildpf
import Derived.Test.YtdbehgbggaaipaaGreatGrpjljjncbf
import Derived.Test.YtdbehgbggaaipaaGreatGrpinmkkjpe
import Derived.Test.YtdbehgbggaaipaaGreatGrpkdeckmpc
import Derived.Test.YtdbehgbggaaipaaGreatGrpmknfboop
import Derived.Test.YtdbehgbggaaipaaGreatGrpblgjngcl
import Derived.Test.YtdbehgbggaaipaaGreatGrpmplibfba
import Derived.Test.YtdbehgbggaaipaaGreatGrpfffiblha
set_option linter.all false
namespace Go.Proofs.YtdbehgbggaaipaaGreat
open Go.RowKit Go.Deep
variable {J:World→Prop}
theorem Ya (n t f:Int):∀ X∈cSz n t f,Plain X:=by
 intro X hX;simp only [cSz,List.mem_cons,List.not_mem_nil,or_false] at hX
 rcases hX with rfl | rfl | rfl<;>exact .v _
abbrev Ko (x0:Fm) (x1:Int) (x2:Int) (x3:Int):List (Nat × ABlk):=[(1,.box 27 (cFm x0)),(2,.box 29 (cSz x1 x2 x3))]
set_option maxRecDepth 100000 in
set_option maxHeartbeats 6400000 in
theorem ZaC {q:Fm} (HQ:FmOk q) (n t f:Int):Ctr Tryz.prog J 52 [.agg (cFm q),.agg (cSz n t f)] (bv (admB q n t f)):=by
 have l5:=HQ.lres
 refine Zm Tryz.func52 rfl (pN (Zh (ZS q)) (pN (Zh (Ya n t f)) pZ)) (n:=63) rfl (by simp) (fun w0 => ?_)
 refine kW 63 [] [(0,.agg (cFm q)),(1,.agg (cSz n t f))] (jB (oX 1 (.agg (cFm q)) (oX 2 (.agg (cSz n t f)) (oS bF (kN 63 (Ko q n t f) [(2,bx 1),(3,bx 2),(4,bF)] (jC (Zl ?_)))))))
 refine Ym (True) (ofL [(1,.box 27 (cFm q)),(2,.box 29 (cSz n t f))]) (ofT 63 [(2,bx 1),(3,bx 2),(4,bF),(25,bv (radA n t f))]) ?_ (fun _ => ?_)
 by_cases hs1:(inB 1 1048576 n)=true
 by_cases hs2:(inB 0 n t)=true
 by_cases hs3:(inB 0 n f)=true
 refine Za (oW (oW (oK (Zr (Zu n 1 1048576) hs1) [iv n,iv 1,iv 1048576] rfl rfl (oF bF (oW (oW (oW (oW (oK (Zr (Zu t 0 n) hs2) [iv t,iv 0,iv n] rfl rfl (oW (oF bF (oW (oW (oW (oW (oK (Zr (Zu f 0 n) hs3) [iv f,iv 0,iv n] rfl rfl (oW (oS bF (kN 63 [(1,.box 27 (cFm q)),(2,.box 29 (cSz n t f))] [(2,bx 1),(3,bx 2),(4,bF),(25,bF)] ?_)))))))))))))))))))
 rw [show (radA n t f)=false by simp only [radA,Bool.or_true,Bool.true_or,Bool.or_false,Bool.false_or,Bool.and_true,Bool.true_and,Bool.and_false,Bool.false_and,Bool.not_true,Bool.not_false,hs1,hs2,hs3]]
 exact tM T0
 have hs3f:(inB 0 n f)=false:=by simpa using hs3
 refine Za (oW (oW (oK (Zr (Zu n 1 1048576) hs1) [iv n,iv 1,iv 1048576] rfl rfl (oF bF (oW (oW (oW (oW (oK (Zr (Zu t 0 n) hs2) [iv t,iv 0,iv n] rfl rfl (oW (oF bF (oW (oW (oW (oW (oK (Zr (Zu f 0 n) hs3f) [iv f,iv 0,iv n] rfl rfl (oW (oS bT (kN 63 [(1,.box 27 (cFm q)),(2,.box 29 (cSz n t f))] [(2,bx 1),(3,bx 2),(4,bF),(25,bT)] ?_)))))))))))))))))))
 rw [show (radA n t f)=true by simp only [radA,Bool.or_true,Bool.true_or,Bool.or_false,Bool.false_or,Bool.and_true,Bool.true_and,Bool.and_false,Bool.false_and,Bool.not_true,Bool.not_false,hs1,hs2,hs3f]]
 exact tM T0
 have hs2f:(inB 0 n t)=false:=by simpa using hs2
 refine Za (oW (oW (oK (Zr (Zu n 1 1048576) hs1) [iv n,iv 1,iv 1048576] rfl rfl (oF bF (oW (oW (oW (oW (oK (Zr (Zu t 0 n) hs2f) [iv t,iv 0,iv n] rfl rfl (oW (oF bT (qK (qK (qK (qK (qK (qK (oS bT (kN 63 [(1,.box 27 (cFm q)),(2,.box 29 (cSz n t f))] [(2,bx 1),(3,bx 2),(4,bF),(25,bT)] ?_)))))))))))))))))))
 rw [show (radA n t f)=true by simp only [radA,Bool.or_true,Bool.true_or,Bool.or_false,Bool.false_or,Bool.and_true,Bool.true_and,Bool.and_false,Bool.false_and,Bool.not_true,Bool.not_false,hs1,hs2f]]
 exact tM T0
 have hs1f:(inB 1 1048576 n)=false:=by simpa using hs1
 refine Za (oW (oW (oK (Zr (Zu n 1 1048576) hs1f) [iv n,iv 1,iv 1048576] rfl rfl (oF bT (qK (qK (qK (qK (qK (qK (oF bT (qK (qK (qK (qK (qK (qK (oS bT (kN 63 [(1,.box 27 (cFm q)),(2,.box 29 (cSz n t f))] [(2,bx 1),(3,bx 2),(4,bF),(25,bT)] ?_)))))))))))))))))))
 rw [show (radA n t f)=true by simp only [radA,Bool.or_true,Bool.true_or,Bool.or_false,Bool.false_or,Bool.and_true,Bool.true_and,Bool.and_false,Bool.false_and,Bool.not_true,Bool.not_false,hs1f]]
 exact tM T0
 refine Zf ?_
 by_cases hs4:(radA n t f)=true
 rw [hs4]
 refine kW 63 (Ko q n t f) [(2,bx 1),(3,bx 2),(4,bF),(25,bT)] (jK (oS bF (jE (Zc ?_))))
 refine Zg Tryz.results52 (.tmp rfl) ?_
 exact cB ((adm_a hs4).symm)
 have hs4f:(radA n t f)=false:=by simpa using hs4
 rw [hs4f]
 refine kW 63 (Ko q n t f) [(2,bx 1),(3,bx 2),(4,bF),(25,bF)] (jL (jM (Za (oS (iv 0) (kN 63 (Ko q n t f) [(2,bx 1),(3,bx 2),(4,bF),(5,iv 0)] (Zf ?_))))))
 refine Ym (resvK q n t f q.res.length=true) (ofL (Ko q n t f)) (ofT 63 [(2,bx 1),(3,bx 2)]) ?_ (fun RES => ?_)
 refine Zo ?_
 refine ZL (σ:={k:Nat // k≤q.res.length∧resvK q n t f k=true}) (fun s=>(ofL (Ko q n t f),ofT 63 [(2,bx 1),(3,bx 2),(5,iv s.1)])) (fun s=>q.res.length-s.1) ⟨0,Nat.zero_le _,rfl⟩ (Zp _ _) (fun s => ?_)
 obtain ⟨k,hk0,hs0⟩:=s
 show ETri J w0 (ofL (Ko q n t f)) (ofT 63 [(2,bx 1),(3,bx 2),(5,iv k)]) _
 refine jM ?_
 by_cases hs5:(k:Int)<(q.res.length:Int)
 refine Za (oW (oW (oW (oW (ol (dT hs5) (jH (Zq (jC (Zo (Zl ?_))))))))))
 by_cases hs6:linV q.res[k].c q.res[k].n q.res[k].t q.res[k].f n t f<0
 refine tD (dW (dS (slA 4 cLn q.res) (dS (iv k) (dC (xS (k*4) 34 35 U23) I0 I0 (dA (Zj (z:=4) (.tmp 36) rfl U109 rfl (by kernel_rfl) (Z9 lenLn q.res k (by omega)) rfl) I0 (dW (dk (value_c q.res[k] n t f) [.agg (cLn q.res[k]),.agg (cSz n t f)] rfl rfl (dl (dT hs6) (eD ?_)))))))))
 refine kW 63 (Ko q n t f) [(2,bx 1),(3,bx 2),(5,iv k),(30,bT),(40,bT)] (Zf (jK (oS bF (jE (Zn (Zc (Zc (Zn (YT (Zc ?_))))))))))
 refine Zg Tryz.results52 (.tmp rfl) ?_
 exact cB ((adm_r (k:=k) (by omega) hs6).symm)
 refine tD (dW (dS (slA 4 cLn q.res) (dS (iv k) (dC (xS (k*4) 34 35 U23) I0 I0 (dA (Zj (z:=4) (.tmp 36) rfl U109 rfl (by kernel_rfl) (Z9 lenLn q.res k (by omega)) rfl) I0 (dW (dk (value_c q.res[k] n t f) [.agg (cLn q.res[k]),.agg (cSz n t f)] rfl rfl (dl (dF hs6) (eD ?_)))))))))
 refine kW 63 (Ko q n t f) [(2,bx 1),(3,bx 2),(5,iv k),(30,bT),(40,bF)] (Zf (ZA rfl (Zq (Zv (Zf (Za (oS (iv k) (oV ((k+1:Nat):Int) (oS (iv (k+1:Nat)) (kN 63 (Ko q n t f) [(2,bx 1),(3,bx 2),(5,iv (k+1:Nat)),(30,bT),(40,bF)] (Zf ?_)))))))))))
 refine Zs ⟨k+1,by omega,resvK_succ (by omega) hs0 hs6⟩ (show q.res.length-(k+1)<q.res.length-k by omega) ?_
 exact Zp _ _
 refine Za (oW (oW (oW (oW (ol (dF hs5) (kN 63 (Ko q n t f) [(2,bx 1),(3,bx 2),(5,iv k),(30,bF)] (Zf (ZA rfl (jO ?_)))))))))
 exact Ky (by have:k=q.res.length:=(by omega);subst this;exact hs0) (Zp _ _)
 refine jC (Zl ?_)
 refine Ym (True) (ofL [(1,.box 27 (cFm q)),(2,.box 29 (cSz n t f))]) (ofT 63 [(2,bx 1),(3,bx 2),(53,bv (nofB q t f))]) ?_ (fun _ => ?_)
 by_cases hs7:q.fzz=0
 by_cases hs8:t=0
 by_cases hs9:f=0
 refine Za (oW (oW (oe (dT hs7) (oS bT (oW (oW (on (dT' hs8) (oS bF (oW (oW (on (dT' hs9) (oW (oS bF (kN 63 [(1,.box 27 (cFm q)),(2,.box 29 (cSz n t f))] [(2,bx 1),(3,bx 2),(53,bF)] ?_))))))))))))))
 rw [show (nofB q t f)=false by simp only [nofB,Bool.or_true,Bool.true_or,Bool.or_false,Bool.false_or,Bool.and_true,Bool.true_and,Bool.and_false,Bool.false_and,Bool.not_true,Bool.not_false,hs4f,decide_eq_true hs7,decide_eq_true hs8,decide_eq_true hs9]]
 exact tM T0
 refine Za (oW (oW (oe (dT hs7) (oS bT (oW (oW (on (dT' hs8) (oS bF (oW (oW (on (dF' hs9) (oW (oS bT (kN 63 [(1,.box 27 (cFm q)),(2,.box 29 (cSz n t f))] [(2,bx 1),(3,bx 2),(53,bT)] ?_))))))))))))))
 rw [show (nofB q t f)=true by simp only [nofB,Bool.or_true,Bool.true_or,Bool.or_false,Bool.false_or,Bool.and_true,Bool.true_and,Bool.and_false,Bool.false_and,Bool.not_true,Bool.not_false,hs4f,decide_eq_true hs7,decide_eq_true hs8,decide_eq_false hs9]]
 exact tM T0
 refine Za (oW (oW (oe (dT hs7) (oS bT (oW (oW (on (dF' hs8) (oS bT (qK (qK (qK (oW (oS bT (kN 63 [(1,.box 27 (cFm q)),(2,.box 29 (cSz n t f))] [(2,bx 1),(3,bx 2),(53,bT)] ?_))))))))))))))
 rw [show (nofB q t f)=true by simp only [nofB,Bool.or_true,Bool.true_or,Bool.or_false,Bool.false_or,Bool.and_true,Bool.true_and,Bool.and_false,Bool.false_and,Bool.not_true,Bool.not_false,hs4f,decide_eq_true hs7,decide_eq_false hs8]]
 exact tM T0
 refine Za (oW (oW (oe (dF hs7) (oS bF (qK (qK (qK (qK (qK (qK (qK (qK (oS bF (kN 63 [(1,.box 27 (cFm q)),(2,.box 29 (cSz n t f))] [(2,bx 1),(3,bx 2),(53,bF)] ?_))))))))))))))
 rw [show (nofB q t f)=false by simp only [nofB,Bool.or_true,Bool.true_or,Bool.or_false,Bool.false_or,Bool.and_true,Bool.true_and,Bool.and_false,Bool.false_and,Bool.not_true,Bool.not_false,hs4f,decide_eq_false hs7]]
 exact tM T0
 refine Zf ?_
 by_cases hs10:(nofB q t f)=true
 rw [hs10]
 refine kW 63 (Ko q n t f) [(2,bx 1),(3,bx 2),(53,bT)] (jK (oS bF (jE (Zc ?_))))
 refine Zg Tryz.results52 (.tmp rfl) ?_
 exact cB ((adm_f hs10).symm)
 have hs10f:(nofB q t f)=false:=by simpa using hs10
 rw [hs10f]
 refine kW 63 (Ko q n t f) [(2,bx 1),(3,bx 2),(53,bF)] (jL (Zl ?_))
 by_cases hs11:q.top=4
 refine Za (oW (oW (on (dT' hs11) (oS bF (oF (iv n) (gC (sp_rem rfl (by omega) (c:=n.tmod 2) rfl) I0 I0 (gC (ZM rfl rfl) I0 I0 (oF (bv (decide (n.tmod 2=1))) (jE ?_)))))))))
 refine Zg Tryz.results52 (.tmp rfl) ?_
 exact cB ((adm_1 hs4f RES hs10f hs11).symm)
 refine Za (oW (oW (on (dF' hs11) (oS bT (qK (qK (qK (qK (oF bT (jE ?_))))))))))
 refine Zg Tryz.results52 (.tmp rfl) ?_
 exact cB ((adm_0 hs4f RES hs10f hs11).symm)
namespace Ns
def lk3 (top c i:Int):List AV:=[iv (rowL top c i).1,iv (rowL top c i).2.1,iv (rowL top c i).2.2]
def lkZ (top:Int) (n k:Nat):List AV:=(List.range k).flatMap (fun i:Nat=>lk3 top n i)++(List.replicate (n-k) [iv 0,iv 0,iv 0]).flatten
theorem lkZ_zero (top:Int) (n:Nat):(List.range (n*3)).map (fun j=>AV.v ((#[Value.int .i64 0,Value.int .i64 0,Value.int .i64 0]:Array Value).getD (j % 3) undef))=lkZ top n 0:=by
 unfold lkZ
 rw [List.range_zero,List.flatMap_nil,List.nil_append,Nat.sub_zero]
 induction n with
 | zero=>rfl
 | succ m ih =>
   rw [show (m+1)*3=m*3+1+1+1 by omega,List.range_succ,List.range_succ,List.range_succ,List.map_append,List.map_append,List.map_append,ih,List.replicate_succ',List.flatten_append]
   have e1:(m*3) % 3=0:=by omega
   have e2:(m*3+1) % 3=1:=by omega
   have e3:(m*3+1+1) % 3=2:=by omega
   simp [e2,e3]
theorem ZeS (top:Int) (n:Nat):∀ k,((List.range k).flatMap (fun i:Nat=>lk3 top n i)).length=k*3
 | 0=>rfl
 | k+1=>by rw [List.range_succ,List.flatMap_append,List.length_append,ZeS top n k];simp [lk3];omega
variable {top:Int}
theorem lkZ_len {n k:Nat} (h:k≤n):(lkZ top n k).length=n*3:=by
 unfold lkZ
 rw [List.length_append,ZeS,List.length_flatten]
 simp
 omega
theorem lkZ_step {n k:Nat} (h:k<n):setAll (lkZ top n k) (k*3) (Z5 true (lk3 top n k))=lkZ top n (k+1):=by
 unfold lkZ
 have e:n-k=(n-(k+1))+1:=by omega
 rw [e,List.replicate_succ,List.flatten_cons]
 have:=setAll_mid (Z5 true (lk3 top n k)) ((List.range k).flatMap (fun i:Nat=>lk3 top n i)) [iv 0,iv 0,iv 0] (List.replicate (n-(k+1)) [iv 0,iv 0,iv 0]).flatten rfl
 rw [ZeS,List.append_assoc] at this
 rw [this,List.range_succ,List.flatMap_append]
 simp [Z5,AV.unfr,lk3]
theorem rowLink_c {top c i:Int} (h0:0≤i) (h1:i<c) (hc:c≤8):Ctr Tryz.prog J 34 [iv top,iv c,iv i] (.agg (lk3 top c i)):=ctr3 fun w v v' v'' _ h h' h''=>by
 rw [h.v_inv,h'.v_inv,h''.v_inv]
 exact (Zap top c i w h0 h1 (by omega)).mono fun _ _ hh=>⟨_,hh.1,.agg rfl fun j hj=>(match j,hj with
  | 0,_ => .v _
  | 1,_ => .v _
  | 2,_ => .v _),hh.2⟩
def lkT (xs:List Int):AV := .sl 3 xs.length ((List.range (xs.length*3)).map fun j=>iv (cf (trun xs xs.length) j))
def cLk (xs:List Int):List AV:=[lkT xs]
theorem newLk (xs:List Int):∀ d∈[AV.fr (lkT xs)],d.isNew=true:=fun d hd=>by
 simp only [List.mem_cons,List.not_mem_nil,or_false] at hd;subst hd;rfl
theorem cellLk (xs:List Int):∀ d∈[AV.fr (lkT xs)],d.cell=true:=fun d hd=>by
 simp only [List.mem_cons,List.not_mem_nil,or_false] at hd;subst hd;rfl
variable {k:Nat}
theorem snocLk {L:List (List Int)} (h:k<L.length):(L.take k).flatMap cLk++Z5 true [.fr (lkT L[k])]=(L.take (k+1)).flatMap cLk:=by
 rw [List.take_succ_eq_append_getElem h,List.flatMap_append];simp [Z5,AV.unfr,cLk]
variable {xs:List Int}
theorem treeLinks_c (hI:InOk xs) (h0:0<xs.length) (h1:xs.length≤100):Ctr Tryz.prog J 36 [Zb xs] (lkT xs):=ctr1 fun w v _ h=>by
 have hi:=YE hI (fun _ _=>Nat.zero_le _) h
 obtain ⟨a,cap,rfl,_,_,_,hc⟩:=hi
 rcases hc with rfl | ⟨b,off,rfl,_,hb,hc⟩
 ·simp at h0
 refine (Zaj b off xs.length cap w xs rfl h1 h0 hc).mono fun _ w' ⟨g,he,ho,hb⟩=>⟨_,he,?_,hb⟩
 obtain ⟨h2,cur,t,hg,hcur⟩:=ho
 refine .sl (b:=g) (off:=0) (f:=fun j => .int .i64 (cf (trun xs xs.length) j)) (by simp) (Nat.le_refl _) (by unfold maxLen;omega) ⟨h2,_,_,hg⟩ (Array.getElem?_eq_some_iff.1 hg).1 (fun j hj => ?_) fun j hj => ?_
 ·have hj':j<xs.length*3:=by simpa using hj
  rw [Nat.zero_add,ZH hg j (v := .int .i64 (cf (trun xs xs.length) j)) (hcur j hj')]
 simp only [List.getElem_map,List.getElem_range]
 exact .v _
variable {n t f:Int}
theorem Evaluate_c {l:Ln} :Ctr Tryz.prog J 48 [.agg (cLn l),.agg (cSz n t f)] (.tup [iv (evN l.c l.n l.t l.f n t f),iv (evE l.c l.n l.t l.f n t f)]):=ctr2 fun w v v' _ h h'=>by
 obtain ⟨vs,rfl,hl,hv⟩:=YX h
 have e:vs=[.int .i64 l.c,.int .i64 l.n,.int .i64 l.t,.int .i64 l.f]:=by
  rw [cells4 hl,(hv 0 (by simp [cLn])).v_inv,(hv 1 (by simp [cLn])).v_inv,(hv 2 (by simp [cLn])).v_inv,(hv 3 (by simp [cLn])).v_inv]
 subst e
 rw [sz_of h']
 exact (Zex l.c l.n l.t l.f n t f w).mono fun _ _ hh=>⟨_,hh.1,.tup rfl fun j hj=>(match j,hj with
  | 0,_ => .v _
  | 1,_ => .v _),by first | exact hh.2 | (rw [← hh.2];exact Below.refl _ _) | (rw [hh.2];exact Below.refl _ _)⟩
def sysE (p:Fm) (n t f:Int):Int:=if valE p=0 then (if admB p n t f=true then (if 8<n then 4 else 0) else 8) else valE p
def cntE (p:Fm) (n f:Int):Int:=if p.fzz=3 then n-f else n
variable {p:Fm}
theorem adm_in (h:admB p n t f=true):1≤n∧n≤1048576∧0≤f∧f≤n:=by
 unfold admB inB at h
 simp only [Bool.and_eq_true,decide_eq_true_eq] at h
 omega
theorem rulesE_all {q:Fm}:∀ (f i:Nat),rulesE q i f=0→∀ k,i≤k→k<i+f→ruleE q k (q.rz.getD k default)=0
 | 0,i,_,k,a,b=>absurd b (by omega)
 | f+1,i,e,k,a,b=>by
   unfold rulesE at e
   split at e
   ·rename_i e1
    by_cases x:i=k
    ·subst x;exact e1
    exact rulesE_all f (i+1) e k (by omega) (by omega)
   exact absurd e (by assumption)
theorem val_lims (h:valE p=0):p.rz.length≤8∧∀ r∈p.rz,r.gz.length≤2:=by
 unfold valE at h
 split at h
 ·cases h
 split at h
 ·cases h
 split at h
 ·cases h
 split at h
 ·cases h
 rename_i g
 split at h
 ·cases h
 split at h
 ·cases h
 split at h
 ·cases h
 refine ⟨(Zbm (by simpa using g)).1,fun r hr => ?_⟩
 have a1:=ZJ h
 have a2:=ZJ a1.2
 have a3:=ZJ a2.2
 obtain ⟨j,hj,rfl⟩:=List.getElem_of_mem hr
 have:=rulesE_all _ _ a3.1 j (Nat.zero_le _) (by omega)
 rw [List.getD_eq_getElem?_getD,List.getElem?_eq_getElem hj,Option.getD_some] at this
 exact Wy this
theorem adm_c (HP:FmOk p) (hv:valE p=0):Ctr Tryz.prog J 47 [.agg (cFm p),.agg (cSz n t f)] (bv (admB p n t f)):=by
 have:=ZcS (J:=J) HP n t f
 rw [decide_eq_true hv,Bool.true_and] at this
 exact this
def shT (top n:Int):List (List Int):=if top=4 then Sh.shX n else []
theorem shT_tree (h:top=4):shT top n=Sh.shX n:=if_pos h
theorem shT_no (h:¬ top=4):shT top n=[]:=if_neg h
def sysC (p:Fm) (n t f:Int):List AV:=cFm p++[iv n,iv t,iv f,iv (cntE p n f),iv (n-f),.any,.any,.any,.any,.any,.any,.any,.any,.any,.any,.any,.any,.any,.any,.any,.any,slA 1 cLi (shT p.top (cntE p n f)),.any]
theorem sys_big (hv:valE p=0) (ha:admB p n t f=true) (h:¬ sysE p n t f=0):8<n:=by
 unfold sysE at h
 rw [if_pos hv,if_pos ha] at h
 by_cases h8:8<n
 ·exact h8
 rw [if_neg h8] at h;exact absurd rfl h
theorem sys_ok (h:sysE p n t f=0):valE p=0∧admB p n t f=true∧¬ 8<n:=by
 unfold sysE at h
 split at h
 ·split at h
  ·split at h
   ·cases h
   exact ⟨by assumption,by assumption,by assumption⟩
  cases h
 exact absurd h (by assumption)
theorem sys_e1 (h:¬ valE p=0):sysE p n t f=valE p:=by unfold sysE;rw [if_neg h]
theorem sys_e2 (h:valE p=0) (h2:admB p n t f=false):sysE p n t f=8:=by unfold sysE;rw [if_pos h,if_neg (by rw [h2];simp)]
theorem sys_e3 (h:valE p=0) (h2:admB p n t f=true) (h3:8<n):sysE p n t f=4:=by unfold sysE;rw [if_pos h,if_pos h2,if_pos h3]
theorem sys_e4 (h:valE p=0) (h2:admB p n t f=true) (h3:¬ 8<n):sysE p n t f=0:=by unfold sysE;rw [if_pos h,if_pos h2,if_neg h3]
end Ns
namespace Rd
def ixP {α:Type} (l:List α) (p:α→Bool):Int:=match l.findIdx? p with | some i=>(i:Int) | none => -1
def noP {α:Type} (l:List α) (p:α→Bool) (k:Nat):Prop:=∀ i (h:i<l.length),i<k→p l[i]=false
theorem noP_zero {α:Type} (l:List α) (p:α→Bool):noP l p 0:=fun _ _ h=>absurd h (by omega)
variable {k:Nat}
theorem noP_succ {α:Type} {l:List α} {p:α→Bool} (hk:k<l.length) (h:noP l p k) (e:p l[k]=false):noP l p (k+1):=fun i a b=>by
 by_cases hi:i<k
 ·exact h i a hi
 obtain rfl:i=k:=by omega
 exact e
theorem ixP_at {α:Type} {l:List α} {p:α→Bool} (hk:k<l.length) (h:noP l p k) (e:p l[k]=true):ixP l p=(k:Int):=by
 unfold ixP
 rw [List.findIdx?_eq_some_iff_getElem.2 ⟨hk,e,fun j hj=>by simp [h j (by omega) hj]⟩]
theorem ixP_none {α:Type} {l:List α} {p:α→Bool} (hk:¬ k<l.length) (h:noP l p k):ixP l p = -1:=by
 unfold ixP
 rw [List.findIdx?_eq_none_iff.2 fun x hx=>by
  obtain ⟨i,hi,rfl⟩:=List.mem_iff_getElem.1 hx
  exact h i hi (by omega)]
theorem anyP_ix {α:Type} (l:List α) (p:α→Bool):decide (0≤ixP l p)=l.any p:=by
 unfold ixP
 cases hf:l.findIdx? p with
 | none =>
   rw [List.findIdx?_eq_none_iff] at hf
   have:l.any p=false:=by simpa using hf
   simp [this]
 | some i =>
   obtain ⟨hi,h1,_⟩:=List.findIdx?_eq_some_iff_getElem.1 hf
   have:l.any p=true:=List.any_eq_true.2 ⟨_,List.getElem_mem hi,h1⟩
   simp [this]
def outB (m x:Int):Bool:=decide (x<0)||decide (m≤x)
variable {m x:Int}
theorem outB_lo (h:x<0):outB m x=true:=by unfold outB;simp [h]
theorem outB_hi (h:¬ x<0):outB m x=decide (m≤x):=by unfold outB;simp [h]
def belB (l:List Int) (m:Int):Bool := !l.any (outB m)
def shI (top:Int) (S:List (List Int)) (sh:List Int):Int:=if top=4 then max (ixP S fun x=>decide (sh=x)) 0 else 0
def shB (top:Int) (S:List (List Int)) (sh:List Int):Bool:=if top=4 then S.any (fun x=>decide (sh=x)) else decide (sh=[])
variable {top:Int}{sh:List Int}
theorem shI_tree {S:List (List Int)} (h:top=4):shI top S sh=max (ixP S fun x=>decide (sh=x)) 0:=if_pos h
theorem shI_no {S:List (List Int)} (h:¬ top=4):shI top S sh=0:=if_neg h
theorem shB_tree {S:List (List Int)} (h:top=4):shB top S sh=decide (0≤ixP S fun x=>decide (sh=x)):=by
 unfold shB;rw [if_pos h];exact (anyP_ix S _).symm
theorem shB_no {S:List (List Int)} (h:¬ top=4):shB top S sh=decide ((sh.length:Int)=0):=by
 unfold shB;rw [if_neg h]
 cases sh with
 | nil=>rfl
 | cons a l=>simp;omega
def cCg (c:Cf):List AV:=[Zb c.sh,Zb c.st,iv c.cor,Zb c.se,Zb c.fa,iv c.val]
structure CgOk (c:Cf):Prop where
 sh:InOk c.sh
 st:InOk c.st
 se:InOk c.se
 fa:InOk c.fa
 lsh:c.sh.length≤100
 lst:c.st.length≤100
 lse:c.se.length≤100
 lfa:c.fa.length≤100
theorem plain_cg (c:Cf):∀ X∈cCg c,Plain X:=by
 intro X hX
 simp only [cCg,List.mem_cons,List.not_mem_nil,or_false] at hX
 rcases hX with rfl | rfl | rfl | rfl | rfl | rfl<;>first | exact .v _ | exact ZK _
def mfE (p:Fm):Int:=if p.fzz=1∨p.fzz=2 then 1048577 else 1
def rdB (p:Fm) (cnt cor:Int) (c:Cf) (b:Bool):Bool :=
 b&&decide ((c.st.length:Int)=cnt)&&belB c.st (p.sz.length:Int)&&decide (c.cor=cor)&&decide ((c.se.length:Int)=(p.msgs.length:Int))&&belB c.se 1048577 &&
 decide ((c.fa.length:Int)=(p.msgs.length:Int))&&belB c.fa (mfE p) && !decide (c.val<0) && !decide (max (p.vals.length:Int) 1≤c.val)
def zz (b:Bool) (x:Int):Int:=if b=true then x else 0
def cfZ (b:Bool) (i:Int) (c:Cf):List AV :=
 [iv (zz b i),iv (zz b (c.st.getD 0 0)),iv (zz b (c.st.getD 1 0)),iv (zz b (c.st.getD 2 0)),iv (zz b (c.st.getD 3 0)),iv (zz b (c.st.getD 4 0)),iv (zz b (c.st.getD 5 0)),iv (zz b (c.st.getD 6 0)),iv (zz b (c.st.getD 7 0)),
  iv (zz b (c.se.getD 0 0)),iv (zz b (c.se.getD 1 0)),iv (zz b (c.se.getD 2 0)),iv (zz b (c.fa.getD 0 0)),iv (zz b (c.fa.getD 1 0)),iv (zz b (c.fa.getD 2 0)),iv (zz b c.val)]
def rdX (p:Fm) (n f:Int) (c:Cf):Bool:=rdB p (Ns.cntE p n f) (n-f) c (shB p.top (Ns.shT p.top (Ns.cntE p n f)) c.sh)
def rdY (p:Fm) (n f:Int) (c:Cf):Bool:=rdX p n f c
def vcE (p:Fm) (n t f:Int) (c:Cf):Int:=if Ns.sysE p n t f=0 then (if rdX p n f c=true then 0 else 1) else Ns.sysE p n t f
end Rd
namespace Rd
def inW (lo hi x:Int):Bool:=decide (lo≤x)&&decide (x≤hi)
theorem inW_in {m x lo hi:Int} (h:inW lo hi x=true) (e:lo=0∧hi+1=m):outB m x=false:=by
 unfold inW at h;unfold outB
 simp only [Bool.and_eq_true,decide_eq_true_eq] at h
 simp only [Bool.or_eq_false_iff,decide_eq_false_iff_not]
 omega
theorem inW_out {m x lo hi:Int} (h:inW lo hi x=false) (e:lo=0∧hi+1=m):outB m x=true:=by
 unfold inW at h;unfold outB
 simp only [Bool.and_eq_false_iff,decide_eq_false_iff_not] at h
 simp only [Bool.or_eq_true,decide_eq_true_eq]
 omega
variable {xs:List Int}{m:Int}{k:Nat}
theorem bel_bad (hk:k<xs.length) (h:outB m xs[k]=true):belB xs m=false:=by
 unfold belB
 rw [List.any_eq_true.2 ⟨_,List.getElem_mem hk,h⟩]
 rfl
theorem bel_all (hk:¬ k<xs.length) (h:noP xs (outB m) k):belB xs m=true:=by
 unfold belB
 rw [List.any_eq_false.2 fun x hx=>by
  obtain ⟨i,hi,rfl⟩:=List.mem_iff_getElem.1 hx
  simp [h i hi (by omega)]]
 rfl
def looseB (p:Fm):Bool:=decide (p.fzz=1)||decide (p.fzz=2)
theorem IsShape_c (hx:InOk xs) (hl:xs.length≤100):Ctr Tryz.prog J 57 [Zb xs] (bv (shp xs)):=ctr1 fun w v _ h =>
 (ZdS (YE hx (fun _ _=>Nat.zero_le _) h) (by omega)).mono fun e w' ⟨he,hw⟩=>ret_sc ⟨he,by rw [← hw];exact Below.refl _ _⟩
def badF (p:Fm) (x:Int):Bool := !decide (x=0) && !looseB p
variable {p:Fm}{x:Int}
theorem badF_z (h:x=0):badF p x=false:=by unfold badF;rw [decide_eq_true h];rfl
theorem badF_l (h:looseB p=true):badF p x=false:=by unfold badF;rw [h];simp
theorem badF_y (h:¬ x=0) (h':looseB p=false):badF p x=true:=by unfold badF;rw [decide_eq_false h,h'];rfl
theorem any_none {α:Type} {xs:List α} {q:α→Bool} (hk:¬ k<xs.length) (h:noP xs q k):xs.any q=false :=
 List.any_eq_false.2 fun x hx=>by
  obtain ⟨i,hi,rfl⟩:=List.mem_iff_getElem.1 hx
  simp [h i hi (by omega)]
theorem any_one {α:Type} {xs:List α} {q:α→Bool} (hk:k<xs.length) (h:q xs[k]=true):xs.any q=true:=List.any_eq_true.2 ⟨_,List.getElem_mem hk,h⟩
def rvB (p:Fm) (n f:Int) (c:Cf):Bool :=
 decide ((c.st.length:Int)=Ns.cntE p n f)&&belB c.st (p.sz.length:Int)&&decide (c.cor=n-f)&&(decide ((c.se.length:Int)=(p.msgs.length:Int))&&belB c.se 1048577) &&
 (decide ((c.fa.length:Int)=(p.msgs.length:Int))&&belB c.fa 1048577) && !c.fa.any (badF p)&&inW 0 (max 0 ((p.vals.length:Int)-1)) c.val &&
 (if p.top=4 then decide ((c.sh.length:Int)=n)&&shp c.sh else decide ((c.sh.length:Int)=0))
theorem val_tree (h:valE p=0) (ht:p.top=4):p.fzz=0:=by
 unfold valE at h
 split at h
 ·cases h
 split at h
 ·cases h
 split at h
 ·cases h
 split at h
 ·cases h
 split at h
 ·cases h
 split at h
 ·cases h
 rename_i g
 have h1:¬ cliB p=true:=fun e=>g (.inl ⟨by omega,e⟩)
 unfold cliB at h1
 simp at h1
 exact h1.2
variable {n:Int}
theorem shp_any (h1:1≤n) (h8:n≤8) (sh:List Int):(Sh.shX n).any (fun x=>decide (sh=x))=(decide ((sh.length:Int)=n)&&shp sh):=by
 obtain ⟨m,rfl⟩:=Int.eq_ofNat_of_zero_le (show 0≤n by omega)
 rw [← Sh.shL_eq m (by omega) (by omega)]
 rw [Bool.eq_iff_iff]
 simp only [List.any_eq_true,decide_eq_true_eq,Bool.and_eq_true]
 constructor
 ·rintro ⟨x,hx,rfl⟩
  obtain ⟨e1,e2⟩:=shK_mem hx
  exact ⟨by omega,e2⟩
 rintro ⟨e1,e2⟩
 have e3:sh.length=m:=by omega
 have:=shL_count sh (by omega)
 rw [e3,if_pos e2] at this
 exact ⟨sh,List.count_pos_iff.1 (by omega),rfl⟩
theorem bel_split :belB xs (mfE p)=(belB xs 1048577 && !xs.any (badF p)):=by
 unfold mfE
 by_cases hl:looseB p=true
 ·have:p.fzz=1∨p.fzz=2:=by unfold looseB at hl;simpa using hl
  rw [if_pos this]
  have:xs.any (badF p)=false:=List.any_eq_false.2 fun x _=>by simp [badF_l hl]
  rw [this];simp
 have hl':looseB p=false:=by simpa using hl
 have:¬ (p.fzz=1∨p.fzz=2):=fun e=>hl (by unfold looseB;simpa using e)
 rw [if_neg this]
 unfold belB
 rw [Bool.eq_iff_iff]
 simp only [Bool.not_eq_true',List.any_eq_false,Bool.and_eq_true,outB,badF,hl',Bool.not_false,Bool.and_true,Bool.or_eq_true,decide_eq_true_eq,Bool.not_eq_true',decide_eq_false_iff_not,not_or,Decidable.not_not]
 constructor
 ·intro h
  exact ⟨fun x hx=>by have:=h x hx;omega,fun x hx=>by have:=h x hx;omega⟩
 rintro ⟨h1,h2⟩ x hx
 have:=h1 x hx;have:=h2 x hx;omega
variable {t f:Int}
theorem rv_rd {c:Cf} (hs:Ns.sysE p n t f=0):rvB p n f c=rdX p n f c:=by
 obtain ⟨hv,ha,h8⟩:=Ns.sys_ok hs
 have hai:=Ns.adm_in ha
 have hval:inW 0 (max 0 ((p.vals.length:Int)-1)) c.val=(!decide (c.val<0) && !decide (max (p.vals.length:Int) 1≤c.val)):=by
  unfold inW
  rw [Bool.eq_iff_iff]
  simp only [Bool.and_eq_true,decide_eq_true_eq,Bool.not_eq_true',decide_eq_false_iff_not]
  omega
 have hsh:(if p.top=4 then decide ((c.sh.length:Int)=n)&&shp c.sh else decide ((c.sh.length:Int)=0))=shB p.top (Ns.shT p.top (Ns.cntE p n f)) c.sh:=by
  by_cases h4:p.top=4
  ·have hc:Ns.cntE p n f=n:=by unfold Ns.cntE;rw [if_neg (by have:=val_tree hv h4;omega)]
   rw [if_pos h4,Ns.shT_tree h4,hc]
   unfold shB
   rw [if_pos h4,shp_any hai.1 (by omega)]
  rw [if_neg h4,shB_no h4]
 unfold rvB rdX rdB
 rw [hsh,hval,bel_split]
 cases shB p.top (Ns.shT p.top (Ns.cntE p n f)) c.sh<;>simp [Bool.and_assoc]
 done
end Rd
namespace Ct
def bump (L:List Int) (x:Int):List Int:=L.set x.toNat (L.getD x.toNat 0+1)
def cnt (S:Nat) (xs:List Int):List Int:=xs.foldl bump (List.replicate S 0)
def two (sh A B se fa:List Int) (val:Int):Cf:=⟨sh,A++B,(A.length:Int),se,fa,val⟩
variable {L:List Int}{i:Nat}
theorem row_at (h:i<L.length):(L.map iv)[i*1]? = some (iv (L.getD i 0)):=by
 rw [Nat.mul_one,List.getElem?_map,List.getD_eq_getElem?_getD,List.getElem?_eq_getElem h]
 rfl
theorem getD_at (h:i<L.length):L.getD i 0=L[i]:=by
 rw [List.getD_eq_getElem?_getD,List.getElem?_eq_getElem h];rfl
def srt (xs:List Int):List Int:=xs.mergeSort fun x y=>decide (x≤y)
theorem srt_perm (xs:List Int):(srt xs).Perm xs:=List.mergeSort_perm _ _
theorem srt_pw (xs:List Int):List.Pairwise (fun a b=>a≤b) (srt xs):=by
 have:=List.pairwise_mergeSort (le:=fun x y:Int=>decide (x≤y)) (fun a b c h1 h2=>by simp at *;omega) (fun a b=>by simp;omega) xs
 exact this.imp fun h=>by simpa using h
variable {xs:List Int}
theorem srt_eq (hp:L.Perm xs) (hs:∀ a b,(h:a<b)→(hb:b<L.length)→L[a]≤L[b]):L=srt xs :=
 List.Perm.eq_of_pairwise (le:=fun a b:Int=>a≤b) (fun a b _ _ h1 h2=>by omega) (List.pairwise_iff_getElem.2 fun i j _ hj hij=>hs i j hij hj) (srt_pw xs) (hp.trans (srt_perm xs).symm)
structure Ins (xs L:List Int) (i k:Nat):Prop where
 perm:L.Perm xs
 le:k≤i
 ord:∀ a b,(h1:a<b)→b≤i→(hb:b<L.length)→a≠k→b≠k→L[a]'(by omega)≤L[b]
 low:∀ b,(h1:k<b)→b≤i→(hb:b<L.length)→L[k]'(by omega)<L[b]
structure Srd (xs L:List Int) (i:Nat):Prop where
 perm:L.Perm xs
 ord:∀ a b,(h1:a<b)→b<i→(hb:b<L.length)→L[a]'(by omega)≤L[b]
theorem Srd.one (xs:List Int):Srd xs xs 1:=⟨List.Perm.refl _,fun a b h1 h2 _=>by omega⟩
variable {k:Nat}
theorem Ins.out (h:Ins xs L i k) (hi:i<L.length) (hk:0<k→L[k-1]'(by have:=h.le;omega)≤L[k]'(by have:=h.le;omega)):Srd xs L (i+1):=by
 have hle:=h.le
 refine ⟨h.perm,fun a b h1 h2 hb => ?_⟩
 by_cases ea:a=k
 ·subst ea;exact Int.le_of_lt (h.low b h1 (by omega) hb)
 by_cases eb:b=k
 ·subst eb
  have h3:=hk (by omega)
  by_cases e:a=b-1
  ·subst e;exact h3
  exact Int.le_trans (h.ord a (b-1) (by omega) (by omega) (by omega) ea (by omega)) h3
 exact h.ord a b h1 (by omega) hb ea eb
def swp (L:List Int) (k:Nat):List Int:=(L.set (k-1) (L.getD k 0)).set k (L.getD (k-1) 0)
theorem swp_at {k j:Nat} (hk:0<k) (hj:j<(swp L k).length) (hkl:k<L.length):(swp L k)[j]=if j=k then L[k-1] else if j=k-1 then L[k] else L[j]'(by simpa [swp] using hj):=by
 show ((L.set (k-1) (L.getD k 0)).set k (L.getD (k-1) 0))[j]'(by simpa [swp] using hj)=_
 rw [List.getElem_set,List.getElem_set]
 by_cases e:k=j
 ·subst e;simp [List.getD_eq_getElem?_getD,List.getElem?_eq_getElem (show k-1<L.length by omega)]
 rw [if_neg e,if_neg (Ne.symm e)]
 by_cases e2:k-1=j
 ·rw [if_pos e2,if_pos e2.symm];simp [List.getD_eq_getElem?_getD,List.getElem?_eq_getElem hkl]
 rw [if_neg e2,if_neg (Ne.symm e2)]
theorem swp_perm (hkl:k<L.length):(swp L k).Perm L:=by
 have h1:k-1<L.length:=by omega
 have:=List.set_set_perm h1 hkl
 unfold swp
 rw [List.getD_eq_getElem?_getD,List.getD_eq_getElem?_getD,List.getElem?_eq_getElem hkl,List.getElem?_eq_getElem h1]
 exact this
theorem Ins.step (h:Ins xs L i k) (hi:i<L.length) (hk:0<k) (hgt:L[k]'(by have:=h.le;omega)<L[k-1]'(by have:=h.le;omega)):Ins xs (swp L k) i (k-1):=by
 have hle:=h.le
 have hkl:k<L.length:=by omega
 refine ⟨(swp_perm hkl).trans h.perm,by omega,fun a b h1 h2 hb ha hb' => ?_,fun b h1 h2 hb => ?_⟩
 ·have hb2:b<L.length:=by simpa [swp] using hb
  rw [swp_at hk _ hkl,swp_at hk _ hkl]
  by_cases eb:b=k
  ·rw [if_neg (by omega),if_neg ha,if_pos eb]
   exact h.ord a (k-1) (by omega) (by omega) (by omega) (by omega) (by omega)
  rw [if_neg eb,if_neg hb']
  by_cases ea:a=k
  ·rw [if_pos ea]
   exact h.ord (k-1) b (by omega) h2 hb2 (by omega) eb
  rw [if_neg ea,if_neg ha]
  exact h.ord a b h1 h2 hb2 ea eb
 have hb2:b<L.length:=by simpa [swp] using hb
 rw [swp_at hk _ hkl,swp_at hk _ hkl]
 rw [if_neg (by omega),if_pos rfl]
 by_cases eb:b=k
 ·rw [if_pos eb];exact hgt
 rw [if_neg eb,if_neg (by omega)]
 exact h.low b (by omega) h2 hb2
theorem Srd.eq (h:Srd xs L i) (hi:L.length≤i):L=srt xs:=srt_eq h.perm fun a b h1 hb=>h.ord a b h1 (by omega) hb
end Ct
abbrev Rw:=List Int × Int
def IsRows (lo:Nat) (w:World) (v:Value) (rs:List Rw):Prop :=
 ∃ (a:Option Addr) (cap:Nat),v = .slice a rs.length cap∧rs.length≤cap∧cap≤maxLen ∧
  (rs=[]∨∃ b off,a=some ⟨b,off,none⟩∧lo≤b∧b<w.heap.size ∧
   ∀ i (hi:i<rs.length),∃ sv,w.cell? ⟨b,off+i*2,none⟩=some sv∧w.cell? ⟨b,off+i*2+1,none⟩=some (.int .i64 rs[i].2)∧IsInts lo w sv rs[i].1∧I64 rs[i].2)
theorem IsRows.below {lo:Nat} {w w':World} {v:Value} {rs:List Rw} (h:IsRows lo w v rs) (hb:Below w.heap.size w w'):IsRows lo w' v rs:=by
 obtain ⟨a,cap,hv,hl,hm,hc⟩:=h
 refine ⟨a,cap,hv,hl,hm,?_⟩
 rcases hc with hc | ⟨b,off,ha,hlo,hbk,hcell⟩
 ·exact .inl hc
 refine .inr ⟨b,off,ha,hlo,Nat.lt_of_lt_of_le hbk hb.size,fun i hi => ?_⟩
 obtain ⟨sv,h1,h2,h3,h4⟩:=hcell i hi
 exact ⟨sv,(hb.cell (p:=⟨b,off+i*2,none⟩) hbk).trans h1,(hb.cell (p:=⟨b,off+i*2+1,none⟩) hbk).trans h2,h3.below hb,h4⟩
theorem IsRows.mono {lo lo':Nat} {w:World} {v:Value} {rs:List Rw} (h:IsRows lo w v rs) (hl:lo'≤lo):IsRows lo' w v rs:=by
 obtain ⟨a,cap,hv,h1,hm,hc⟩:=h
 refine ⟨a,cap,hv,h1,hm,?_⟩
 rcases hc with hc | ⟨b,off,ha,hlo,hbk,r⟩
 ·exact .inl hc
 exact .inr ⟨b,off,ha,Nat.le_trans hl hlo,hbk,fun i hi=>by obtain ⟨sv,h1,h2,h3,h4⟩:=r i hi;exact ⟨sv,h1,h2,h3.mono hl,h4⟩⟩
variable {lo:Nat}{w:World}{v:Value}
theorem IsRows.shape {rs:List Rw} (h:IsRows lo w v rs):∃ a cap,v = .slice a rs.length cap:=by
 obtain ⟨a,cap,hv,_⟩:=h
 exact ⟨a,cap,hv⟩
theorem IsRows.bound {rs:List Rw} (h:IsRows lo w v rs):rs.length≤9223372036854775807:=by
 obtain ⟨a,cap,_,h1,hm,_⟩:=h
 unfold maxLen at hm;omega
theorem IsRows.at {lo:Nat} {w:World} {a:Option Addr} {n cap:Nat} {rs:List Rw} (h:IsRows lo w (.slice a n cap) rs) (k:Nat) (hk:k<rs.length) :
 ∃ b off sv,a=some ⟨b,off,none⟩∧b<w.heap.size∧w.cell? ⟨b,off+k*2,none⟩=some sv∧w.cell? ⟨b,off+k*2+1,none⟩=some (.int .i64 rs[k].2)∧IsInts lo w sv rs[k].1∧I64 rs[k].2:=by
 obtain ⟨a',cap',hv,_,_,hc⟩:=h
 simp only [Value.slice.injEq] at hv
 rcases hc with rfl | ⟨b,off,ha,_,hb,hc⟩
 ·simp at hk
 obtain ⟨sv,h1,h2,h3,h4⟩:=hc k hk
 exact ⟨b,off,sv,hv.1.trans ha,hb,h1,h2,h3,h4⟩
structure Pq where
 nm:ByteArray
 kind:Int
 start:List Int
 bad:List Rw
 adj:List Int
 goal:List Int
def IsProp (lo:Nat) (w:World) (v:Value) (q:Pq):Prop :=
 ∃ v2 v3 v4 v5,v = .agg #[.string q.nm,.int .i64 q.kind,v2,v3,v4,v5]∧IsInts lo w v2 q.start∧IsRows lo w v3 q.bad∧IsInts lo w v4 q.adj∧IsInts lo w v5 q.goal∧q.nm.size≤maxLen∧I64 q.kind
theorem IsProp.below {lo:Nat} {w w':World} {v:Value} {q:Pq} (h:IsProp lo w v q) (hb:Below w.heap.size w w'):IsProp lo w' v q:=by
 obtain ⟨v2,v3,v4,v5,e,h2,h3,h4,h5,h6⟩:=h
 exact ⟨v2,v3,v4,v5,e,h2.below hb,h3.below hb,h4.below hb,h5.below hb,h6⟩
theorem IsProp.mono {lo lo':Nat} {w:World} {v:Value} {q:Pq} (h:IsProp lo w v q) (hl:lo'≤lo):IsProp lo' w v q:=by
 obtain ⟨v2,v3,v4,v5,e,h2,h3,h4,h5,h6⟩:=h
 exact ⟨v2,v3,v4,v5,e,h2.mono hl,h3.mono hl,h4.mono hl,h5.mono hl,h6⟩
end Go.Proofs.YtdbehgbggaaipaaGreat
namespace Go.Proofs.YtdbehgbggaaipaaGreat
open Go.RowKit Go.Deep Go.ChangeShapes Go.WideShapes Go.ChangeAt Go.Joins
section
variable {H:Type} {enc:TypeId × Value→H} {w:World} {base:Nat} {sp:Nat→Bool} {held:Bool}
end
end Go.Proofs.YtdbehgbggaaipaaGreat
namespace Go.Proofs.YtdbehgbggaaipaaGreat
open Go.RowKit Go.Deep
end Go.Proofs.YtdbehgbggaaipaaGreat
namespace Go.Proofs.YtdbehgbggaaipaaGreat
open Go.RowKit Go.Deep Go.ChangeShapes Go.WideShapes Go.ChangeAt Go.Joins
def RwEl (lo:Nat) (w:World) (cs:List Value) (r:Rw):Prop:=∃ v,cs=[v,.int .i64 r.2]∧IsInts lo w v r.1∧I64 r.2
def IsPropX (lo:Nat) (w:World) (v:Value) (q:Pq):Prop :=
 ∃ v2 v3 v4 v5,v = .agg #[.string q.nm,.int .i64 q.kind,v2,v3,v4,v5]∧IsInts lo w v2 q.start∧IsSl 2 RwEl lo w v3 q.bad∧IsInts lo w v4 q.adj∧IsInts lo w v5 q.goal∧q.nm.size≤maxLen∧I64 q.kind
section
variable {H:Type} {enc:TypeId × Value→H} {w:World} {base:Nat} {sp:Nat→Bool} {held:Bool}
end
structure PqOk (q:Pq):Prop where
 nm:q.nm.size≤maxLen
 kind:I64 q.kind
 start:InOk q.start
 bad:∀ r∈q.bad,InOk r.1∧I64 r.2∧r.1.length≤9223372036854775807
 adj:InOk q.adj
 goal:InOk q.goal
 lstart:q.start.length≤9223372036854775807
 lbad:q.bad.length≤9223372036854775807
 ladj:q.adj.length≤9223372036854775807
 lgoal:q.goal.length≤9223372036854775807
theorem IsPropX.ok {lo:Nat} {w:World} {v:Value} {q:Pq} (h:IsPropX lo w v q):PqOk q:=by
 obtain ⟨v2,v3,v4,v5,_,h2,h3,h4,h5,h6,h7⟩:=h
 exact ⟨h6,h7,h2.ok,h3.all fun cs r hr=>by obtain ⟨v,_,a,b⟩:=hr;exact ⟨a.ok,b,a.len⟩,h4.ok,h5.ok,h2.len,h3.bound,h4.len,h5.len⟩
section
variable {F ok:Nat→Prop} {lo:Nat} {w:World}
end
section
variable {J:World→Prop}
end
end Go.Proofs.YtdbehgbggaaipaaGreat
namespace Go.Proofs.YtdbehgbggaaipaaGreat
open Go.RowKit Go.Deep
def noI (xs:List Int) (x:Int) (k:Nat):Prop:=∀ j (h:j<xs.length),j<k→xs[j]≠x
theorem noI_zero (xs:List Int) (x:Int):noI xs x 0:=fun _ _ h=>absurd h (by omega)
variable {xs:List Int}{x:Int}{k:Nat}
theorem noI_succ (hk:k<xs.length) (h:noI xs x k) (e:¬ x=xs[k]):noI xs x (k+1):=fun j hj h'=>by
 by_cases c:j=k
 ·subst c;exact fun h=>e h.symm
 exact h j hj (by omega)
theorem noI_succ' (hk:k<xs.length) (h:noI xs x k) (e:¬ xs[k]=x):noI xs x (k+1):=noI_succ hk h (fun c=>e c.symm)
def idxI (xs:List Int) (x:Int):Int:=if x∈xs then ((xs.findIdx (· == x):Nat):Int) else -1
theorem idx_yes (hk:k<xs.length) (h:noI xs x k) (e:x=xs[k]):(k:Int)=idxI xs x:=by
 have hm:x∈xs:=by rw [e];exact List.getElem_mem hk
 have:xs.findIdx (· == x)=k:=(List.findIdx_eq hk).2 ⟨by simp [← e],fun j hj=>by simpa using h j (by omega) hj⟩
 unfold idxI;rw [if_pos hm,this]
theorem has_no (hk:¬ k<xs.length) (h:noI xs x k):decide (x∈xs)=false:=by
 rw [decide_eq_false_iff_not];intro hm
 obtain ⟨j,hj,e⟩:=List.getElem_of_mem hm
 exact h j hj (by omega) e
theorem has_yes (hk:k<xs.length) (e:xs[k]=x):decide (x∈xs)=true:=by
 rw [decide_eq_true_eq,← e];exact List.getElem_mem hk
theorem idx_no (hk:¬ k<xs.length) (h:noI xs x k):(-1:Int)=idxI xs x:=by
 have:=has_no hk h
 unfold idxI;rw [if_neg (by simpa using this)]
theorem idx_has (xs:List Int) (x:Int):decide (0≤idxI xs x)=decide (x∈xs):=by
 unfold idxI
 by_cases h:x∈xs
 ·rw [if_pos h];simp [h]
 rw [if_neg h];simp [h]
def cntE (n:Nat) (c:Rw):Int:=if setE n c.1=0 then (if (c.1.length:Int)=0 then 1 else if inB 1 3 c.2=true then 0 else 1) else setE n c.1
namespace Jd
def lkF (top:Int) (sh:List Int) (n i:Nat):Int:=if top=4 then (trun sh sh.length).fi i else (rowL top n i).1
def lkS (top:Int) (sh:List Int) (n i:Nat):Int:=if top=4 then (trun sh sh.length).se i else (rowL top n i).2.1
section
variable {top x y:Int} {xs:List Int} {F S:Nat→Int} {k:Nat}
end
def cP (xs l:List Int):Nat:=xs.countP fun x=>decide (x∈l)
def upB (xs:List Int) (bad:List Rw) (k:Nat):Prop:=∀ i (h:i<bad.length),i<k→bad[i].2≤((cP xs bad[i].1:Nat):Int)
theorem upB_zero (xs:List Int) (bad:List Rw):upB xs bad 0:=fun _ _ h=>absurd h (by omega)
theorem upB_succ {bad:List Rw} (hk:k<bad.length) (h:upB xs bad k) (e:¬ ((cP xs bad[k].1:Nat):Int)<bad[k].2):upB xs bad (k+1):=fun i hi h'=>by
 by_cases c:i=k
 ·subst c;omega
 exact h i hi (by omega)
def lkC (top:Int) (sh:List Int) (n:Nat) (j:Nat):Int:=if j % 3=0 then lkF top sh n (j / 3) else if j % 3=1 then lkS top sh n (j / 3) else if top=4 then (trun sh sh.length).pa (j / 3) else (rowL top n (j / 3)).2.2
def lkA (top:Int) (sh:List Int) (n:Nat):AV := .sl 3 n ((List.range (n*3)).map fun j=>iv (lkC top sh n j))
variable {top:Int}{sh:List Int}
theorem lkC_F {n i:Nat}:lkC top sh n (i*3)=lkF top sh n i:=by unfold lkC;rw [if_pos (by omega)];congr 1;omega
theorem lkC_S {n i:Nat}:lkC top sh n (i*3+1)=lkS top sh n i:=by unfold lkC;rw [if_neg (by omega),if_pos (by omega)];congr 1;omega
theorem lkA_tree :Ns.lkT sh=lkA 4 sh sh.length:=by
 unfold Ns.lkT lkA
 congr 1
theorem lkZ_row {n:Nat} (ht:¬ top=4):Ns.lkZ top n n=(List.range (n*3)).map fun j=>iv (lkC top sh n j):=by
 unfold Ns.lkZ
 rw [Nat.sub_self,List.replicate_zero,List.flatten_nil,List.append_nil]
 have key:∀ k,(List.range k).flatMap (fun i:Nat=>Ns.lk3 top n i)=(List.range (k*3)).map fun j=>iv (lkC top sh n j):=by
  intro k
  induction k with
  | zero=>rfl
  | succ k ih =>
    rw [List.range_succ,List.flatMap_append,ih,show (k+1)*3=k*3+1+1+1 by omega,List.range_succ,List.range_succ,List.range_succ,List.map_append,List.map_append,List.map_append]
    have e1:lkC top sh n (k*3)=(rowL top n k).1:=by rw [lkC_F];exact if_neg ht
    have e2:lkC top sh n (k*3+1)=(rowL top n k).2.1:=by rw [lkC_S];exact if_neg ht
    have e3:lkC top sh n (k*3+1+1)=(rowL top n k).2.2:=by
     unfold lkC
     rw [if_neg (by omega),if_neg (by omega),if_neg ht]
     congr 3;omega
    simp only [List.map_cons,List.map_nil,e1,e2,e3,List.flatMap_cons,List.flatMap_nil,List.append_nil,Ns.lk3,List.append_assoc,List.cons_append,List.nil_append]
 exact key n
def LkOk (top:Int) (sh:List Int) (n:Nat):Prop:=∀ i,i<n→lkF top sh n i<n∧lkS top sh n i<n
theorem lk_tree (h:shp sh=true):LkOk 4 sh sh.length:=fun i hi=>by
 have T:=(Zbl sh h).1
 unfold lkF lkS
 rw [if_pos rfl,if_pos rfl]
 have h1:=T.fst i hi
 have h2:=T.snd i hi
 constructor
 ·rcases h1 with e | ⟨j,hj,e,_⟩<;>omega
 rcases h2 with e | ⟨j,hj,e,_⟩<;>omega
theorem lk_row {n:Nat} (h:top=2∨top=3):LkOk top sh n:=fun i hi=>by
 unfold lkF lkS
 rw [if_neg (by omega),if_neg (by omega)]
 unfold rowL
 dsimp only
 constructor<;>(repeat' split)<;>omega
variable {p:Fm}
theorem top_in (h:valE p=0):1≤p.top∧p.top≤4:=by
 unfold valE at h
 split at h
 ·cases h
 split at h
 ·cases h
 rename_i _ h2
 have:inB 1 4 p.top=true:=by
  cases e:inB 1 4 p.top with
  | true=>rfl
  | false=>exact absurd (.inl e) h2
 unfold inB at this
 simp at this
 omega
end Jd
end Go.Proofs.YtdbehgbggaaipaaGreat
namespace Go.Proofs.YtdbehgbggaaipaaGreat
namespace Tr
def pre (xs:List Int):Nat→Int
 | 0=>0
 | k+1=>pre xs k+(xs.getD k 0-1)
structure TJ (xs:List Int) (s:TS) (k:Nat):Prop where
 no2:∀ p,p<k→xs.getD p 0≠2→s.fi p = -1∧s.se p = -1
 yes:∀ p,p<k→xs.getD p 0=2→p∈s.wt∨(s.fi p ≠ -1∧s.se p ≠ -1)
 fip:∀ p,p<k→s.fi p = -1∨s.fi p=p+1
 sep:∀ p,p<k→s.se p = -1∨∃ e:Nat,s.se p=e∧pre xs e+1=pre xs (p+1)∧p+1≤e∧∀ t,p+1≤t→t<e→pre xs (p+1)≤pre xs t
 top:∀ p∈s.wt,s.fi p = -1→p+1=k
 lvl:∀ A p B,s.wt=A++p::B→1+pre xs k-pre xs (p+1)=lack s.fi p-1+lacks s.fi B∧∀ t,p+1≤t→t<k→pre xs (p+1)≤pre xs t
 two1:∀ p∈s.wt,xs.getD p 0=2
theorem lack_pos (f:Nat→Int) (p:Nat):1≤lack f p:=by unfold lack;split<;>omega
theorem lacks_pos (f:Nat→Int) (w:List Nat):0≤lacks f w:=by
 induction w with
 | nil=>rw [Kt];omega
 | cons a l ih =>
   have:lacks f (a::l)=lack f a+lacks f l:=by simp [lacks]
   have:=lack_pos f a
   omega
theorem ZbK (f:Nat→Int) (v w:List Nat):lacks f (v++w)=lacks f v+lacks f w:=by simp [lacks]
variable {xs:List Int}
theorem tj_step {s s':TS} {k q:Nat} {A E:List Nat} {c:Int} (J:TJ xs s k) (hw:s.wt=A++[q]) (wl:∀ p∈s.wt,p<k) (asc:s.wt.Pairwise (· < ·)) (hc:xs.getD k 0=c)
 (hE:(c=0∧E=[])∨(c=2∧E=[k])) (hf:∀ j,j<k→j≠q→s'.fi j=s.fi j) (hs:∀ j,j<k→j≠q→s'.se j=s.se j) (hfk:s'.fi k = -1) (hsk:s'.se k = -1)
 (hq:(s.fi q = -1∧s'.fi q=k∧s'.se q=s.se q∧s'.wt=A++[q]++E)∨(s.fi q ≠ -1∧s'.fi q=s.fi q∧s'.se q=k∧s'.wt=A++E)):TJ xs s' (k+1):=by
 have hqk:q<k:=wl q (by rw [hw];simp)
 have hAq:∀ p∈A,p<q∧p<k:=fun p hp=>by
  rw [hw] at asc
  have h1:=(List.pairwise_append.1 asc).2.2 p hp q (by simp)
  exact ⟨h1,by omega⟩
 have hq2:xs.getD q 0=2:=J.two1 q (by rw [hw];simp)
 have hl:=J.lvl A q [] hw
 rw [Kt] at hl
 have hpk:pre xs (k+1)=pre xs k+(c-1):=by rw [← hc];rfl
 have hEl:lacks s'.fi E=c:=by
  rcases hE with ⟨rfl,rfl⟩ | ⟨rfl,rfl⟩
  ·exact Kt _
  have:lacks s'.fi [k]=lack s'.fi k:=by simp [lacks]
  rw [this];unfold lack;rw [hfk];simp
 have hEk:∀ p∈E,p=k∧c=2:=fun p hp=>by
  rcases hE with ⟨_,rfl⟩ | ⟨h,rfl⟩
  ·simp at hp
  exact ⟨by simpa using hp,h⟩
 have hlA:∀ p∈A,lack s'.fi p=lack s.fi p:=fun p hp=>by
  have:=hAq p hp
  unfold lack;rw [hf p this.2 (by omega)]
 have hlsA:∀ B:List Nat,(∀ p∈B,p∈A)→lacks s'.fi B=lacks s.fi B:=fun B hB=>Zas fun p hp=>by
  have:=hAq p (hB p hp)
  exact hf p this.2 (by omega)
 -- what is waiting behind: an elder one,or the new one
 have hmem:∀ p∈s'.wt,(p∈A)∨(p=q∧s.fi q = -1)∨(p=k∧c=2):=fun p hp=>by
  rcases hq with ⟨h1,_,_,h4⟩ | ⟨_,_,_,h4⟩
  ·rw [h4] at hp
   rcases List.mem_append.1 hp with hp | hp
   ·rcases List.mem_append.1 hp with hp | hp
    ·exact .inl hp
    exact .inr (.inl ⟨by simpa using hp,h1⟩)
   exact .inr (.inr (hEk p hp))
  rw [h4] at hp
  rcases List.mem_append.1 hp with hp | hp
  ·exact .inl hp
  exact .inr (.inr (hEk p hp))
 have hAin:∀ p∈A,p∈s'.wt:=fun p hp=>by
  rcases hq with ⟨_,_,_,h4⟩ | ⟨_,_,_,h4⟩<;>rw [h4]<;>simp [hp]
 have hold:∀ A' p B0,A=A'++p::B0→1+pre xs k-pre xs (p+1)=lack s.fi p-1+(lacks s.fi B0+lack s.fi q)∧∀ t,p+1≤t→t<k→pre xs (p+1)≤pre xs t:=fun A' p B0 e=>by
  have:=J.lvl A' p (B0++[q]) (by rw [hw,e];simp)
  rwa [Wg] at this
 refine ⟨fun p hp h2 => ?_,fun p hp h2 => ?_,fun p hp => ?_,fun p hp => ?_,fun p hp h1 => ?_,fun A' p B e => ?_,fun p hp => ?_⟩
 ·by_cases e:p=k
  ·subst e;exact ⟨hfk,hsk⟩
  have hpq:p≠q:=fun e2=>h2 (by rw [e2];exact hq2)
  rw [hf p (by omega) hpq,hs p (by omega) hpq]
  exact J.no2 p (by omega) h2
 ·by_cases e:p=k
  ·subst e
   rw [hc] at h2
   rcases hE with ⟨h3,_⟩ | ⟨_,h3⟩
   ·omega
   left
   rcases hq with ⟨_,_,_,h4⟩ | ⟨_,_,_,h4⟩<;>rw [h4,h3]<;>simp
  by_cases epq:p=q
  ·subst epq
   rcases hq with ⟨_,_,_,h4⟩ | ⟨h1,h2',h3,_⟩
   ·left;rw [h4];simp
   right;rw [h2',h3];exact ⟨h1,by omega⟩
  rcases J.yes p (by omega) h2 with h | h
  ·left
   rw [hw] at h
   rcases List.mem_append.1 h with h | h
   ·exact hAin p h
   exact absurd (by simpa using h) epq
  right
  rw [hf p (by omega) epq,hs p (by omega) epq]
  exact h
 ·by_cases e:p=k
  ·subst e;exact .inl hfk
  by_cases epq:p=q
  ·subst epq
   rcases hq with ⟨h1,h2,_,_⟩ | ⟨_,h2,_,_⟩
   ·right
    have:=J.top p (by rw [hw];simp) h1
    rw [h2];omega
   rw [h2];exact J.fip p (by omega)
  rw [hf p (by omega) epq];exact J.fip p (by omega)
 ·by_cases e:p=k
  ·subst e;exact .inl hsk
  by_cases epq:p=q
  ·subst epq
   rcases hq with ⟨h1,_,h3,_⟩ | ⟨h1,_,h3,_⟩
   ·rw [h3];exact J.sep p (by omega)
   right
   refine ⟨k,h3,?_,by omega,hl.2⟩
   have h4:lack s.fi p=1:=by
    unfold lack
    rcases J.fip p (by omega) with h | h
    ·exact absurd h h1
    rw [h,if_neg (by omega)]
   have:=hl.1
   rw [h4] at this
   omega
  rw [hs p (by omega) epq];exact J.sep p (by omega)
 ·rcases hmem p hp with h | ⟨rfl,h⟩ | ⟨rfl,_⟩
  ·exfalso
   have h2:=hAq p h
   rw [hf p h2.2 (by omega)] at h1
   have h3:=J.top p (by rw [hw];simp [h]) h1
   omega
  ·rcases hq with ⟨_,h2,_,_⟩ | ⟨h2,_,_,_⟩
   ·rw [h2] at h1;omega
   exact absurd h h2
  rfl
 ·have fin:∀ A1 B0,A=A1++p::B0→∀ x:Int,B=B∧lacks s'.fi B=lacks s.fi B0+x→(x=lack s.fi q-1+c)→1+pre xs (k+1)-pre xs (p+1)=lack s'.fi p-1+lacks s'.fi B∧∀ t,p+1≤t→t<k+1→pre xs (p+1)≤pre xs t:=fun A1 B0 hA x hB hx=>by
   have h1:=hold A1 p B0 hA
   have hpA:p∈A:=by rw [hA];simp
   have h2:=lack_pos s.fi p
   have h3:=lacks_pos s.fi B0
   have h4:=lack_pos s.fi q
   rw [hlA p hpA,hB.2,hpk]
   refine ⟨by omega,fun t ht ht2 => ?_⟩
   by_cases e2:t=k
   ·subst e2;omega
   exact h1.2 t ht (by omega)
  have newk:p=k→B=[]→1+pre xs (k+1)-pre xs (p+1)=lack s'.fi p-1+lacks s'.fi B∧∀ t,p+1≤t→t<k+1→pre xs (p+1)≤pre xs t:=fun e1 e2=>by
   subst e1 e2
   rw [Kt]
   unfold lack
   rw [hfk]
   refine ⟨by simp<;>omega,fun t ht ht2=>by omega⟩
  rcases hq with ⟨h1,h2,_,h4⟩ | ⟨h1,h2,_,h4⟩
  ·have hlq:lack s.fi q=2:=by unfold lack;rw [h1];simp
   have hlq':lack s'.fi q=1:=by unfold lack;rw [h2,if_neg (by omega)]
   rw [h4] at e
   rcases List.append_eq_append_iff.1 e with ⟨D,e1,e2⟩ | ⟨D,e1,e2⟩
   ·-- p among E
    cases D with
    | nil =>
      rw [List.nil_append] at e2
      have hpE:p∈E:=by rw [e2];simp
      rcases hE with ⟨_,rfl⟩ | ⟨_,rfl⟩
      ·simp at hpE
      simp only [List.cons.injEq] at e2
      exact newk e2.1.symm e2.2.symm
    | cons d D =>
      have hpE:p∈E:=by rw [e2];simp
      rcases hE with ⟨_,rfl⟩ | ⟨_,rfl⟩
      ·simp at hpE
      simp at e2
   cases D with
   | nil =>
     rw [List.nil_append] at e2
     have hpE:p∈E:=by rw [← e2];simp
     rcases hE with ⟨_,rfl⟩ | ⟨_,rfl⟩
     ·simp at hpE
     simp only [List.cons.injEq] at e2
     exact newk e2.1 e2.2
   | cons d D =>
     simp only [List.cons_append,List.cons.injEq] at e2
     obtain ⟨rfl,rfl⟩:=e2
     -- A++[q]=A'++p::D,B=D++E
     rcases List.append_eq_append_iff.1 e1 with ⟨F,e3,e4⟩ | ⟨F,e3,e4⟩
     ·cases F with
      | nil =>
        simp only [List.nil_append,List.cons.injEq] at e4
        obtain ⟨rfl,rfl⟩:=e4
        rw [List.nil_append,hEl,hlq',hpk]
        have h5:=hl.1
        rw [hlq] at h5
        refine ⟨by omega,fun t ht ht2 => ?_⟩
        by_cases e2:t=k
        ·subst e2;omega
        exact hl.2 t ht (by omega)
      | cons f F=>simp at e4
     cases F with
     | nil =>
       simp only [List.nil_append,List.cons.injEq] at e4
       obtain ⟨rfl,rfl⟩:=e4
       rw [List.nil_append,hEl,hlq',hpk]
       have h5:=hl.1
       rw [hlq] at h5
       refine ⟨by omega,fun t ht ht2 => ?_⟩
       by_cases e2:t=k
       ·subst e2;omega
       exact hl.2 t ht (by omega)
     | cons f F =>
       simp only [List.cons_append,List.cons.injEq] at e4
       obtain ⟨rfl,rfl⟩:=e4
       refine fin A' F e3 (1+c) ⟨rfl,?_⟩ (by omega)
       rw [ZbK,ZbK,hEl,hlsA F (fun x hx=>by rw [e3];simp [hx])]
       have:lacks s'.fi [q]=lack s'.fi q:=by simp [lacks]
       rw [this,hlq'];omega
  have hlq:lack s.fi q=1:=by
   unfold lack
   rcases J.fip q hqk with h | h
   ·exact absurd h h1
   rw [h,if_neg (by omega)]
  rw [h4] at e
  rcases List.append_eq_append_iff.1 e with ⟨D,e1,e2⟩ | ⟨D,e1,e2⟩
  ·have hpE:p∈E:=by rw [e2];simp
   rcases hE with ⟨_,rfl⟩ | ⟨_,rfl⟩
   ·simp at hpE
   cases D with
   | nil =>
     simp only [List.nil_append,List.cons.injEq] at e2
     exact newk e2.1.symm e2.2.symm
   | cons d D=>simp at e2
  cases D with
  | nil =>
    rw [List.nil_append] at e2
    have hpE:p∈E:=by rw [← e2];simp
    rcases hE with ⟨_,rfl⟩ | ⟨_,rfl⟩
    ·simp at hpE
    simp only [List.cons.injEq] at e2
    exact newk e2.1 e2.2
  | cons d D =>
    simp only [List.cons_append,List.cons.injEq] at e2
    obtain ⟨rfl,rfl⟩:=e2
    refine fin A' D e1 c ⟨rfl,?_⟩ (by omega)
    rw [ZbK,hEl,hlsA D (fun x hx=>by rw [e1];simp [hx])]
 rcases hmem p hp with h | ⟨rfl,_⟩ | ⟨rfl,h⟩
 ·exact J.two1 p (by rw [hw];simp [h])
 ·exact hq2
 rw [hc];exact h
theorem tj_one {c:Int} (hc:xs.getD 0 0=c) (c02:c=0∨c=2):TJ xs (trun xs 1) 1:=by
 have e:trun xs 1=tstep ⟨fun _=>0,fun _=>0,fun _=>0,[]⟩ 0 c:=by rw [← hc];rfl
 have hk:tkid ⟨fun _=>0,fun _=>0,fun _=>0,[]⟩ 0=⟨up (fun _=>0) 0 (-1),up (fun _=>0) 0 (-1),up (fun _=>0) 0 (-1),[]⟩:=rfl
 rw [e]
 unfold tstep
 rw [hk]
 have h0:∀ p,p<1→up (fun _=>(0:Int)) 0 (-1) p = -1:=fun p hp=>by
  obtain rfl:p=0:=by omega
  exact Yy _ _ _
 have hp1:pre xs 1=c-1:=by show 0+(xs.getD 0 0-1)=_;rw [hc];omega
 rcases c02 with rfl | rfl
 ·rw [if_neg (by omega)]
  refine ⟨fun p hp _=>⟨h0 p hp,h0 p hp⟩,fun p hp h => ?_,fun p hp => .inl (h0 p hp),fun p hp => .inl (h0 p hp),fun p hp=>by simp at hp,fun A p B h=>by simp at h,fun p hp=>by simp at hp⟩
  obtain rfl:p=0:=by omega
  rw [hc] at h;omega
 rw [if_pos rfl]
 refine ⟨fun p hp _=>⟨h0 p hp,h0 p hp⟩,fun p hp h => ?_,fun p hp => .inl (h0 p hp),fun p hp => .inl (h0 p hp),fun p hp _ => ?_,fun A p B h => ?_,fun p hp => ?_⟩
 ·obtain rfl:p=0:=by omega
  left;simp
 ·have:p=0:=by simpa using hp
  omega
 ·dsimp only [List.nil_append] at h
  cases A with
  | nil =>
    simp only [List.nil_append,List.cons.injEq] at h
    obtain ⟨rfl,rfl⟩:=h
    rw [Kt]
    have hL:lack (up (fun _=>(0:Int)) 0 (-1)) 0=2:=by unfold lack;simp [up]
    refine ⟨?_,fun t h1 h2=>by omega⟩
    show 1+pre xs 1-pre xs (0+1)=lack (up (fun _=>(0:Int)) 0 (-1)) 0-1+0
    rw [hL,Nat.zero_add];omega
  | cons a A=>simp at h
 have:p=0:=by simpa using hp
 rw [this];exact hc
theorem tj_run (xs:List Int) (hs:shp xs=true):∀ k,k≤xs.length→TJ xs (trun xs k) k
 | 0,_=>⟨fun _ h=>by omega,fun _ h=>by omega,fun _ h=>by omega,fun _ h=>by omega,fun _ h=>by simp [trun] at h,fun A p B h=>by simp [trun] at h,fun _ h=>by simp [trun] at h⟩
 | k+1,hk=>by
   have J:=tj_run xs hs k (by omega)
   obtain ⟨m,hI,hF⟩:=run_ok xs hs k (by omega)
   have hd:xs.drop k=xs[k]'(by omega)::xs.drop (k+1):=List.drop_eq_getElem_cons (by omega)
   have hg:xs.getD k 0=xs[k]'(by omega):=by simp [List.getD,List.getElem?_eq_getElem (show k<xs.length by omega)]
   rw [hd,shpF] at hF
   by_cases h0:m=0
   ·rw [if_pos h0] at hF;cases hF
   rw [if_neg h0] at hF
   by_cases h1:xs[k]'(by omega)≠0∧xs[k]'(by omega)≠2
   ·rw [if_pos h1] at hF;cases hF
   have c02:xs.getD k 0=0∨xs.getD k 0=2:=by rw [hg];omega
   by_cases hk0:k=0
   ·subst hk0;exact tj_one rfl c02
   have hm:=hI.cnt
   rw [if_neg hk0] at hm
   have hne:(trun xs k).wt≠[]:=fun e=>by rw [e,Kt] at hm;exact h0 hm
   obtain ⟨q,hql⟩:∃ q,(trun xs k).wt.getLast? = some q:=⟨_,List.getLast?_eq_some_getLast hne⟩
   obtain ⟨A,hA⟩:∃ A,(trun xs k).wt=A++[q]:=by
    obtain ⟨A,hA⟩:=List.getLast?_eq_some_iff.1 hql
    exact ⟨A,hA⟩
   have hqk:q<k:=(hI.wlt q (by rw [hA];simp)).1
   show TJ xs (tstep (trun xs k) k (xs.getD k 0)) (k+1)
   generalize trun xs k=s at *
   have hqn:up s.fi k (-1) q=s.fi q:=Kb _ _ (by omega)
   have hE:(xs.getD k 0=0∧(if xs.getD k 0=2 then [k] else [])=[])∨(xs.getD k 0=2∧(if xs.getD k 0=2 then [k] else [])=[k]):=by
    rcases c02 with h | h<;>rw [h]<;>simp
   have key:∀ s1:TS,tkid s k=s1→(∀ j,j<k→j≠q→s1.fi j=s.fi j)→(∀ j,j<k→j≠q→s1.se j=s.se j)→s1.fi k = -1→s1.se k = -1 →
    ((s.fi q = -1∧s1.fi q=k∧s1.se q=s.se q∧s1.wt=A++[q])∨(s.fi q ≠ -1∧s1.fi q=s.fi q∧s1.se q=k∧s1.wt=A))→TJ xs (tstep s k (xs.getD k 0)) (k+1):=fun s1 e g1 g2 g3 g4 g5=>by
    have e2:tstep s k (xs.getD k 0)=⟨s1.fi,s1.se,s1.pa,s1.wt++(if xs.getD k 0=2 then [k] else [])⟩:=by
     unfold tstep
     rw [e]
     rcases c02 with h | h<;>rw [h]<;>simp
    rw [e2]
    refine tj_step J hA (fun p hp=>(hI.wlt p hp).1) hI.asc rfl hE g1 g2 g3 g4 ?_
    rcases g5 with ⟨a1,a2,a3,a4⟩ | ⟨a1,a2,a3,a4⟩
    ·exact .inl ⟨a1,a2,a3,by dsimp only;rw [a4]⟩
    exact .inr ⟨a1,a2,a3,by dsimp only;rw [a4]⟩
   by_cases hf:s.fi q<0
   ·refine key ⟨up (up s.fi k (-1)) q k,up s.se k (-1),up (up s.pa k (-1)) k q,s.wt⟩ ?_ (fun j hj hjq => ?_) (fun j hj _=>Kb _ _ (by omega)) ?_ (Yy _ _ _) (.inl ⟨?_,Yy _ _ _,Kb _ _ (by omega),hA⟩)
    ·unfold tkid;rw [hql];dsimp only;rw [hqn,if_pos hf]
    ·show up (up s.fi k (-1)) q k j=_
     rw [Kb _ _ hjq,Kb _ _ (by omega)]
    ·show up (up s.fi k (-1)) q k k=_
     rw [Kb _ _ (by omega),Yy]
    rcases J.fip q hqk with h | h
    ·exact h
    omega
   refine key ⟨up s.fi k (-1),up (up s.se k (-1)) q k,up (up s.pa k (-1)) k q,s.wt.dropLast⟩ ?_ (fun j hj _=>Kb _ _ (by omega)) (fun j hj hjq => ?_) (Yy _ _ _) ?_ (.inr ⟨by omega,Kb _ _ (by omega),Yy _ _ _,?_⟩)
   ·unfold tkid;rw [hql];dsimp only;rw [hqn,if_neg hf]
   ·show up (up s.se k (-1)) q k j=_
    rw [Kb _ _ hjq,Kb _ _ (by omega)]
   ·show up (up s.se k (-1)) q k k=_
    rw [Kb _ _ (by omega),Yy]
   show s.wt.dropLast=A
   rw [hA];simp
variable {i:Nat}
theorem tree_kids (hs:shp xs=true) (hi:i<xs.length) :
 (xs.getD i 0≠2→(trun xs xs.length).fi i = -1∧(trun xs xs.length).se i = -1) ∧
 (xs.getD i 0=2→(trun xs xs.length).fi i=i+1∧∃ e:Nat,(trun xs xs.length).se i=e∧pre xs e+1=pre xs (i+1)∧i+1≤e∧∀ t,i+1≤t→t<e→pre xs (i+1)≤pre xs t):=by
 have J:=tj_run xs hs xs.length (Nat.le_refl _)
 have hw:=(Zbl xs hs).2
 refine ⟨J.no2 i hi,fun h => ?_⟩
 rcases J.yes i hi h with h2 | ⟨h2,h3⟩
 ·rw [hw] at h2;simp at h2
 exact ⟨(J.fip i hi).resolve_left h2,(J.sep i hi).resolve_left h3⟩
theorem pre_succ {t:Nat} (h:t<xs.length):pre xs (t+1)=pre xs t+(xs[t]-1):=by
 show pre xs t+(xs.getD t 0-1)=_
 rw [List.getD_eq_getElem?_getD,List.getElem?_eq_getElem h];rfl
theorem shp_02 (hs:shp xs=true) {t:Nat} (h:t<xs.length):xs[t]=0∨xs[t]=2:=by
 obtain ⟨m,hI,hF⟩:=run_ok xs hs t (by omega)
 rw [List.drop_eq_getElem_cons h,shpF] at hF
 split at hF
 ·cases hF
 split at hF
 ·cases hF
 omega
theorem pre_bd {xs:List Int} (hs:shp xs=true):∀ k,k≤xs.length → -(k:Int)≤pre xs k∧pre xs k≤k
 | 0,_=>by simp [pre]
 | k+1,hk=>by
   have h1:=pre_bd hs k (by omega)
   have h2:=shp_02 hs (show k<xs.length by omega)
   rw [pre_succ (by omega)]
   omega
end Tr
end Go.Proofs.YtdbehgbggaaipaaGreat
namespace Go.Proofs.YtdbehgbggaaipaaGreat
open Go.RowKit Go.Deep
variable {J:World→Prop}
namespace En
def gbV (r:Ru) (n t f:Int) (k:Nat):Int:=evN (r.gz.getD k default).bd.c (r.gz.getD k default).bd.n (r.gz.getD k default).bd.t (r.gz.getD k default).bd.f n t f
def bdAt (p:Fm) (n t f:Int) (i k:Nat):Int:=if i<p.rz.length∧k<(p.rz.getD i default).gz.length then gbV (p.rz.getD i default) n t f k else 0
def bdP (p:Fm) (n t f:Int) (R K q:Nat):Int:=if q / 2<R∨(q / 2=R∧q % 2<K) then bdAt p n t f (q / 2) (q % 2) else 0
def shS (top:Int) (c:Nat):List (List Int):=if top=4 then Sh.shX (c:Int) else if top=2∨top=3 then [[]] else []
def cLkS (top:Int) (c:Nat) (sh:List Int):List AV:=[Jd.lkA top sh c]
def lkS (top:Int) (c:Nat):AV:=slA 1 (cLkS top c) (shS top c)
def sysB (p:Fm) (n t f:Int) (R K:Nat) (sh li:AV):List AV:=midF (cFm p++[iv n,iv t,iv f,iv (Ns.cntE p n f),iv (n-f)]) 16 (fun q=>iv (bdP p n t f R K q)) [sh,li]
def sysP (p:Fm) (n t f:Int):List AV:=sysB p n t f p.rz.length 0 (slA 1 cLi (Ns.shT p.top (Ns.cntE p n f))) (lkS p.top (Ns.cntE p n f).toNat)
variable {p:Fm}{n t f:Int}{R K:Nat}
theorem sysB_len {sh li:AV}:(sysB p n t f R K sh li).length=33:=by
 unfold sysB
 rw [midF_len];rfl
variable {x:Int}
theorem sysB_step {sh li:AV} (hR:R<p.rz.length) (h8:p.rz.length≤8) (hK:K<p.rz[R].gz.length) (h2:p.rz[R].gz.length≤2)
 (hx:x=evN p.rz[R].gz[K].bd.c p.rz[R].gz[K].bd.n p.rz[R].gz[K].bd.t p.rz[R].gz[K].bd.f n t f):setAll (sysB p n t f R K sh li) (15+R*2+K*1) [iv x]=sysB p n t f R (K+1) sh li:=by
 have d1:(2*R+K) / 2=R:=by omega
 have d2:(2*R+K) % 2=K:=by omega
 have e1:p.rz.getD R default=p.rz[R]:=by rw [List.getD_eq_getElem?_getD,List.getElem?_eq_getElem hR];rfl
 have e2:p.rz[R].gz.getD K default=p.rz[R].gz[K]:=by rw [List.getD_eq_getElem?_getD,List.getElem?_eq_getElem hK];rfl
 refine midF_set (i:=2*R+K) (by omega) (by show 15+(2*R+K)=_;omega) ?_ fun j hj hne => ?_
 ·congr 2
  unfold bdP
  rw [d1,d2,if_pos (.inr ⟨rfl,by omega⟩)]
  unfold bdAt
  rw [e1,if_pos ⟨hR,hK⟩,hx]
  unfold gbV
  rw [e2]
 refine congrArg iv ?_
 unfold bdP
 by_cases c:j / 2<R∨(j / 2=R∧j % 2<K)
 ·rw [if_pos c,if_pos (by omega)]
 rw [if_neg c,if_neg (by omega)]
theorem sysB_row {sh li:AV} (hR:R<p.rz.length) (hK:¬ K<p.rz[R].gz.length):sysB p n t f (R+1) 0 sh li=sysB p n t f R K sh li:=by
 have e1:p.rz.getD R default=p.rz[R]:=by rw [List.getD_eq_getElem?_getD,List.getElem?_eq_getElem hR];rfl
 refine midF_congr fun j hj=>congrArg iv ?_
 unfold bdP
 by_cases c:j / 2<R∨(j / 2=R∧j % 2<K)
 ·rw [if_pos c,if_pos (by omega)]
 rw [if_neg c]
 by_cases d:j / 2=R
 ·rw [if_pos (by omega),d]
  unfold bdAt
  rw [e1,if_neg (by omega)]
 rw [if_neg (by omega)]
theorem sysP_bd {sh li:AV} (hR:R<p.rz.length) (h8:p.rz.length≤8) (hK:K<p.rz[R].gz.length) (h2:p.rz[R].gz.length≤2) :
 (sysB p n t f p.rz.length 0 sh li)[15+R*2+K*1]? = some (iv (gbV p.rz[R] n t f K)):=by
 have e1:p.rz.getD R default=p.rz[R]:=by rw [List.getD_eq_getElem?_getD,List.getElem?_eq_getElem hR];rfl
 have d1:(2*R+K) / 2=R:=by omega
 have d2:(2*R+K) % 2=K:=by omega
 refine (midF_get (i:=2*R+K) (by omega) (by show 15+(2*R+K)=_;omega)).trans ?_
 congr 2
 unfold bdP
 rw [d1,d2,if_pos (.inl hR)]
 unfold bdAt
 rw [e1,if_pos ⟨hR,hK⟩]
theorem plain_lkA (top:Int) (sh:List Int) (c:Nat):Plain (Jd.lkA top sh c) := .sl (ZN fun X hX=>by obtain ⟨j,_,rfl⟩:=List.mem_map.1 hX;exact .v _)
theorem plain_lkS (top:Int) (c:Nat):Plain (lkS top c):=Yx (fun sh X hX=>by
 unfold cLkS at hX
 rw [List.mem_singleton.1 hX];exact plain_lkA _ _ _) _
theorem plain_sysB (p:Fm) (n t f:Int) (R K:Nat) {sh li:AV} (h1:Plain sh) (h2:Plain li):∀ X∈sysB p n t f R K sh li,Plain X:=by
 intro X hX
 unfold sysB midF at hX
 rcases List.mem_append.1 hX with h | h
 ·rcases List.mem_append.1 h with h | h
  ·exact ZS p X h
  simp only [List.mem_cons,List.not_mem_nil,or_false] at h
  rcases h with rfl | rfl | rfl | rfl | rfl<;>exact .v _
 rcases List.mem_append.1 h with h | h
 ·obtain ⟨j,_,rfl⟩:=List.mem_map.1 h;exact .v _
 simp only [List.mem_cons,List.not_mem_nil,or_false] at h
 rcases h with rfl | rfl
 ·exact h1
 exact h2
theorem plain_sysP (p:Fm) (n t f:Int):∀ X∈sysP p n t f,Plain X:=plain_sysB p n t f _ _ (Yx ZcU _) (plain_lkS _ _)
variable {c:Nat}
theorem shX_is :∀ xs∈Sh.shX (c:Int),xs.length=c∧shp xs=true:=by
 unfold Sh.shX
 split
 ·intro xs h;cases h
 split
 ·intro xs h;cases h
 rename_i h1 h2
 rw [Int.toNat_natCast]
 obtain rfl | rfl | rfl | rfl:c=1∨c=3∨c=5∨c=7:=by omega
 all_goals decide +kernel
theorem lkS_tree :slA 1 Ns.cLk (Sh.shX (c:Int))=lkS 4 c:=by
 unfold lkS shS
 rw [if_pos rfl]
 unfold slA
 congr 1
 rw [List.flatMap_def,List.flatMap_def]
 refine congrArg List.flatten (List.map_congr_left fun sh hsh => ?_)
 unfold Ns.cLk cLkS
 rw [Jd.lkA_tree,(shX_is sh hsh).1]
variable {top:Int}
theorem lkS_row (h:top=2∨top=3):AV.sl 1 1 [.sl 3 c (Ns.lkZ top c c)]=lkS top c:=by
 unfold lkS shS
 rw [if_neg (by omega),if_pos h,Jd.lkZ_row (sh:=[]) (by omega)]
 rfl
theorem lkS_no (h:¬ top=2) (h':¬ top=3) (h4:¬ top=4):AV.sl 1 0 []=lkS top c:=by
 unfold lkS shS
 rw [if_neg h4,if_neg (by omega)]
 rfl
end En
set_option maxRecDepth 100000
set_option maxHeartbeats 6400000
variable {x m:Int}
theorem outB_c :Ctr Tryz.prog J 65 [iv x,.el ([iv m]) 0] (bv (Rd.outB m x)):=by
 refine Zm Tryz.func65 rfl (pN (.v _) (pN (.el (ZN (by intro X hX;rw [List.mem_singleton.1 hX];exact .v _))) pZ)) (n:=11) rfl (by simp) (fun w0 => ?_)
 refine kW 11 [] [(0,iv x),(1,.el ([iv m]) 0)] (jB (oS bF (jD ?_)))
 by_cases hs1:x<0
 refine Za (oW (ol (dT hs1) (oS bT (qK (qK (qK (oF bT (jE ?_))))))))
 refine Zg Tryz.results65 (.tmp rfl) ?_
 exact cB ((Rd.outB_lo hs1).symm)
 refine Za (oW (ol (dF hs1) (oS bF (oS (iv x) (oS (iv m) (gC (Zbq rfl rfl) I0 I0 (oF (bv (decide (m≤x))) (jE ?_))))))))
 refine Zg Tryz.results65 (.tmp rfl) ?_
 exact cB ((Rd.outB_hi hs1).symm)
theorem ixOut_c (xs:List Int) (lx:xs.length≤9223372036854775807):Ctr Tryz.prog J 99 [Zb xs,.clo 65 [.el ([iv m]) 0]] (iv (Rd.ixP xs (Rd.outB m))):=by
 refine Zm Tryz.func99 rfl (pN (ZK _) (pN (.clo (fun j hj=>match j,hj with | 0,_ => .el (ZN (by intro X hX;rw [List.mem_singleton.1 hX];exact .v _)))) pZ)) (n:=19) rfl (by simp) (fun w0 => ?_)
 refine kW 19 [] [(0,Zb xs),(1,.clo 65 [.el ([iv m]) 0])] (jB (oS (iv 0) (jD (jB (oF (iv xs.length) (oS (iv 0) (kN 19 [] [(0,Zb xs),(1,.clo 65 [.el ([iv m]) 0]),(4,iv 0),(7,iv xs.length),(8,iv 0)] (Zf (Zo ?_)))))))))
 refine ZL (σ:={k:Nat // k≤xs.length∧Rd.noP xs (Rd.outB m) k}) (fun s=>(ofL [],ofT 19 [(0,Zb xs),(1,.clo 65 [.el ([iv m]) 0]),(7,iv xs.length),(8,iv s.1)])) (fun s=>xs.length-s.1) ⟨0,Nat.zero_le _,Rd.noP_zero _ _⟩ (Zp [] _) (fun s => ?_)
 obtain ⟨k,hk0,hs0⟩:=s
 show ETri J w0 (ofL []) (ofT 19 [(0,Zb xs),(1,.clo 65 [.el ([iv m]) 0]),(7,iv xs.length),(8,iv k)]) _
 refine Zl ?_
 by_cases hs1:(k:Int)<(xs.length:Int)
 refine Za (ol (dT hs1) (jD (Yb rfl (Zq (jC (Zo (jB (oF (iv k) (jD ?_)))))))))
 by_cases hs2:(Rd.outB m xs[k])=true
 refine Za (oS (.clo 65 [.el ([iv m]) 0]) (oS (Zb xs) (oS (iv k) (oC (xS (k*1) 12 13 U24) I0 I0 (oL (iv xs[k]) (Zw xs (by omega)) (oC (Zac (c := .tmp 11) (xs := #[.tmp 15]) (Cs:=[.el ([iv m]) 0]) [] (Zr outB_c hs2) rfl (by kernel_rfl) rfl (Xs:=[iv xs[k]]) rfl rfl rfl rfl rfl) I0 I0 (jG (oF (iv k) (jE (Zn (Zc (Zc (Zn (Zc ?_))))))))))))))
 refine Zg Tryz.results99 (.tmp rfl) ?_
 exact congrArg (fun x:Int=>AV.v (.int .i64 x)) ((Rd.ixP_at (by omega) hs0 hs2).symm)
 have hs2f:(Rd.outB m xs[k])=false:=by simpa using hs2
 refine Za (oS (.clo 65 [.el ([iv m]) 0]) (oS (Zb xs) (oS (iv k) (oC (xS (k*1) 12 13 U24) I0 I0 (oL (iv xs[k]) (Zw xs (by omega)) (oC (Zac (c := .tmp 11) (xs := #[.tmp 15]) (Cs:=[.el ([iv m]) 0]) [] (Zr outB_c hs2f) rfl (by kernel_rfl) rfl (Xs:=[iv xs[k]]) rfl rfl rfl rfl rfl) I0 I0 (jI (Zq (Zv (Zf (Za (oV ((k+1:Nat):Int) (oS (iv (k+1:Nat)) (kN 19 [] [(0,Zb xs),(1,.clo 65 [.el ([iv m]) 0]),(5,iv k),(7,iv xs.length),(8,iv (k+1:Nat)),(9,bT),(16,bF)] (Zf ?_)))))))))))))))
 refine Zs ⟨k+1,by omega,Rd.noP_succ (by omega) hs0 hs2f⟩ (show xs.length-(k+1)<xs.length-k by omega) ?_
 exact Zp [] _
 refine Za (ol (dF hs1) (jD (ZA rfl (jO (jC (Za (oS (iv (-1)) (jE ?_))))))))
 refine Zg Tryz.results99 (.tmp rfl) ?_
 exact congrArg (fun x:Int=>AV.v (.int .i64 x)) ((Rd.ixP_none (k:=k) (by omega) hs0).symm)
theorem hasOut_c (xs:List Int) (lx:xs.length≤9223372036854775807):Ctr Tryz.prog J 64 [Zb xs,.clo 65 [.el ([iv m]) 0]] (bv (xs.any (Rd.outB m))):=by
 refine Zm Tryz.func64 rfl (pN (ZK _) (pN (.clo (fun j hj=>match j,hj with | 0,_ => .el (ZN (by intro X hX;rw [List.mem_singleton.1 hX];exact .v _)))) pZ)) (n:=9) rfl (by simp) (fun w0 => ?_)
 refine kW 9 [] [(0,Zb xs),(1,.clo 65 [.el ([iv m]) 0])] (jB (oS bF (jD (Za (oW (oW (oK (ixOut_c xs lx) [Zb xs,.clo 65 [.el ([iv m]) 0]] rfl rfl (oC (Zbq rfl rfl) I0 I0 (oS (bv (decide (0≤(Rd.ixP xs (Rd.outB m))))) (jE ?_))))))))))
 refine Zg Tryz.results64 (.tmp rfl) ?_
 exact cB (Rd.anyP_ix xs (Rd.outB m))
theorem Yj (xs:List Int) (lx:xs.length≤9223372036854775807):Ctr Tryz.prog J 41 [Zb xs,iv m] (bv (Rd.belB xs m)):=by
 refine Zm Tryz.func41 rfl (pN (ZK _) (pN (.v _) pZ)) (n:=9) rfl (by simp) (fun w0 => ?_)
 refine kW 9 [] [(0,Zb xs),(1,iv m)] (jB (oX 1 (iv m) (oS bF (jD (Za (oS (Zb xs) (oA (Zbp (xs := #[.tmp 3]) (Xs:=[bx 1]) rfl rfl) I0 (Y6 rfl (sc #[.tmp 5,.tmp 6] [(1,.box 3 [iv m])] (hasOut_c xs lx) [Zb xs,.clo 65 [bx 1]] rfl rfl rfl) ⟨I0,I0,I0,T0⟩ ⟨rfl,T0⟩ T0 (oF (bv (!(xs.any (Rd.outB m)))) (jE ?_))))))))))
 refine Zg Tryz.results41 (.tmp rfl) ?_
 exact rfl
abbrev XNs1_h1 (x0:Int) (x1:Nat) (x2:Nat):List (Nat × AV):=[(0,iv x0),(2,iv x1),(6,nz),(7,.own 1),(8,iv x2),(16,iv x1),(17,iv (x2+1:Nat)),(18,bT)]
variable {top:Int}{c:Nat}
theorem ZbI (ht:top=2∨top=3) (hc:c≤8):Ctr Tryz.prog J 85 [iv top,nz,iv c] (.sl 3 c (Ns.lkZ top c c)):=by
 refine Zm Tryz.func85 rfl (pN (.v _) (pN (.v _) (pN (.v _) pZ))) (n:=33) rfl (by simp) (fun w0 => ?_)
 refine kW 33 [] [(0,iv top),(1,nz),(2,iv c)] (jB (oS (nz) (jD (jB (oS (iv top) (jA (Zo (jM ?_))))))))
 by_cases hs1:top=2
 refine Za (oe (dT hs1) (oS bT (jH (Zq (Zf (jK (oS (iv c) (Y6 rfl (sp_makeZ (k:=1) (n:=c) (bytes:=24) (z:=3) (zv := .agg #[.int .i64 0,.int .i64 0,.int .i64 0]) true rfl U93 (by kernel_rfl) rfl (by decide) (by first | (show 24*c≤_;omega) | omega) (by unfold maxLen;omega) (cs:=(Ns.lkZ top c 0)) (Ns.lkZ_zero top c)) ⟨I0,I0,T0⟩ T0 rfl (oS (.own 1) (jD (jB (oS (.own 1) (oB (Kr (.tmp 15) rfl U93) I0 rfl (oS (iv 0) (kN 33 [(1,.row true 90 3 c (Ns.lkZ top c 0))] [(0,iv top),(2,iv c),(6,nz),(7,.own 1),(16,iv c),(17,iv 0)] (Zf ?_))))))))))))))))
 refine Zo ?_
 refine ZL (σ:={j:Nat // j≤c}) (fun s=>(ofL [(1,.row true 90 3 c (Ns.lkZ top c s.1))],ofT 33 [(0,iv top),(2,iv c),(6,nz),(7,.own 1),(16,iv c),(17,iv s.1)])) (fun s=>c-s.1) ⟨0,Nat.zero_le _⟩ (Zp _ _) (fun s => ?_)
 obtain ⟨j,hj0⟩:=s
 show ETri J w0 (ofL [(1,.row true 90 3 c (Ns.lkZ top c j))]) (ofT 33 [(0,iv top),(2,iv c),(6,nz),(7,.own 1),(16,iv c),(17,iv j)]) _
 refine Zl ?_
 by_cases hs2:(j:Int)<(c:Int)
 refine Za (ol (dT hs2) (jD (Yb rfl (Zq (jC (Zo (jB (oF (iv j) (jA (Za (oS (.own 1) (oS (iv j) (oW (oW (oW (oK (Ns.rowLink_c (by omega) (by omega) (by omega)) [iv top,iv c,iv j] rfl rfl (Y6 rfl (ZZ (off:=j*3) (.tmp 20) (.tmp 21) rfl U93 (by kernel_rfl) (by omega) (by omega) rfl) ⟨I0,I0,T0⟩ ⟨rfl,T0⟩ T0 (Y6 rfl (Yv (X := .agg [iv ((rowL top (c:Int) (((j):Nat):Int)).1),iv ((rowL top (c:Int) (((j):Nat):Int)).2.1),iv ((rowL top (c:Int) (((j):Nat):Int)).2.2)]) (off:=j*3) (cs:=(Ns.lkZ top c j)) (ds:=(Ns.lkZ top c (j+1))) (zz:=3) (.tmp 26) (.tmp 25) rfl (by kernel_rfl) (by kernel_rfl) (fun _ d hd=>by simp only [AV.cellsOf,Ns.lk3,List.mem_cons,List.not_mem_nil,or_false] at hd;rcases hd with rfl | rfl | rfl<;>rfl) (by kernel_rfl) (by rw [Ns.lkZ_len (by omega)];omega) (Ns.lkZ_step (by omega))) ⟨I0,.inr (.inr (.inl ⟨_,rfl,rfl⟩)),T0⟩ ⟨rfl,T0⟩ rfl ?_))))))))))))))))))
 refine Yh (Zv (Zf (Za (oV ((j+1:Nat):Int) (oS (iv (j+1:Nat)) (kN 33 [(1,.row true 90 3 c (Ns.lkZ top c (j+1)))] (XNs1_h1 top c j) (Zf ?_)))))))
 refine Zs ⟨j+1,by omega⟩ (show c-(j+1)<c-j by omega) ?_
 exact Zp _ _
 refine Za (ol (dF hs2) (jD (ZA rfl (jO (jC (Za (oF (.own 1) (jE (Zn (Zc ?_))))))))))
 refine Zg Tryz.results85 (.tmp rfl) ?_
 obtain rfl:j=c:=by omega
 exact rfl
 refine Za (oe (dF hs1) (oS bF (jI (Za (oC (ZM rfl (dT (by omega))) I0 I0 (oS bT (jG (oS (iv c) (Y6 rfl (sp_makeZ (k:=1) (n:=c) (bytes:=24) (z:=3) (zv := .agg #[.int .i64 0,.int .i64 0,.int .i64 0]) true rfl U93 (by kernel_rfl) rfl (by decide) (by first | (show 24*c≤_;omega) | omega) (by unfold maxLen;omega) (cs:=(Ns.lkZ top c 0)) (Ns.lkZ_zero top c)) ⟨I0,I0,T0⟩ T0 rfl (oS (.own 1) (jD (jB (oS (.own 1) (oB (Kr (.tmp 15) rfl U93) I0 rfl ?_))))))))))))))
 refine oS (iv 0) (kN 33 [(1,.row true 90 3 c (Ns.lkZ top c 0))] [(0,iv top),(2,iv c),(6,nz),(7,.own 1),(16,iv c),(17,iv 0)] (Zf (Zo ?_)))
 refine ZL (σ:={j:Nat // j≤c}) (fun s=>(ofL [(1,.row true 90 3 c (Ns.lkZ top c s.1))],ofT 33 [(0,iv top),(2,iv c),(6,nz),(7,.own 1),(16,iv c),(17,iv s.1)])) (fun s=>c-s.1) ⟨0,Nat.zero_le _⟩ (Zp _ _) (fun s => ?_)
 obtain ⟨j,hj0⟩:=s
 show ETri J w0 (ofL [(1,.row true 90 3 c (Ns.lkZ top c j))]) (ofT 33 [(0,iv top),(2,iv c),(6,nz),(7,.own 1),(16,iv c),(17,iv j)]) _
 refine Zl ?_
 by_cases hs3:(j:Int)<(c:Int)
 refine Za (ol (dT hs3) (jD (Yb rfl (Zq (jC (Zo (jB (oF (iv j) (jA (Za (oS (.own 1) (oS (iv j) (oW (oW (oW (oK (Ns.rowLink_c (by omega) (by omega) (by omega)) [iv top,iv c,iv j] rfl rfl (Y6 rfl (ZZ (off:=j*3) (.tmp 20) (.tmp 21) rfl U93 (by kernel_rfl) (by omega) (by omega) rfl) ⟨I0,I0,T0⟩ ⟨rfl,T0⟩ T0 (Y6 rfl (Yv (X := .agg [iv ((rowL top (c:Int) (((j):Nat):Int)).1),iv ((rowL top (c:Int) (((j):Nat):Int)).2.1),iv ((rowL top (c:Int) (((j):Nat):Int)).2.2)]) (off:=j*3) (cs:=(Ns.lkZ top c j)) (ds:=(Ns.lkZ top c (j+1))) (zz:=3) (.tmp 26) (.tmp 25) rfl (by kernel_rfl) (by kernel_rfl) (fun _ d hd=>by simp only [AV.cellsOf,Ns.lk3,List.mem_cons,List.not_mem_nil,or_false] at hd;rcases hd with rfl | rfl | rfl<;>rfl) (by kernel_rfl) (by rw [Ns.lkZ_len (by omega)];omega) (Ns.lkZ_step (by omega))) ⟨I0,.inr (.inr (.inl ⟨_,rfl,rfl⟩)),T0⟩ ⟨rfl,T0⟩ rfl ?_))))))))))))))))))
 refine Yh (Zv (Zf (Za (oV ((j+1:Nat):Int) (oS (iv (j+1:Nat)) (kN 33 [(1,.row true 90 3 c (Ns.lkZ top c (j+1)))] (XNs1_h1 top c j) (Zf ?_)))))))
 refine Zs ⟨j+1,by omega⟩ (show c-(j+1)<c-j by omega) ?_
 exact Zp _ _
 refine Za (ol (dF hs3) (jD (ZA rfl (jO (jC (Za (oF (.own 1) (jE (Zn (Zc ?_))))))))))
 refine Zg Tryz.results85 (.tmp rfl) ?_
 obtain rfl:j=c:=by omega
 exact rfl
variable {xs:List Int}
theorem ZdX {c:Int} (hI:InOk xs) (h0:0<xs.length) (h1:xs.length≤100):Ctr Tryz.prog J 85 [iv 4,Zb xs,iv c] (Ns.lkT xs):=by
 refine Zm Tryz.func85 rfl (pN (.v _) (pN (ZK _) (pN (.v _) pZ))) (n:=33) rfl (by simp) (fun w0 => ?_)
 refine kW 33 [] [(0,iv 4),(1,Zb xs),(2,iv c)] (jB (oS (nz) (jD (jB (oS (iv 4) (jA (Zo (jM (Za (oC (ZM (r:=false) rfl (by decide)) I0 I0 (oS bF (jI (Za (oC (ZM (r:=false) rfl (by decide)) I0 I0 (oS bF ?_)))))))))))))))
 refine jI (jB (oC (ZM (r:=true) rfl (by decide)) I0 I0 (oS bT (jG (oW (oK (Ns.treeLinks_c hI h0 h1) [Zb xs] rfl rfl (oS (.fr (Ns.lkT xs)) (jE (Zn (Zc ?_))))))))))
 refine Zg Tryz.results85 (.tmp rfl) ?_
 exact rfl
theorem Sh_pos :∀ xs∈Sh.shX (c:Int),0<xs.length:=by
 unfold Sh.shX
 split
 ·intro xs h;cases h
 split
 ·intro xs h;cases h
 rename_i h1 h2
 rw [Int.toNat_natCast]
 obtain rfl | rfl | rfl | rfl:c=1∨c=3∨c=5∨c=7:=by omega
 all_goals decide
set_option maxHeartbeats 12800000
namespace Ns
variable {p:Fm}{n f:Int}
theorem cnt_lo (h:1≤n∧n≤1048576∧0≤f∧f≤n):0≤cntE p n f:=by unfold cntE;split<;>omega
theorem cnt_hi (h:1≤n∧n≤1048576∧0≤f∧f≤n) (h8:¬ 8<n):cntE p n f≤8:=by unfold cntE;split<;>omega
theorem plain_sys (p:Fm) (n t f:Int):∀ X∈sysC p n t f,Plain X:=by
 intro X hX
 unfold sysC at hX
 rcases List.mem_append.1 hX with h | h
 ·exact ZS p X h
 simp only [List.mem_cons,List.not_mem_nil,or_false] at h
 rcases h with rfl | rfl | rfl | rfl | rfl | rfl | rfl | rfl | rfl | rfl | rfl | rfl | rfl | rfl | rfl | rfl | rfl | rfl | rfl | rfl | rfl | rfl | rfl<;>first | exact .v _ | exact .any | exact .any _ | exact Yx ZcU _
theorem plain_mask {m:List Bool} {c0:List AV} (h:∀ xs,(maskC m xs c0).all AV.isV=true):∀ xs,∀ X∈maskC m xs c0,Plain X:=fun xs X hX=>by
 have:=List.all_eq_true.1 (h xs) X hX
 cases X<;>first | exact .v _ | cases this
theorem pw1 {k o:Nat}:∀ X∈[AV.box k o],PlainW X:=fun X hX=>by
 rw [List.mem_singleton] at hX;rw [hX];exact .box _ _
end Ns
variable {p:Fm}{n t f:Int}
set_option maxRecDepth 100000 in
theorem ZcW (HP:FmOk p) (hs:¬ Ns.sysE p n t f=0):CtrA Tryz.prog J 29 [.agg (cFm p),.agg (cSz n t f)] (.tup [.v (.pointer none),iv (Ns.sysE p n t f)]):=by
 refine Zau Tryz.func29 rfl (pN (Zh (ZS p)) (pN (Zh (Ya n t f)) pZ)) (n:=80) rfl (by simp) (fun w0 => ?_)
 refine kW 80 [] [(0,.agg (cFm p)),(1,.agg (cSz n t f))] (jB (oX 1 (.agg (cFm p)) (oX 2 (.agg (cSz n t f)) (oS (.v (.pointer none)) (oS (iv 0) (jD (jB (oW (oK (ZbF HP) [.agg (cFm p)] rfl rfl (oS (iv (valE p)) (jD ?_)))))))))))
 by_cases hs1:valE p=0
 obtain ⟨hr8,hg2⟩:=Ns.val_lims hs1
 refine Za (oW (on (dT' hs1) (jF (jM ?_))))
 by_cases hs2:(admB p n t f)=true
 have hai:=Ns.adm_in hs2
 refine Za (oW (oW (oK (Zr (Ns.adm_c HP hs1) hs2) [.agg (cFm p),.agg (cSz n t f)] rfl rfl (oS bF (jF (jM (Za (oF (iv n) (oC (Zdw rfl (dT (Ns.sys_big hs1 hs2 hs))) I0 I0 (jG (oS (.v (.pointer none)) (oS (iv 4) (jA ?_)))))))))))))
 refine jN ?_
 refine Zay [(1,.box 27 (cFm p)),(2,.box 29 (cSz n t f))] Tryz.results29 (.tmp rfl) (.tmp rfl) (by kernel_rfl) rfl rfl rfl ?_ ?_ ?_
 ·exact .v _
 ·exact .v _
 ·rw [Ns.sys_e3 hs1 hs2 (Ns.sys_big hs1 hs2 hs)];rfl
 have hs2f:(admB p n t f)=false:=by simpa using hs2
 refine Za (oW (oW (oK (Zr (Ns.adm_c HP hs1) hs2f) [.agg (cFm p),.agg (cSz n t f)] rfl rfl (oS bT (jG (oS (.v (.pointer none)) (oS (iv 8) (jE (Zc ?_)))))))))
 refine Zay [(1,.box 27 (cFm p)),(2,.box 29 (cSz n t f))] Tryz.results29 (.tmp rfl) (.tmp rfl) (by kernel_rfl) rfl rfl rfl ?_ ?_ ?_
 ·exact .v _
 ·exact .v _
 ·rw [Ns.sys_e2 hs1 hs2f];rfl
 refine Za (oW (on (dF' hs1) (jG (oW (oS (.v (.pointer none)) (oS (iv (valE p)) (jE (Zc ?_))))))))
 refine Zay [(1,.box 27 (cFm p)),(2,.box 29 (cSz n t f))] Tryz.results29 (.tmp rfl) (.tmp rfl) (by kernel_rfl) rfl rfl rfl ?_ ?_ ?_
 ·exact .v _
 ·exact .v _
 rw [Ns.sys_e1 hs1];rfl
theorem Zcl {x sh:List Int} (HX:InOk x) (HS:InOk sh):Ctr Tryz.prog J 87 [Zb x,.el ([Zb sh]) 0] (bv (decide (sh=x))):=by
 refine Zm Tryz.func87 rfl (pN (ZK _) (pN (.el (ZN (by intro X hX;rw [List.mem_singleton.1 hX];exact ZK _))) pZ)) (n:=7) rfl (by simp) (fun w0 => ?_)
 refine kW 7 [] [(0,Zb x),(1,.el ([Zb sh]) 0)] (jB (oS bF (jD (Za (oW (oW (oK (eqIntsG sh x HS HX) [Zb sh,Zb x] rfl rfl (oS (bv (decide (sh=x))) (jE ?_)))))))))
 refine Zg Tryz.results87 (.tmp rfl) ?_
 exact rfl
variable {sh:List Int}
theorem ixShape_c {S:List (List Int)} (hS:∀ x∈S,InOk x) (lS:S.length≤5) (HS:InOk sh):Ctr Tryz.prog J 86 [slA 1 cLi S,.clo 87 [.el ([Zb sh]) 0]] (iv (Rd.ixP S fun x=>decide (sh=x))):=by
 refine Zm Tryz.func86 rfl (pN (Yx ZcU _) (pN (.clo (fun j hj=>match j,hj with | 0,_ => .el (ZN (by intro X hX;rw [List.mem_singleton.1 hX];exact ZK _)))) pZ)) (n:=19) rfl (by simp) (fun w0 => ?_)
 refine kW 19 [] [(0,slA 1 cLi S),(1,.clo 87 [.el ([Zb sh]) 0])] (jB (oS (iv 0) (jD (jB (oF (iv S.length) (oS (iv 0) (kN 19 [] [(0,slA 1 cLi S),(1,.clo 87 [.el ([Zb sh]) 0]),(4,iv 0),(7,iv S.length),(8,iv 0)] (Zf (Zo ?_)))))))))
 refine ZL (σ:={k:Nat // k≤S.length∧Rd.noP S (fun x=>decide (sh=x)) k}) (fun s=>(ofL [],ofT 19 [(0,slA 1 cLi S),(1,.clo 87 [.el ([Zb sh]) 0]),(7,iv S.length),(8,iv s.1)])) (fun s=>S.length-s.1) ⟨0,Nat.zero_le _,Rd.noP_zero _ _⟩ (Zp [] _) (fun s => ?_)
 obtain ⟨k,hk0,hs0⟩:=s
 show ETri J w0 (ofL []) (ofT 19 [(0,slA 1 cLi S),(1,.clo 87 [.el ([Zb sh]) 0]),(7,iv S.length),(8,iv k)]) _
 refine Zl ?_
 by_cases hs1:(k:Int)<(S.length:Int)
 refine Za (ol (dT hs1) (jD (Yb rfl (Zq (jC (Zo (jB (oF (iv k) (jD ?_)))))))))
 by_cases hs2:(decide (sh=S[k]))=true
 refine Za (oS (.clo 87 [.el ([Zb sh]) 0]) (oS (slA 1 cLi S) (oS (iv k) (oC (xS (k*1) 12 13 U61) I0 I0 (oL (Zb S[k]) (fT lenLi S k 0) (oC (Zac (c := .tmp 11) (xs := #[.tmp 15]) (Cs:=[.el ([Zb sh]) 0]) [] (Zr (Zcl (hS S[k] (List.getElem_mem (by omega))) HS) hs2) rfl (by kernel_rfl) rfl (Xs:=[Zb S[k]]) rfl rfl rfl rfl rfl) I0 I0 (jG (oF (iv k) (jE (Zn (Zc (Zc (Zn (Zc ?_))))))))))))))
 refine Zg Tryz.results86 (.tmp rfl) ?_
 exact congrArg (fun x:Int=>AV.v (.int .i64 x)) ((Rd.ixP_at (by omega) hs0 hs2).symm)
 have hs2f:(decide (sh=S[k]))=false:=by simpa using hs2
 refine Za (oS (.clo 87 [.el ([Zb sh]) 0]) (oS (slA 1 cLi S) (oS (iv k) (oC (xS (k*1) 12 13 U61) I0 I0 (oL (Zb S[k]) (fT lenLi S k 0) (oC (Zac (c := .tmp 11) (xs := #[.tmp 15]) (Cs:=[.el ([Zb sh]) 0]) [] (Zr (Zcl (hS S[k] (List.getElem_mem (by omega))) HS) hs2f) rfl (by kernel_rfl) rfl (Xs:=[Zb S[k]]) rfl rfl rfl rfl rfl) I0 I0 (jI (Zq (Zv (Zf (Za (oV ((k+1:Nat):Int) (oS (iv (k+1:Nat)) (kN 19 [] [(0,slA 1 cLi S),(1,.clo 87 [.el ([Zb sh]) 0]),(5,iv k),(7,iv S.length),(8,iv (k+1:Nat)),(9,bT),(16,bF)] (Zf ?_)))))))))))))))
 refine Zs ⟨k+1,by omega,Rd.noP_succ (by omega) hs0 hs2f⟩ (show S.length-(k+1)<S.length-k by omega) ?_
 exact Zp [] _
 refine Za (ol (dF hs1) (jD (ZA rfl (jO (jC (Za (oS (iv (-1)) (jE ?_))))))))
 refine Zg Tryz.results86 (.tmp rfl) ?_
 exact congrArg (fun x:Int=>AV.v (.int .i64 x)) ((Rd.ixP_none (k:=k) (by omega) hs0).symm)
theorem Rd.shT_ok (top n:Int):∀ x∈Ns.shT top n,InOk x:=by
 unfold Ns.shT
 split
 ·exact fun x hx=>(Sh.shX_mem n x hx).2
 intro x hx;cases hx
theorem Rd.shT_len (top n:Int):(Ns.shT top n).length≤5:=by
 unfold Ns.shT
 split
 ·exact Sh.shX_len n
 simp
theorem ZeK (HS:InOk sh) (lsh:sh.length≤100):Ctr Tryz.prog J 50 [.el (Ns.sysC p n t f) 0,Zb sh] (.tup [iv (Rd.shI p.top (Ns.shT p.top (Ns.cntE p n f)) sh),bv (Rd.shB p.top (Ns.shT p.top (Ns.cntE p n f)) sh)]):=by
 refine Zm Tryz.func50 rfl (pN (show Plain (.el (Ns.sysC p n t f) 0) from .el (ZN (Ns.plain_sys p n t f))) (pN (ZK _) pZ)) (n:=26) rfl (by simp) (fun w0 => ?_)
 refine kW 26 [] [(0,.el (Ns.sysC p n t f) 0),(1,Zb sh)] (jB (oX 1 (Zb sh) (oS (iv 0) (oS bF (jD (Zl ?_))))))
 by_cases hs1:p.top=4
 refine Za (oW (oW (oW (oW (oW (on (dT' hs1) (jF (jB (oW (oW (oF (slA 1 cLi (Ns.shT p.top (Ns.cntE p n f))) (oA (Zbp (xs := #[.tmp 3]) (Xs:=[bx 1]) rfl rfl) I0 (Y6 rfl (sc #[.tmp 19,.tmp 20] [(1,.box 24 [Zb sh])] (ixShape_c (Rd.shT_ok _ _) (Rd.shT_len _ _) HS) [slA 1 cLi (Ns.shT p.top (Ns.cntE p n f)),.clo 87 [bx 1]] rfl rfl rfl) ⟨I0,I0,I0,T0⟩ ⟨rfl,T0⟩ T0 (oS (iv (Rd.ixP (Ns.shT p.top (Ns.cntE p n f)) fun x=>decide (sh=x))) (jD (Za ?_))))))))))))))))
 refine oS (iv (Rd.ixP (Ns.shT p.top (Ns.cntE p n f)) fun x=>decide (sh=x))) (oC (Zdv (.tmp 22) (.const (.int .i64 0)) rfl) I0 I0 (oS (iv (Rd.ixP (Ns.shT p.top (Ns.cntE p n f)) fun x=>decide (sh=x))) (oC (Zbq rfl rfl) I0 I0 (oS (iv (max (Rd.ixP (Ns.shT p.top (Ns.cntE p n f)) fun x=>decide (sh=x)) 0)) (oS (bv (decide (0≤(Rd.ixP (Ns.shT p.top (Ns.cntE p n f)) fun x=>decide (sh=x))))) (jE ?_))))))
 refine ZQ Tryz.results50 (.tmp rfl) (.tmp rfl) ?_
 rw [Rd.shI_tree hs1,Rd.shB_tree hs1]
 exact rfl
 refine Za (oW (oW (oW (oW (oW (on (dF' hs1) (jH (Zl ?_))))))))
 refine tD (dW (dS (iv sh.length) (dC (ZM rfl rfl) I0 I0 (dS (iv 0) (dS (bv (decide ((sh.length:Int)=0))) (eD ?_))))))
 refine Zf (jN ?_)
 refine ZQ Tryz.results50 (.tmp rfl) (.tmp rfl) ?_
 rw [Rd.shI_no hs1,Rd.shB_no hs1]
 exact rfl
end Go.Proofs.YtdbehgbggaaipaaGreat
